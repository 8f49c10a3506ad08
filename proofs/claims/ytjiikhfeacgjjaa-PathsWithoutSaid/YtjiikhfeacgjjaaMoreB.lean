/-
  One channel more, in a statement that draws its order: the two appends as steps; the plan behind them.
-/
import Derived.Test.YtjiikhfeacgjjaaMoreA
import Derived.Laws.AppendOwnNone
import Derived.Deep.RegionLaw
import Derived.Deep.AppendLies
namespace Go.Proofs.Ytjiikhfeacgjjaa
open Go.ChangeShapes Go.WideShapes Go.ChangeAt Go.RowKit Go.Deep

theorem own_none {W : World} {k base : Nat} (h : W.heap[k]? = some (.cells #[] 44 (0, 0))) (hb : base ≤ k) : W.ownsRow base 44 6 (.slice (some ⟨k, 0, none⟩) 0 0) 0 [] :=
  ⟨rfl, .inr ⟨k, 0, #[], rfl, hb, h, Nat.le_refl _, by decide, rfl, rfl⟩⟩
theorem step_append_chans {w : World} {ops : Array Oper} {o : Oper} {a : Act} {K : Act → World → Prop} {Q : Exit → Act → World → Prop} {E : Prop} (hgd : o.guard = none) (s x : Operand)
    (ho : o.op = .call { callee := .builtin .append, args := #[s, x], argTypes := #[25, 25] })
    (base k : Nat) (hs : a.eval s = .slice (some ⟨k, 0, none⟩) 0 0) (hk : w.heap[k]? = some (.cells #[] 44 (0, 0))) (hbk : base ≤ k) (A : Option Addr) (c n : Nat) (l : List ChanA) (hx : a.eval x = .slice A n c) (hnl : n = l.length) (hch : ChansAt w A l) (hnil : A = none → c = 0) (hl : l.length ≤ 1000) (hbase : base ≤ w.heap.size)
    (h : ∀ A' c' w', w'.ownsRow base 44 6 (.slice A' n c') n (l.flatMap chanV) → w.grownBy w' (some k) → K (a.put o.dst (.slice A' n c')) w') :
    if Region.wanted o (yielded ops a.tmps) = true then Oper.wp Try.prog o a w K Q else E := by
  obtain ⟨i0, hi, hz0, hz1, hz2⟩ := info_parts info44
  have hw : Region.wanted o (yielded ops a.tmps) = true := by simp [Region.wanted, hgd]
  rw [if_pos hw]
  have hown := own_none hk hbk
  subst hnl
  rcases A with _ | ad
  · obtain rfl : l = [] := by
      cases l with
      | nil => rfl
      | cons x r => obtain ⟨_, _, e⟩ := Arr.head hch (i := 0) (by simp); cases e
    obtain rfl : c = 0 := hnil rfl
    have hrun := run_append_owned_none (P := Try.prog) (w := w) base 25 o.type 44 i0 6 Try.underlying25 hi _ 0 [] hown
    have hfin := h _ _ _ hown (World.grownBy.refl _ _)
    simp only [List.length_nil] at hx hfin
    unfold Oper.wp
    simp [execOp, ho, resolve, invoke, builtin, hs, hx, hrun, Result.andThen]
    exact hfin
  · have hnews : ∀ j u, (l.flatMap chanV)[j]? = some u → w.cell? (ad.add j) = some u := by
      intro j u hu
      have hl0 : 0 < l.length := by
        cases l with
        | nil => simp at hu
        | cons x r => simp
      obtain ⟨b, o, e⟩ := Arr.head hch hl0
      injection e with e
      subst e
      exact arr_news (by omega : 0 < 6) (fun _ => rfl) hch j u hu
    refine wp_append_own w s x 25 ho base 44 i0 (.agg #[.int .u8 0, .int .u8 0, .int .u8 0, .int .u8 0, .int .u8 0, .int .u16 0]) 6 8 Try.underlying25 hi hz0 hz1 hz2 rfl (by decide) _ 0 [] hs hown ad l.length c (l.flatMap chanV) hx (flat_len chanV 6 l (fun _ => rfl)) hnews chans_one (by unfold maxLen; omega) (by omega) hbase fun v' w' h1 h2 _ => ?_
    rw [Nat.zero_add, List.nil_append] at h1
    obtain ⟨A', c', rfl⟩ := own_form h1
    exact h A' c' w' h1 h2
theorem step_append_one {w : World} {ops : Array Oper} {o : Oper} {a : Act} {K : Act → World → Prop} {Q : Exit → Act → World → Prop} {E : Prop} (hgd : o.guard = none) (s x : Operand)
    (ho : o.op = .call { callee := .builtin .append, args := #[s, x], argTypes := #[25, 25] })
    (base k : Nat) (A1 : Option Addr) (c1 n : Nat) (l : List ChanA) (hs : a.eval s = .slice A1 n c1) (hown : w.ownsRow base 44 6 (.slice A1 n c1) n (l.flatMap chanV)) (y : ChanA) (hx : a.eval x = .slice (some ⟨k, 0, none⟩) 1 1) (hk : w.heap[k]? = some (.cells (chanV y).toArray 44 (0, 0))) (hn : n ≤ 1000) (hbase : base ≤ w.heap.size)
    (h : ∀ A' c' w', w'.ownsRow base 44 6 (.slice A' (n + 1) c') (n + 1) ((l ++ [y]).flatMap chanV) → w.grownBy w' (Value.slice A1 n c1).ownBlock → K (a.put o.dst (.slice A' (n + 1) c')) w') :
    if Region.wanted o (yielded ops a.tmps) = true then Oper.wp Try.prog o a w K Q else E := by
  obtain ⟨i0, hi, hz0, hz1, hz2⟩ := info_parts info44
  have hw : Region.wanted o (yielded ops a.tmps) = true := by simp [Region.wanted, hgd]
  rw [if_pos hw]
  refine wp_append_own w s x 25 ho base 44 i0 (.agg #[.int .u8 0, .int .u8 0, .int .u8 0, .int .u8 0, .int .u8 0, .int .u16 0]) 6 8 Try.underlying25 hi hz0 hz1 hz2 rfl (by decide) _ n (l.flatMap chanV) hs hown ⟨k, 0, none⟩ 1 1 (chanV y) hx rfl (World.news_of_block hk) (fun u hu => ?_) (by unfold maxLen; omega) (by omega) hbase fun v' w' h1 h2 _ => ?_
  · simp [chanV] at hu; rcases hu with rfl | rfl | rfl | rfl | rfl | rfl <;> rfl
  · obtain ⟨A', c', rfl⟩ := own_form h1
    exact h A' c' w' (by simpa using h1) h2
theorem more_at2 {P : PlanA} {L : PlanL} {c : ChanA} {bq d6 base : Nat} {A6 : Option Addr} {w1 w10 : World} (hP : PlanAt w1 P L) (hbq : w1.heap.size ≤ bq) (hbase : bq < base)
    (hB : Below w1.heap.size w1 w10) (hq : QBox w10 bq P.1 (.slice L.a1 P.2.1.length L.c1) (.slice L.a2 P.2.2.1.length L.c2) (.slice L.a3 P.2.2.2.1.length L.c3) (.slice L.a4 P.2.2.2.2.length L.c4))
    (ho : w10.ownsRow base 44 6 (.slice A6 (P.2.2.2.1.length + 1) d6) (P.2.2.2.1.length + 1) ((P.2.2.2.1 ++ [c]).flatMap chanV)) :
    MoreW P L c bq A6 d6 w1 (w10.setCell ⟨bq, 3, none⟩ (.slice A6 (P.2.2.2.1.length + 1) d6)) := by
  have hbf : Below w1.heap.size w1 (w10.setCell ⟨bq, 3, none⟩ (.slice A6 (P.2.2.2.1.length + 1) d6)) := hB.setCell hbq _
  have hp := hP.keep hbf
  have ho' : (w10.setCell ⟨bq, 3, none⟩ (.slice A6 (P.2.2.2.1.length + 1) d6)).ownsRow base 44 6 (.slice A6 (P.2.2.2.1.length + 1) d6) (P.2.2.2.1.length + 1) ((P.2.2.2.1 ++ [c]).flatMap chanV) := own_keep ho fun g hgg => Below.heap_setCell _ _ _ _ (by have := (World.ownsRow.lt ho g hgg).1; show g ≠ bq; omega)
  exact ⟨hbf, hq.set3, hp.cores, hp.parts, more_at' ho' (by simp), hp.pairs⟩
theorem MoreW.keep {P : PlanA} {L : PlanL} {c : ChanA} {bq d6 : Nat} {A6 : Option Addr} {w1 w w' : World} (h : MoreW P L c bq A6 d6 w1 w) (hB : Below w.heap.size w w') : MoreW P L c bq A6 d6 w1 w' :=
  ⟨below_two h.bel hB, h.box.keep hB, h.at'.keep hB⟩
end Go.Proofs.Ytjiikhfeacgjjaa
