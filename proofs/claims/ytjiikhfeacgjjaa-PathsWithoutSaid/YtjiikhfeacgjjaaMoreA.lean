/-
  One channel more: the appends, the plan behind them; a plan's argument with its nil list.
-/
import Derived.Test.YtjiikhfeacgjjaaWalkGoes
import Derived.Test.YtjiikhfeacgjjaaArg
import Derived.Laws.AppendOwnNone
namespace Go.Proofs.Ytjiikhfeacgjjaa
open Go.ChangeShapes Go.WideShapes Go.ChangeAt Go.RowKit Go.Deep

section
variable {H : Type} {en : TypeId × Value → H} {w : World} {base b0 : Nat} {sp : Nat → Bool} {r : Reach} {v : Value} {d : DataW H} {p : List MemPlace}
set_option maxRecDepth 100000 in
theorem plan_arg2 (hv : Value.okWide Try.prog w r b0 28 v) (h : DataW.Trod en Try.prog w base sp true 28 v d p) (hs : ∀ k ∈ d.weights Try.prog 28, k ≤ reachBytes) : ∃ (P : PlanA) (L : PlanL), v = planV P L ∧ PlanAt w P L ∧ POk P L ∧ (L.a3 = none → L.c3 = 0) := by
  obtain ⟨cs, rfl, _⟩ := okWide_struct Try.underlying28 hv
  obtain ⟨fuel, hf⟩ := h
  obtain ⟨P, L, e, h1, h2, h3, h4, h5, h6, h7, h8⟩ := plan_of hf hs
  refine ⟨P, L, ?_, h1, ⟨h2, h5.1.2, h6.1.2, h7.1.2, h8.1.2, h3, h4, h5.1.1, h8.1.1⟩, h7.2.2⟩
  rw [← e]
  simp [Value.cells]
end
theorem more_at' {w : World} {base n : Nat} {A : Option Addr} {c : Nat} {l : List ChanA} (h : w.ownsRow base 44 6 (.slice A n c) n (l.flatMap chanV)) (e : l.length = n) : ChansAt w A l := by
  subst e
  exact more_at h
theorem more_wf {P : PlanA} {c : ChanA} (h : WfPlan P) (hc : WfChan c) : WfPlan (P.1, P.2.1, P.2.2.1, P.2.2.2.1 ++ [c], P.2.2.2.2) :=
  ⟨h.1, h.2.1, h.2.2.1, fun x hx => by
    rcases List.mem_append.1 hx with hx | hx
    · exact h.2.2.2.1 x hx
    · simp at hx; subst hx; exact hc, h.2.2.2.2⟩
/-- Behind the two appends. -/
structure MoreW (P : PlanA) (L : PlanL) (c : ChanA) (bq : Nat) (A6 : Option Addr) (d6 : Nat) (w1 w : World) : Prop where
  bel : Below w1.heap.size w1 w
  box : QBox w bq P.1 (.slice L.a1 P.2.1.length L.c1) (.slice L.a2 P.2.2.1.length L.c2) (.slice A6 (P.2.2.2.1.length + 1) d6) (.slice L.a4 P.2.2.2.2.length L.c4)
  at' : PlanAt w (P.1, P.2.1, P.2.2.1, P.2.2.2.1 ++ [c], P.2.2.2.2) ⟨L.a1, L.c1, L.a2, L.c2, A6, d6, L.a4, L.c4⟩
theorem more_of {P : PlanA} {L : PlanL} {c : ChanA} {bq d6 base : Nat} {A6 : Option Addr} {w1 w9 w10 : World} {row : Option Nat} (hP : PlanAt w1 P L) (hbq : w1.heap.size ≤ bq) (hbase : bq < base)
    (hB : Below w1.heap.size w1 w9) (hq : QBox w9 bq P.1 (.slice L.a1 P.2.1.length L.c1) (.slice L.a2 P.2.2.1.length L.c2) (.slice L.a3 P.2.2.2.1.length L.c3) (.slice L.a4 P.2.2.2.2.length L.c4))
    (hg : w9.grownBy w10 row) (hr : ∀ k, row = some k → base ≤ k) (ho : w10.ownsRow base 44 6 (.slice A6 (P.2.2.2.1.length + 1) d6) (P.2.2.2.1.length + 1) ((P.2.2.2.1 ++ [c]).flatMap chanV)) :
    MoreW P L c bq A6 d6 w1 (w10.setCell ⟨bq, 3, none⟩ (.slice A6 (P.2.2.2.1.length + 1) d6)) := by
  have hb10 : Below w1.heap.size w1 w10 := hB.grown hg hB.size (fun k hk => by have := hr k hk; omega)
  have hq10 : QBox w10 bq P.1 (.slice L.a1 P.2.1.length L.c1) (.slice L.a2 P.2.2.1.length L.c2) (.slice L.a3 P.2.2.2.1.length L.c3) (.slice L.a4 P.2.2.2.2.length L.c4) := hq.grown hg (fun e => by have := hr _ e; omega)
  have hbf : Below w1.heap.size w1 (w10.setCell ⟨bq, 3, none⟩ (.slice A6 (P.2.2.2.1.length + 1) d6)) := hb10.setCell hbq _
  have hp := hP.keep hbf
  have ho' : (w10.setCell ⟨bq, 3, none⟩ (.slice A6 (P.2.2.2.1.length + 1) d6)).ownsRow base 44 6 (.slice A6 (P.2.2.2.1.length + 1) d6) (P.2.2.2.1.length + 1) ((P.2.2.2.1 ++ [c]).flatMap chanV) := own_keep ho fun g hgg => Below.heap_setCell _ _ _ _ (by have := (World.ownsRow.lt ho g hgg).1; show g ≠ bq; omega)
  exact ⟨hbf, hq10.set3, hp.cores, hp.parts, more_at' ho' (by simp), hp.pairs⟩
theorem chans_one {l : List ChanA} : ∀ u ∈ l.flatMap chanV, u.oneCell' = true := by
  intro u hu
  obtain ⟨x, _, hu⟩ := List.mem_flatMap.1 hu
  simp [chanV] at hu
  rcases hu with rfl | rfl | rfl | rfl | rfl | rfl <;> rfl
/-- A list of channels appended to an own list of none. -/
theorem wpList_append_chans {w : World} {ops : Array Oper} {rest : List Oper} {o : Oper} {a : Act} {Q : Exit → Act → World → Prop} (hgd : o.guard = none) (s x : Operand)
    (ho : o.op = .call { callee := .builtin .append, args := #[s, x], argTypes := #[25, 25] })
    (base : Nat) (v : Value) (hs : a.eval s = v) (hown : w.ownsRow base 44 6 v 0 []) (A : Option Addr) (c n : Nat) (l : List ChanA) (hx : a.eval x = .slice A n c) (hnl : n = l.length) (hch : ChansAt w A l) (hnil : A = none → c = 0) (hl : l.length ≤ 1000) (hbase : base ≤ w.heap.size)
    (h : ∀ v' w', w'.ownsRow base 44 6 v' l.length (l.flatMap chanV) → w.grownBy w' v.ownBlock → wpList Try.prog ops Q rest (a.put o.dst v') w') : wpList Try.prog ops Q (o :: rest) a w := by
  obtain ⟨i0, hi, hz0, hz1, hz2⟩ := info_parts info44
  subst hnl
  rcases A with _ | ad
  · obtain rfl : l = [] := by
      cases l with
      | nil => rfl
      | cons x r => obtain ⟨_, _, e⟩ := Arr.head hch (i := 0) (by simp); cases e
    obtain rfl : c = 0 := hnil rfl
    exact wpList_append_own_none hgd s x 25 ho base 44 i0 6 Try.underlying25 hi v 0 [] hs hown hx (h _ _ hown (World.grownBy.refl _ _))
  · have hnews : ∀ j u, (l.flatMap chanV)[j]? = some u → w.cell? (ad.add j) = some u := by
      intro j u hu
      have hl0 : 0 < l.length := by
        cases l with
        | nil => simp at hu
        | cons x r => simp
      obtain ⟨b, o, e⟩ := Arr.head hch hl0
      injection e with e
      subst e
      exact arr_news (by omega : 0 < 6) (fun _ => rfl) hch j u hu
    refine wpList_append_own w hgd s x 25 ho base 44 i0 (.agg #[.int .u8 0, .int .u8 0, .int .u8 0, .int .u8 0, .int .u8 0, .int .u16 0]) 6 8 Try.underlying25 hi hz0 hz1 hz2 rfl (by decide) v 0 [] hs hown ad l.length c (l.flatMap chanV) hx (flat_len chanV 6 l (fun _ => rfl)) hnews chans_one (by unfold maxLen; omega) (by omega) hbase fun v' w' h1 h2 _ => ?_
    exact h v' w' (by simpa using h1) h2
theorem same_yes (A A2 : Option Addr) (c c2 n : Nat) (f h : Nat → Bool) (w : World) (hA : Bools w A n f) (hA2 : Bools w A2 n h) (hn : n ≤ 1000) (e : ∀ i, i < n → f i = h i) :
    Calls Try.prog 14 #[.slice A n c, .slice A2 n c2] w fun e w' => e = .returned (.bool true) ∧ Below w.heap.size w w' :=
  (same_any A A2 c c2 n n f h w hA hA2 (by omega) (by omega)).mono fun e' w' ⟨he, hB⟩ => ⟨by rw [he, eqU_yes e]; simp, hB⟩
end Go.Proofs.Ytjiikhfeacgjjaa
