/-
  due: all whose deadline the tick has reached, the earliest deadline first, those of one deadline in the order.
-/
import Derived.Test.YtagfhlnedaagbaaStc
import Derived.Test.YtagfhlnedaagbaaDueA
import Derived.Test.YtagfhlnedaagbaaDelF
namespace Go.Proofs.Ytagfhlnedaagbaa
open Go.RowKit

theorem isort_nil (fv : Value) (w : World) : Calls Try.prog 52 #[.slice none 0 0, nV 0, nV 0, fv] w fun e w' => e = .returned (.tuple #[]) ∧ w = w' := by
  go_enter Try.func52, Try.ntmps52
  go_wp2_with fail
  go_loopw [8] (fun i wr => i = .int .i64 1 ∧ wr = w) (fun _ _ => 0)
  case atStart => exact ⟨rfl, rfl⟩
  case round =>
    obtain ⟨rfl, rfl⟩ := hrel
    go_wp2_with fail
    go_end0
    exact ⟨rfl, rfl⟩
theorem stable_nil (fv : Value) (w : World) : Calls Try.prog 49 #[.slice none 0 0, nV 0, fv] w fun e w' => e = .returned (.tuple #[]) ∧ w = w' := by
  have HI := Lib.hid (isort_nil fv w)
  go_enter Try.func49, Try.ntmps49
  go_wp2_with fail
  go_loopw [7, 8] (fun av bv wr => av = .int .i64 0 ∧ bv = .int .i64 20 ∧ wr = w) (fun _ _ _ => 0)
  case atStart => exact ⟨rfl, rfl, rfl⟩
  case round =>
    obtain ⟨rfl, rfl, rfl⟩ := hrel
    go_wp2_with fail
    with_reducible refine HI.out.mono ?_
    rintro e w1 ⟨rfl, rfl⟩
    go_wp2_with fail
    go_loopw [6] (fun bv wr' => bv = .int .i64 20 ∧ wr' = wr) (fun _ _ => 0)
    case atStart => exact ⟨rfl, rfl⟩
    case round =>
      obtain ⟨rfl, rfl⟩ := hrel
      go_wp2_with fail
      go_end0
      exact ⟨rfl, rfl⟩
theorem sorts_nil (fv : Value) (w : World) : Calls Try.prog 42 #[.slice none 0 0, fv] w fun e w' => e = .returned (.tuple #[]) ∧ w = w' := by
  have HI := Lib.hid (stable_nil fv w)
  go_enter Try.func42, Try.ntmps42
  go_wp2_with fail
  with_reducible refine HI.out.mono ?_
  rintro e w1 ⟨rfl, rfl⟩
  go_wp2_with fail
  go_end0
  exact ⟨rfl, rfl⟩
/-- The append of one number. -/
theorem wpList_app {ops : Array Oper} {rest : List Oper} {o : Oper} {a : Act} {Q : Exit → Act → World → Prop} (hgd : o.guard = none) (s x : Operand)
    (ho : o.op = .call { callee := .builtin .append, args := #[s, x], argTypes := #[33, 33] }) {w : World} {v : Value} {l : List Int} {z : Int} (h : Nums w v l) (hk : l.length ≤ 100000)
    (hs : a.eval s = v) (hx : a.eval x = .slice (some ⟨w.heap.size, 0, none⟩) 1 1)
    (hQ : ∀ g' cap' w2, Nums w2 (.slice (some ⟨g', 0, none⟩) (l.length + 1) cap') (l ++ [z]) → Chg (fun x => v.ownBlock = some x) w w2 → (v.ownBlock = some g' ∨ w.heap.size ≤ g') → wpList Try.prog ops Q rest (a.put o.dst (.slice (some ⟨g', 0, none⟩) (l.length + 1) cap')) w2) :
    wpList Try.prog ops Q (o :: rest) a (w.alloc (.cells #[nV z] 3)) := by
  obtain ⟨i0, hi, hz0, hz1, hz2⟩ := info3z
  have hA : Below w.heap.size w (w.alloc (.cells #[nV z] 3)) := (Below.refl _ _).alloc (Nat.le_refl _) _
  have hown := h.keep hA
  refine wpList_append_lies _ hgd s x 33 ho 0 3 i0 (.int .i64 0) 1 8 Try.underlying33 hi hz0 hz1 hz2 rfl (by decide) v l.length (l.map nV) hs hown ⟨w.heap.size, 0, none⟩ 1 1 [nV z] hx rfl ?_ ?_ (by decide) (by unfold maxLen; omega) ?_ (Nat.zero_le _) (w.heap.size + 1) (by simp) ?_
  · intro j u' hu'
    have hj : j = 0 := by
      rcases Nat.eq_zero_or_pos j with e | e
      · exact e
      · rw [List.getElem?_eq_none (by simp; omega)] at hu'; cases hu'
    subst hj
    exact al_new _ _ _ 0 _ rfl hu'
  · intro u' hu'
    simp at hu'
    subst hu'
    rfl
  · omega
  · intro g' cap' w2 hown' hgrow hat hlt
    have hCa : Chg (fun x => v.ownBlock = some x) (w.alloc (.cells #[nV z] 3)) w2 := ⟨hgrow.os, hgrow.tape, hgrow.output, hgrow.size, fun x hx hn => hgrow.block x hx (fun e => hn e.symm)⟩
    refine hQ g' cap' w2 ?_ ((Chg.of_below hA).trans hCa) (hat.elim .inl fun e => .inr (by omega))
    unfold Nums
    rw [List.length_append, List.map_append]
    exact hown'

/-! ### the order of those who are due -/
def posL (S : Ln) (x : Int) : Nat := (63 - (S.look x).1).toNat * S.n + (S.look x).2.2.toNat
def keyL (S : Ln) (x : Int) : Int := (S.look x).2.1
theorem pos_bef {S : Ln} (h : Ok S) {a c : Wt} (ha : a ∈ S.q) (hc : c ∈ S.q) (hb : Bef a c) : posL S (a.id.val : Int) < posL S (c.id.val : Int) := by
  unfold posL
  rw [look_has h ha, look_has h hc]
  have a1 := h.arr a ha
  have c1 := h.arr c hc
  have a2 := h.pri a ha
  have c2 := h.pri c hc
  show (63 - a.prio).toNat * S.n + ((a.arr : Int)).toNat < (63 - c.prio).toNat * S.n + ((c.arr : Int)).toNat
  rcases hb with hb | ⟨e, hb⟩
  · have h1 : (63 - a.prio).toNat + 1 ≤ (63 - c.prio).toNat := by omega
    have h2 := Nat.mul_le_mul_right S.n h1
    rw [Nat.add_mul, Nat.one_mul] at h2
    omega
  · rw [e]; omega
theorem ord_soon {S : Ln} (h : Ok S) {a c : Wt} (ha : a ∈ S.q) (hc : c ∈ S.q) (hs : Soon a c) : Ord (keyL S) (posL S) (a.id.val : Int) (c.id.val : Int) := by
  have k1 : keyL S (a.id.val : Int) = a.til := by unfold keyL; rw [look_has h ha]
  have k2 : keyL S (c.id.val : Int) = c.til := by unfold keyL; rw [look_has h hc]
  unfold Ord
  rw [k1, k2]
  rcases hs with hs | ⟨e, hb⟩
  · exact .inl hs
  · exact .inr ⟨e, pos_bef h ha hc hb⟩
def dueL (S : Ln) (t : Int) : List Int := (S.q.filter (Wt.due t)).map fun a => (a.id.val : Int)
def goneL (S : Ln) (t : Int) : List Int := (S.gone t).map fun a => (a.id.val : Int)
theorem due_pos {S : Ln} (h : Ok S) (t : Int) : (dueL S t).Pairwise fun x y => posL S x < posL S y := by
  unfold dueL
  rw [List.pairwise_map]
  have h1 := h.ord.filter (Wt.due t)
  refine List.Pairwise.imp_of_mem (fun {a b} ha hb hab => ?_) h1
  exact pos_bef h (List.mem_filter.1 ha).1 (List.mem_filter.1 hb).1 hab
theorem gone_eq {S : Ln} (h : Ok S) {t : Int} {Z : List Int} (h1 : Z.Perm (dueL S t)) (h2 : Z.Pairwise (Ord (keyL S) (posL S))) : Z = goneL S t := by
  refine eq_of_perm (R := Ord (keyL S) (posL S)) (fun a b => Ord.asym a b) ?_ h2 ?_
  · exact h1.trans ((gone_perm S t).map _).symm
  · unfold goneL
    rw [List.pairwise_map]
    refine List.Pairwise.imp_of_mem (fun {a b} ha hb hab => ?_) (gone_ord h t)
    have ma : ∀ a ∈ S.gone t, a ∈ S.q := fun a ha => (List.mem_filter.1 ((gone_perm S t).mem_iff.1 ha)).1
    exact ord_soon h (ma a ha) (ma b hb) hab
theorem due_filter {S : Ln} (h : Ok S) (t : Int) : dueL S t = S.nums.filter fun x => dueB t (S.look x) := by
  unfold dueL Ln.nums
  rw [List.filter_map]
  congr 1
  refine List.filter_congr fun a ha => ?_
  show Wt.due t a = dueB t (S.look (a.id.val : Int))
  rw [look_has h ha]
  rfl
end Go.Proofs.Ytagfhlnedaagbaa
