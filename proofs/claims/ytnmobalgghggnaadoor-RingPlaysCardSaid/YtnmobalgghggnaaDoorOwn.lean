/-
  A row of one's own that grows by one value at a time, or that isn't there yet.
-/
import Derived.Test.YtnmobalgghggnaaDoorText
import Derived.Deep.AppendLies
namespace Go.Proofs.YtnmobalgghggnaaDoor
open Go.RowKit

theorem info_parts {t : TypeId} {z : Value} {s b : Nat} (h : (Tryd.prog.info? t).map (fun i => (i.zero, i.size, i.bytes)) = some (some z, s, b)) : ∃ i0, Tryd.prog.info? t = some i0 ∧ i0.zero = some z ∧ i0.size = s ∧ i0.bytes = b := by
  cases hq : Tryd.prog.info? t with
  | none => simp [hq] at h
  | some i =>
    simp [hq] at h
    exact ⟨i, rfl, h.1, h.2.1, h.2.2⟩
theorem info4 : (Tryd.prog.info? 4).map (fun i => (i.zero, i.size, i.bytes)) = some (some (.bool false), 1, 1) := by kernel_rfl
theorem info9 : (Tryd.prog.info? 9).map (fun i => (i.zero, i.size, i.bytes)) = some (some (.string ⟨#[]⟩), 1, 16) := by kernel_rfl
/-- A row of its own that holds these values; v: the slice. -/
def Grow (w : World) (e : TypeId) (v : Value) (xs : List Value) : Prop := w.ownsRow 0 e 1 v xs.length xs
/-- Its block, or the other one, if there is none. -/
def obl (v : Value) (d : Nat) : Nat := v.ownBlock.getD d
section
variable {w w' : World} {e : TypeId} {v : Value} {xs : List Value}
theorem Grow.nil (w : World) (e : TypeId) : Grow w e (.slice none 0 0) [] := ⟨rfl, .inl ⟨rfl, rfl⟩⟩
theorem Grow.shape (h : Grow w e v xs) : (v = .slice none 0 0 ∧ xs = []) ∨ ∃ g cap, v = .slice (some ⟨g, 0, none⟩) xs.length cap ∧ v.ownBlock = some g ∧ g < w.heap.size ∧ xs.length ≤ cap := by
  rcases h.2 with ⟨h1, h2⟩ | ⟨g, cap, cur, hv, _, hg, hn, _, _, _⟩
  · exact .inl ⟨h1, List.length_eq_zero_iff.1 h2⟩
  · exact .inr ⟨g, cap, hv, by rw [hv]; rfl, (Array.getElem?_eq_some_iff.1 hg).1, hn⟩
theorem Grow.lt (h : Grow w e v xs) {x : Nat} (hx : v.ownBlock = some x) : x < w.heap.size := by
  rcases h.shape with ⟨h1, _⟩ | ⟨g, cap, _, h2, h3, _⟩
  · rw [h1] at hx; cases hx
  · rw [h2] at hx; injection hx with hx; omega
theorem Grow.same (h : Grow w e v xs) (hb : ∀ x, v.ownBlock = some x → w'.heap[x]? = w.heap[x]?) : Grow w' e v xs := by
  refine ⟨h.1, ?_⟩
  rcases h.2 with h1 | ⟨g, cap, cur, hv, hb0, hg, rest⟩
  · exact .inl h1
  · exact .inr ⟨g, cap, cur, hv, hb0, by rw [hb g (by rw [hv]; rfl)]; exact hg, rest⟩
theorem Grow.keep (h : Grow w e v xs) (hB : Below w.heap.size w w') : Grow w' e v xs := h.same fun _ hx => hB.block _ (h.lt hx)
theorem Grow.chg {S : Nat → Prop} (h : Grow w e v xs) (hC : Chg S w w') (hS : ∀ x, v.ownBlock = some x → ¬ S x) : Grow w' e v xs := h.same fun x hx => hC.block _ (h.lt hx) (hS x hx)
theorem Grow.cell (h : Grow w e v xs) {i : Nat} (hi : i < xs.length) : ∃ g cap, v = .slice (some ⟨g, 0, none⟩) xs.length cap ∧ w.cell? ⟨g, i, none⟩ = some xs[i] := by
  rcases h.2 with ⟨_, h2⟩ | ⟨g, cap, cur, hv, _, hg, hn, _, hs, ht⟩
  · omega
  · refine ⟨g, cap, hv, ?_⟩
    have h1 : cur[i]? = some xs[i] := by
      have : cur.toList[i]? = some xs[i] := by
        rw [← List.getElem?_eq_getElem hi, ← ht, List.getElem?_take_of_lt (by omega)]
      simpa using this
    simp [World.cell?, hg, h1]
end
/-- The append of one value. -/
theorem wpList_app {ops : Array Oper} {rest : List Oper} {o : Oper} {a : Act} {Q : Exit → Act → World → Prop} (hgd : o.guard = none) (s x : Operand) (t e : TypeId) (z : Value) (bytes : Nat)
    (ho : o.op = .call { callee := .builtin .append, args := #[s, x], argTypes := #[t, t] }) (ht : Tryd.prog.underlying t = some (.slice e)) (hi : (Tryd.prog.info? e).map (fun i => (i.zero, i.size, i.bytes)) = some (some z, 1, bytes)) (hz : z.cells.size = 1) (hb : bytes ≤ 16)
    {w : World} {v u : Value} {xs : List Value} (h : Grow w e v xs) (hk : xs.length ≤ 100000) (hu : u.oneCell' = true)
    (hs : a.eval s = v) (hx : a.eval x = .slice (some ⟨w.heap.size, 0, none⟩) 1 1)
    (hQ : ∀ g' cap' w2, Grow w2 e (.slice (some ⟨g', 0, none⟩) (xs.length + 1) cap') (xs ++ [u]) → Chg (fun x => v.ownBlock = some x) w w2 → (v.ownBlock = some g' ∨ w.heap.size ≤ g') → g' < w2.heap.size → wpList Tryd.prog ops Q rest (a.put o.dst (.slice (some ⟨g', 0, none⟩) (xs.length + 1) cap')) w2) :
    wpList Tryd.prog ops Q (o :: rest) a (w.alloc (.cells #[u] e)) := by
  obtain ⟨i0, hi, hz0, hz1, hz2⟩ := info_parts hi
  have hA : Below w.heap.size w (w.alloc (.cells #[u] e)) := (Below.refl _ _).alloc (Nat.le_refl _) _
  have hown := h.keep hA
  refine wpList_append_lies _ hgd s x t ho 0 e i0 z 1 bytes ht hi hz0 hz1 hz2 hz (by decide) v xs.length xs hs hown ⟨w.heap.size, 0, none⟩ 1 1 [u] hx rfl ?_ ?_ (by decide) (by unfold maxLen; omega) ?_ (Nat.zero_le _) (w.heap.size + 1) (by simp) ?_
  · intro j u' hu'
    have hj : j = 0 := by
      rcases Nat.eq_zero_or_pos j with e | e
      · exact e
      · rw [List.getElem?_eq_none (by simp; omega)] at hu'; cases hu'
    subst hj
    exact al_new _ _ _ 0 _ rfl hu'
  · intro u' hu'
    simp at hu'
    subst hu'
    exact hu
  · have := Nat.mul_le_mul (show xs.length + 1 ≤ 100001 by omega) hb
    omega
  · intro g' cap' w2 hown' hgrow hat hlt
    have hCa : Chg (fun x => v.ownBlock = some x) (w.alloc (.cells #[u] e)) w2 := ⟨hgrow.os, hgrow.tape, hgrow.output, hgrow.size, fun x hx hn => hgrow.block x hx (fun e => hn e.symm)⟩
    have hl : (xs ++ [u]).length = xs.length + 1 := by simp
    refine hQ g' cap' w2 ?_ ((Chg.of_below hA).trans hCa) (hat.elim .inl fun e => .inr (by omega)) hlt
    unfold Grow
    rw [hl]
    exact hown'
end Go.Proofs.YtnmobalgghggnaaDoor
