/-
  A region that draws its order and ends in stores: a condition on the world that holds up to them.
-/
import Derived.Test.YtoaaeamogpdcgaaDoorNewW
import Derived.Deep.RegionHeld
namespace Go.Proofs.YtoaaeamogpdcgaaDoor
open Go Go.RowKit

theorem heap_lt {w : World} {H : Nat} {x : Obj} (h : w.heap[H]? = some x) : H < w.heap.size := by
  rcases Nat.lt_or_ge H w.heap.size with h' | h'
  · exact h'
  · rw [Array.getElem?_eq_none h'] at h; cases h
section
variable {P : Program} {ops : Array Oper} {Q : Exit → Act → World → Prop} {md : Region.Mode} {C D E : World → Prop} {st : Nat → Bool}
/-- One of the last ones has come up. -/
def lateL (ops : Array Oper) (st : Nat → Bool) (l : Array Bool) : Bool := (List.range ops.size).any fun s => st s && l.getD s false
theorem lateL_mono {l : Array Bool} {j : Nat} (h : lateL ops st l = true) : lateL ops st (l.setIfInBounds j true) = true := by
  obtain ⟨s, hs, h2⟩ := List.any_eq_true.1 h
  simp only [Bool.and_eq_true] at h2
  exact List.any_eq_true.2 ⟨s, hs, by rw [h2.1, getD_set_true h2.2]; rfl⟩
theorem lateL_set {l : Array Bool} {j : Nat} (h : st j = false) : lateL ops st (l.setIfInBounds j true) = lateL ops st l := by
  unfold lateL
  congr 1
  funext s
  by_cases e : j = s
  · subst e; rw [h]; rfl
  · rw [getD_set_ne false e]
/-- Whatever comes up from here on; behind each D holds, and, up to the last ones, C. -/
def upL (P : Program) (md : Region.Mode) (ops : Array Oper) (Q : Exit → Act → World → Prop) (C D : World → Prop) (st : Nat → Bool) : Nat → Array Bool → Act → World → Prop
  | 0, listed, a, w => Region.ready md ops listed = [] ∧ Q .normal a w
  | n + 1, listed, a, w => (Region.ready md ops listed = [] → Q .normal a w) ∧
      ∀ i ∈ Region.ready md ops listed, wpOp P ops Q i (fun a' w' => (D w' ∧ (lateL ops st (listed.setIfInBounds i true) = true ∨ C w')) ∧ upL P md ops Q C D st n (listed.setIfInBounds i true) a' w') a w
theorem any_of_upL : ∀ (n : Nat) (listed : Array Bool) (a : Act) (w : World), upL P md ops Q C D st n listed a w → wpAny P md ops Q n listed a w
  | 0, _, _, _, h => h
  | n + 1, _, _, _, h => ⟨h.1, fun i hi => wpOp_mono (fun a' w' h' => any_of_upL n _ a' w' h'.2) (h.2 i hi)⟩
/-- All the last ones wait for this one. -/
def waitsL (md : Region.Mode) (ops : Array Oper) (st : Nat → Bool) (i : Nat) : Bool :=
  (List.range ops.size).all fun s => !st s || (match ops[s]? with
    | some o => o.after.any fun e => Region.binds md e && e.on == i
    | none => true)
theorem waitsL_spec {i : Nat} (h : waitsL md ops st i = true) {s : Nat} {o : Oper} (ho : ops[s]? = some o) (hs : st s = true) : ∃ e ∈ o.after, Region.binds md e = true ∧ e.on = i := by
  have hlt : s < ops.size := by
    rcases Nat.lt_or_ge s ops.size with h' | h'
    · exact h'
    · rw [Array.getElem?_eq_none h'] at ho; cases ho
  have := List.all_eq_true.1 h s (List.mem_range.2 hlt)
  simp only [hs, ho, Bool.not_true, Bool.false_or] at this
  obtain ⟨k, hk, hb⟩ := Array.any_eq_true.1 this
  simp only [Bool.and_eq_true, beq_iff_eq] at hb
  exact ⟨_, Array.getElem_mem hk, hb⟩
theorem firstL {i : Nat} {oi : Oper} {v : Value} (hi : ops[i]? = some oi) (hsel : ∀ (j : Nat) (o : Oper) cs b, ops[j]? = some o → o.op ≠ .select cs b)
    (hQ : ∀ c a w, Q (.panic c) (a.put oi.dst v) w → Q (.panic c) a w) :
    ∀ (n : Nat) (listed : Array Bool) (a : Act) (w : World),
      (∀ j oj, ops[j]? = some oj → j ≠ i → listed.getD j true = false → (∀ e ∈ oj.after, Region.binds md e = true → e.on ≠ i) → oi.apart ops oj = true) →
      i ∈ Region.ready md ops listed → YieldsIf P ops E oi v a → E w → D w → (lateL ops st listed = true ∨ C w) → (st i = false ∨ lateL ops st listed = true) →
      ((waitsL md ops st i = true ∧ (∀ w, C w → E w) ∧ lateL ops st listed = false) ∨ ∀ w, D w → E w) →
      upL P md ops Q C D st n (listed.setIfInBounds i true) (a.put oi.dst v) w → upL P md ops Q C D st (n + 1) listed a w := by
  intro n
  induction n with
  | zero =>
    intro listed a w _ hr hy hE hD hC _ _ H
    refine ⟨fun h => (by rw [h] at hr; cases hr), fun j hj => ?_⟩
    by_cases hji : j = i
    · subst hji; exact hy.wpOp hi hE ⟨⟨hD, hC.imp lateL_mono id⟩, H⟩
    · have := ready_mono hj hji
      rw [H.1] at this
      cases this
  | succ n ih =>
    intro listed a w hfree hr hy hE hD hC hI hM H
    refine ⟨fun h => (by rw [h] at hr; cases hr), fun j hj => ?_⟩
    by_cases hji : j = i
    · subst hji; exact hy.wpOp hi hE ⟨⟨hD, hC.imp lateL_mono id⟩, H⟩
    · have h1 := H.2 j (ready_mono hj hji)
      obtain ⟨hjun, oj, hoj, hall⟩ := mem_ready.1 hj
      have hnot : ∀ e ∈ oj.after, Region.binds md e = true → e.on ≠ i := fun e he hb heq => by
        have h1 := hall e he hb
        have h0 := (mem_ready.1 hr).1
        rw [heq] at h1
        rcases Nat.lt_or_ge i listed.size with h' | h'
        · simp [h'] at h0 h1; rw [h0] at h1; cases h1
        · simp [Array.getElem?_eq_none h'] at h1
      have h2 := wpOp_putIf hoj (hfree j oj hoj hji hjun hnot) (fun cs b => hsel i oi cs b hi) (fun cs b => hsel j oj cs b hoj) hQ hy h1
      have hfree' : ∀ k ok, ops[k]? = some ok → k ≠ i → (listed.setIfInBounds j true).getD k true = false →
          (∀ e ∈ ok.after, Region.binds md e = true → e.on ≠ i) → oi.apart ops ok = true := fun k ok hk hki hun hno => by
        refine hfree k ok hk hki ?_ hno
        by_cases hjk : j = k
        · subst hjk; exact hjun
        · rw [getD_set_ne true hjk] at hun; exact hun
      have hlate : lateL ops st ((listed.setIfInBounds i true).setIfInBounds j true) = true → lateL ops st (listed.setIfInBounds j true) = true := fun h => by
        rcases hI with h0 | h0
        · rw [Array.setIfInBounds_comm _ _ (Ne.symm hji), lateL_set h0] at h; exact h
        · exact lateL_mono h0
      refine wpOp_mono (fun a' w' h3 => ?_) h2
      obtain ⟨h3y, ⟨h3D, h3C⟩, h3⟩ := h3
      have hC' : lateL ops st (listed.setIfInBounds j true) = true ∨ C w' := h3C.imp hlate id
      refine ⟨⟨h3D, hC'⟩, ?_⟩
      have hM' : ((waitsL md ops st i = true ∧ (∀ w, C w → E w) ∧ lateL ops st (listed.setIfInBounds j true) = false) ∨ ∀ w, D w → E w) := by
        rcases hM with ⟨hw, hCE, hl⟩ | hM
        · refine .inl ⟨hw, hCE, ?_⟩
          have hst : st j = false := by
            cases hs : st j
            · rfl
            · obtain ⟨e, he, hb, heq⟩ := waitsL_spec hw hoj hs
              exact absurd heq (hnot e he hb)
          rw [lateL_set hst]; exact hl
        · exact .inr hM
      refine ih (listed.setIfInBounds j true) a' w' hfree' (ready_mono hr (Ne.symm hji)) h3y ?_ h3D hC' (hI.imp id lateL_mono) hM' ?_
      · rcases hM' with ⟨_, hCE, hl⟩ | hM'
        · rcases hC' with h | h
          · rw [hl] at h; cases h
          · exact hCE _ h
        · exact hM' _ h3D
      · rw [Array.setIfInBounds_comm _ _ hji]
        exact h3
theorem upL_take (E : World → Prop) {i : Nat} {oi : Oper} {v : Value} {n : Nat} {listed : Array Bool} {a : Act} {w : World} (hi : ops[i]? = some oi)
    (hs : Region.noSelect ops = true) (hf : Region.free md ops listed i = true) (hr : (Region.ready md ops listed).contains i = true)
    (hI : (!st i || lateL ops st listed) = true) (hM : ((waitsL md ops st i && !lateL ops st listed) = true ∧ (∀ w, C w → E w)) ∨ ∀ w, D w → E w)
    (hQ : ∀ c a w, Q (.panic c) (a.put oi.dst v) w → Q (.panic c) a w) (hy : YieldsIf P ops E oi v a) (hE : E w) (hD : D w) (hC : lateL ops st listed = true ∨ C w)
    (h : upL P md ops Q C D st n (listed.setIfInBounds i true) (a.put oi.dst v) w) : upL P md ops Q C D st (n + 1) listed a w := by
  refine firstL hi (Region.noSelect_spec hs) hQ n listed a w (Region.free_spec hi hf) (by simpa using hr) hy hE hD hC ?_ ?_ h
  · cases hst : st i
    · exact .inl rfl
    · rw [hst] at hI; exact .inr (by simpa using hI)
  · rcases hM with ⟨hm, hCE⟩ | hM
    · simp only [Bool.and_eq_true, Bool.not_eq_true'] at hm
      exact .inl ⟨hm.1, hCE, hm.2⟩
    · exact .inr hM
/-- Each of those that may come up next. -/
def EachL (P : Program) (md : Region.Mode) (ops : Array Oper) (Q : Exit → Act → World → Prop) (C D : World → Prop) (st : Nat → Bool) (n : Nat) (listed : Array Bool) (a : Act) (w : World) (rs : List Nat) : Prop :=
  ∀ i ∈ rs, wpOp P ops Q i (fun a' w' => (D w' ∧ (lateL ops st (listed.setIfInBounds i true) = true ∨ C w')) ∧ upL P md ops Q C D st n (listed.setIfInBounds i true) a' w') a w
theorem EachL.nil {n : Nat} {listed : Array Bool} {a : Act} {w : World} : EachL P md ops Q C D st n listed a w [] := fun _ h => by cases h
theorem EachL.cons {n : Nat} {listed : Array Bool} {a : Act} {w : World} {i : Nat} {o : Oper} {rs : List Nat} (ho : ops[i]? = some o)
    (h : ∀ K' : Act → World → Prop, Shut (∀ a w, D w → (lateL ops st (listed.setIfInBounds i true) = true ∨ C w) → upL P md ops Q C D st n (listed.setIfInBounds i true) a w → K' a w) → if Region.wanted o (yielded ops a.tmps) = true then Oper.wp P o a w K' Q else K' (a.put o.dst undef) w)
    (hs : EachL P md ops Q C D st n listed a w rs) : EachL P md ops Q C D st n listed a w (i :: rs) := fun j hj => by
  rcases List.mem_cons.1 hj with rfl | hj
  · exact wpOp_step ho (fun K' hK => h K' (fun a w hD hS hW => hK a w ⟨⟨hD, hS⟩, hW⟩))
  · exact hs j hj
theorem upL_ready {rs : List Nat} {n : Nat} {listed : Array Bool} {a : Act} {w : World} (hr : Region.ready md ops listed = rs) (hne : rs ≠ [])
    (h : EachL P md ops Q C D st n listed a w rs) : upL P md ops Q C D st (n + 1) listed a w := ⟨fun h0 => absurd (hr ▸ h0) hne, hr ▸ h⟩
theorem upL_done {listed : Array Bool} {a : Act} {w : World} (hr : Region.ready md ops listed = []) (h : Q .normal a w) : ∀ n, upL P md ops Q C D st n listed a w
  | 0 => ⟨hr, h⟩
  | _ + 1 => ⟨fun _ => h, by rw [hr]; simp⟩
theorem region_upL (C D : World → Prop) (st : Nat → Bool) {id : Nat} {a : Act} {w : World} (hm : P.follows .mixedOrders = true)
    (h : upL P .any ops Q C D st ops.size (Array.replicate ops.size false) a w.drew) : (Code.region id ops true).wp P Q a w :=
  wp_region_any hm (any_of_upL _ _ _ _ h)
end
end Go.Proofs.YtoaaeamogpdcgaaDoor
