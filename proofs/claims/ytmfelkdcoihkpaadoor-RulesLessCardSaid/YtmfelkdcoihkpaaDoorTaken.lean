/-
  What holds of a plan that is taken: its windows are in order and apart; those of two cores, and of two that exclude each other.
-/
import Derived.Test.YtmfelkdcoihkpaaDoorServes
import Derived.Test.YtmfelkdcoihkpaaDoorWalkParts
namespace Go.Proofs.YtmfelkdcoihkpaaDoor

theorem holds_placed {P : PlanA} (h : Holds_ P 9) {c i : Nat} (hc : c < P.2.1.length) (hi : i < (P.2.1.getD c []).length) :
    (winAt P.2.1 c i).2.1 ≠ 0 ∧ freeW P c i ≤ (winAt P.2.1 c i).1 ∧ endW (winAt P.2.1 c i) ≤ P.1 ∧ (winAt P.2.1 c i).2.2.1 < P.2.2.1.length := by
  have h4 := h 4 (by omega)
  have := firstP_zero (show (firstP (placedE P) placeN (places P.2.1)).1 = 0 from h4) (c, i) (mem_places.2 ⟨hc, hi⟩)
  unfold placedE at this
  dsimp only at this
  split at this
  · simp at this
  · split at this
    · rename_i h1 h2
      exact ⟨by omega, by omega, by omega, h2⟩
    · simp at this
/-- Windows of one core are one behind the other. -/
theorem holds_before {P : PlanA} (h : Holds_ P 9) (hw : WfPlan P) {c : Nat} (hc : c < P.2.1.length) : ∀ j i, i < j → j < (P.2.1.getD c []).length → endW (winAt P.2.1 c i) ≤ (winAt P.2.1 c j).1 := by
  intro j
  induction j with
  | zero => intro i hi; omega
  | succ j ih =>
    intro i hi hj
    have h1 := (holds_placed h hc hj).2.1
    unfold freeW at h1
    rw [if_neg (by omega), show j + 1 - 1 = j by omega] at h1
    by_cases e : i = j
    · subst e; exact h1
    · have h2 := ih i (by omega) (by omega)
      have hwj := winAt_wf hw.2.1 hc (i := j) (by omega)
      obtain ⟨_, ⟨h3, _⟩, _⟩ := hwj
      unfold endW at h1 h2 ⊢
      omega
theorem holds_uniq {P : PlanA} (h : Holds_ P 9) (hw : WfPlan P) {c : Nat} (hc : c < P.2.1.length) (t : Int) : Uniq (P.2.1.getD c []) t := by
  intro i j hi hj h1 h2
  change hasB (winAt P.2.1 c i) t = true at h1
  change hasB (winAt P.2.1 c j) t = true at h2
  unfold hasB at h1 h2
  simp only [decide_eq_true_eq] at h1 h2
  rcases Nat.lt_trichotomy i j with e | e | e
  · have := holds_before h hw hc j i e hj
    omega
  · exact e
  · have := holds_before h hw hc i j e hi
    omega
/-- What serves finds. -/
theorem serves_found {ws : List WinA} {t : Int} (h : 0 ≤ (servesV ws t).1 ∨ (servesV ws t).1 ≠ -1) : (servesV ws t).2 ∈ ws ∧ hasB (servesV ws t).2 t = true ∧ (servesV ws t).1 = (servesV ws t).2.2.2.1 := by
  unfold servesV at h ⊢
  cases hf : ws.find? (fun w => hasB w t) with
  | none => rw [hf] at h; dsimp only at h; omega
  | some x => exact ⟨List.mem_of_find?_eq_some hf, List.find?_some (p := fun w => hasB w t) hf, rfl⟩
theorem ov_of_has {v w : WinA} {t : Int} (h1 : hasB v t = true) (h2 : hasB w t = true) : ovB v w = true := by
  unfold hasB at h1 h2
  unfold ovB
  simp only [decide_eq_true_eq] at h1 h2 ⊢
  (repeat' split) <;> omega
theorem firstE_zero {α : Type} {e : α → Int} {l : List α} (h : firstE e l = 0) : ∀ x ∈ l, e x = 0 := firstP_zero h
theorem holds_two {P : PlanA} (h : Holds_ P 9) {c d : Nat} (hd : d < c) (hc : c < P.2.1.length) {v w : WinA} (hw : w ∈ P.2.1.getD d []) (hv : v ∈ P.2.1.getD c []) : twoE w v = 0 := by
  obtain ⟨i, hi, rfl⟩ := mem_at dW hw
  have h5 := h 5 (by omega)
  have := firstP_zero (show (firstP (besideE P) placeN (places P.2.1)).1 = 0 from h5) (d, i) (mem_places.2 ⟨by omega, hi⟩)
  unfold besideE at this
  dsimp only at this
  split at this
  · simp at this
  · refine firstE_zero this v (List.mem_flatten.2 ⟨P.2.1.getD c [], ?_, hv⟩)
    have : P.2.1.getD c [] = (P.2.1.drop (d + 1)).getD (c - (d + 1)) [] := by rw [drop_getD]; congr 1; omega
    rw [this]
    exact getD_mem [] (by rw [List.length_drop]; omega)
theorem holds_gang {P : PlanA} (h : Holds_ P 9) {c d : Nat} (hd : d < c) (hc : c < P.2.1.length) {t : Int}
    (ha : 0 ≤ (servesV (P.2.1.getD c []) t).1) (hab : (servesV (P.2.1.getD c []) t).1 = (servesV (P.2.1.getD d []) t).1) :
    (servesV (P.2.1.getD c []) t).2 = (servesV (P.2.1.getD d []) t).2 ∧ (servesV (P.2.1.getD c []) t).2.2.2.2 ≠ 0 := by
  obtain ⟨m1, b1, p1⟩ := serves_found (.inl ha)
  obtain ⟨m2, b2, p2⟩ := serves_found (ws := P.2.1.getD d []) (t := t) (.inl (by omega))
  have h2 := holds_two h hd hc m2 m1
  unfold twoE at h2
  split at h2
  · rename_i ht
    unfold togB gangB at ht
    simp only [Bool.and_eq_true, bne_iff_ne, beq_iff_eq, decide_eq_true_eq] at ht
    obtain ⟨⟨g1, g2⟩, g3⟩ := ht
    exact ⟨g3.symm, by rw [← g3]; exact g1⟩
  · split at h2
    · omega
    · rw [if_pos ⟨by omega, ov_of_has b2 b1⟩] at h2
      omega
theorem served_mem {cs : List (List WinA)} {c : Nat} {v : WinA} {p : Int} (hc : c < cs.length) (hv : v ∈ cs.getD c []) (hp : v.2.2.1 = p) : v ∈ servedS cs p := List.mem_filter.2 ⟨List.mem_flatten.2 ⟨_, getD_mem [] hc, hv⟩, by simpa using hp⟩
theorem holds_pair {P : PlanA} (h : Holds_ P 9) {i : Nat} (hi : i < P.2.2.2.2.length) : clashB (servedS P.2.1 (P.2.2.2.2.getD i dS).1) (servedS P.2.1 (P.2.2.2.2.getD i dS).2) = false := by
  have h6 := h 6 (by omega)
  have := firstP_zero (show (firstP (pairE P) (fun c => (c : Int)) (List.range P.2.2.2.2.length)).1 = 0 from h6) i (List.mem_range.2 hi)
  unfold pairE at this
  split at this
  · omega
  · split at this
    · omega
    · simpa using ‹¬ clashB _ _ = true›
theorem clash_yes {vs ws : List WinA} {v w : WinA} (hv : v ∈ vs) (hw : w ∈ ws) (ho : ovB v w = true) : clashB vs ws = true :=
  List.any_eq_true.2 ⟨v, hv, List.any_eq_true.2 ⟨w, hw, ho⟩⟩
theorem holds_apart {P : PlanA} (h : Holds_ P 9) (hw : WfPlan P) {c d i : Nat} (hc : c < P.2.1.length) (hd : d < P.2.1.length) (hi : i < P.2.2.2.2.length) {t : Int} :
    ¬ ((servesV (P.2.1.getD c []) t).1 = (P.2.2.2.2.getD i dS).1 ∧ (servesV (P.2.1.getD d []) t).1 = (P.2.2.2.2.getD i dS).2) ∧
    ¬ ((servesV (P.2.1.getD c []) t).1 = (P.2.2.2.2.getD i dS).2 ∧ (servesV (P.2.1.getD d []) t).1 = (P.2.2.2.2.getD i dS).1) := by
  obtain ⟨⟨x0, _⟩, ⟨y0, _⟩⟩ := hw.2.2.2.2 _ (getD_mem dS hi)
  have hp := holds_pair h hi
  constructor
  · rintro ⟨e1, e2⟩
    obtain ⟨m1, b1, p1⟩ := serves_found (ws := P.2.1.getD c []) (t := t) (.inl (by omega))
    obtain ⟨m2, b2, p2⟩ := serves_found (ws := P.2.1.getD d []) (t := t) (.inl (by omega))
    rw [clash_yes (served_mem hc m1 (by omega)) (served_mem hd m2 (by omega)) (ov_of_has b1 b2)] at hp
    cases hp
  · rintro ⟨e1, e2⟩
    obtain ⟨m1, b1, p1⟩ := serves_found (ws := P.2.1.getD c []) (t := t) (.inl (by omega))
    obtain ⟨m2, b2, p2⟩ := serves_found (ws := P.2.1.getD d []) (t := t) (.inl (by omega))
    rw [clash_yes (served_mem hd m2 (by omega)) (served_mem hc m1 (by omega)) (ov_of_has b2 b1)] at hp
    cases hp
theorem holds_in {P : PlanA} (h : Holds_ P 9) {c : Nat} (hc : c < P.2.1.length) {t : Int} (ha : 0 ≤ (servesV (P.2.1.getD c []) t).1) : (servesV (P.2.1.getD c []) t).1 < P.2.2.1.length ∧ t < P.1 := by
  obtain ⟨m1, b1, p1⟩ := serves_found (.inl ha)
  obtain ⟨i, hi, e⟩ := mem_at dW m1
  have hp := holds_placed h hc hi
  change _ = winAt P.2.1 c i at e
  rw [← e] at hp
  unfold hasB at b1
  simp only [decide_eq_true_eq] at b1
  exact ⟨by omega, by omega⟩
end Go.Proofs.YtmfelkdcoihkpaaDoor
