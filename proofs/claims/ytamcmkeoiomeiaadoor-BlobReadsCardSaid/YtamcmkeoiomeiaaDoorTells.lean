/-
  An ask, whichever it is; what Err and End answer, told by Why.
-/
import Derived.Test.YtamcmkeoiomeiaaDoorDoes
import Derived.Test.YtamcmkeoiomeiaaDoorDoesList
namespace Go.Proofs.YtamcmkeoiomeiaaDoor
open Go.RowKit

section
variable {w : World} {g b cap k : Nat} {s : ByteArray} {bad : Bool}

theorem does_any (h : Rd w g b cap s k bad) (kd nn : Int) (hs : s.size ≤ 140737488355328) :
    Calls Tryd.prog 11 #[.pointer (some ⟨g, 0, none⟩), refV s k bad, .agg #[.int .i64 kd, .int .i64 nn]] w fun e w' => ∃ k2 bad2, e = .returned (.tuple #[refV s k2 bad2, .bool true]) ∧ Rd w' g b cap s k2 bad2 ∧ w.grownBy w' (some g) := by
  by_cases h0 : kd = 0
  · subst h0
    cases hl : lacks s k bad 1
    · obtain ⟨rfl, hn⟩ := lacks_no hl
      exact (does_eight_ok h nn (by have := h.le; omega)).mono fun _ _ hh => ⟨_, _, hh⟩
    · exact (does_eight_no h nn hl).mono fun _ _ hh => ⟨_, _, hh⟩
  · by_cases h1 : kd = 1
    · subst h1
      cases hl : lacks s k bad 2
      · obtain ⟨rfl, hn⟩ := lacks_no hl
        exact (does_sixteen_ok h nn (by have := h.le; omega)).mono fun _ _ hh => ⟨_, _, hh⟩
      · exact (does_sixteen_no h nn hl).mono fun _ _ hh => ⟨_, _, hh⟩
    · by_cases h2 : kd = 2
      · subst h2
        exact (does_text h nn _ _ _ rfl rfl rfl).mono fun _ _ hh => ⟨_, _, hh⟩
      · exact (does_list h kd nn h0 h1 h2 hs _ _ _ rfl rfl rfl).mono fun _ _ hh => ⟨_, _, hh⟩

/-- Why tells this of an error, from world w on. -/
def Tells (E : Value) (n a : Int) (w : World) : Prop := ∀ W, Below w.heap.size w W → GOk W → Calls Tryd.prog 12 #[E] W fun e w' => e = .returned (.tuple #[.int .i64 n, .int .i64 a]) ∧ Below W.heap.size W w'
theorem tells_nil (w : World) : Tells .nilIface 0 0 w := fun W _ _ => why_nil W
theorem tells_fail {f : Nat} {n a : Int} {w : World} (h0 : w.cell? ⟨f, 0, none⟩ = some (.int .i64 a)) (h1 : w.cell? ⟨f, 0 + 1, none⟩ = some (.int .i64 n)) : Tells (.iface 56 (.pointer (some ⟨f, 0, none⟩))) n a w := fun W hB hG =>
  why_fail0 f 0 n a W hG ((hB.cell (p := ⟨f, 0, none⟩) (cell_lt' h0)).trans h0) ((hB.cell (p := ⟨f, 0 + 1, none⟩) (cell_lt' h1)).trans h1)
theorem err_tells (h : Rd w g b cap s k bad) :
    Calls Tryd.prog 13 #[.pointer (some ⟨g, 0, none⟩)] w fun e w' => ∃ E, e = .returned E ∧ Tells E (errN bad) (errA k bad) w' ∧ Below w.heap.size w w' := by
  cases bad
  · exact (err_ok h).mono fun _ _ ⟨he, hw⟩ => ⟨_, he, tells_nil _, hw ▸ Below.refl _ _⟩
  · exact (err_told h).mono fun _ _ ⟨f, he, h0, h1, hb⟩ => ⟨_, he, tells_fail h0 h1, hb⟩
theorem end_tells (h : Rd w g b cap s k bad) :
    Calls Tryd.prog 15 #[.pointer (some ⟨g, 0, none⟩)] w fun e w' => ∃ E, e = .returned E ∧ Tells E (endN s k bad) (endA s k bad) w' ∧ Below w.heap.size w w' := by
  cases bad
  · by_cases hk : k < s.size
    · have e1 : endN s k false = 21 := by simp [endN, hk]
      have e2 : endA s k false = k := by simp [endA, hk]
      rw [e1, e2]
      exact (end_told_more h hk).mono fun _ _ ⟨f, he, h0, h1, hb⟩ => ⟨_, he, tells_fail h0 h1, hb⟩
    · have e1 : endN s k false = 0 := by simp [endN, hk]
      have e2 : endA s k false = 0 := by simp [endA, hk]
      rw [e1, e2]
      exact (end_told_ok h hk).mono fun _ _ ⟨he, hb⟩ => ⟨_, he, tells_nil _, hb⟩
  · exact (end_told_bad h).mono fun _ _ ⟨f, he, h0, h1, hb⟩ => ⟨_, he, tells_fail h0 h1, hb⟩
end
end Go.Proofs.YtamcmkeoiomeiaaDoor
