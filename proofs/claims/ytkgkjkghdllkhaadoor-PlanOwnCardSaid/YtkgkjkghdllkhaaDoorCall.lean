/-
  What several laws ask: bytes made of a string, a failure told, a failed reader's answers; slices of asks.
-/
import Derived.Test.YtkgkjkghdllkhaaDoorReads
namespace Go.Proofs.YtkgkjkghdllkhaaDoor
open Go.RowKit

/-- The world behind '[]byte(s)'. -/
def convW (w : World) (s : ByteArray) : World := w.drew.alloc (.cells (bytesRow s (grownCap w s.size 0 5)) 5 ((bytesRow s (grownCap w s.size 0 5)).size, (bytesRow s (grownCap w s.size 0 5)).size + 1))
theorem conv_run (s : ByteArray) (w : World) : (convert 9 31 (.string s)).run Tryd.prog w = .ok (.slice (some ⟨w.heap.size, 0, none⟩) s.size (grownCap w s.size 0 5)) (convW w s) :=
  run_bytes_of_string w 9 31 5 s Tryd.underlying9 Tryd.underlying31 Tryd.underlying5
theorem convW_below (w : World) (s : ByteArray) : Below w.heap.size w (convW w s) := ((Below.refl _ _).drew).alloc (Nat.le_refl _) _
theorem convW_size (w : World) (s : ByteArray) : (convW w s).heap.size = w.heap.size + 1 := by unfold convW; simp
theorem convW_at (w : World) (s : ByteArray) : At (convW w s) ⟨w.heap.size, 0, none⟩ s := fun i hi => by
  rw [add_lit, Nat.zero_add]
  have h := World.cell?_alloc_mark w.drew (bytesRow s (grownCap w s.size 0 5)) 5 ((bytesRow s (grownCap w s.size 0 5)).size, (bytesRow s (grownCap w s.size 0 5)).size + 1) i
  have hd : i < s.data.size := hi
  rw [bytesRow_at s _ i hd] at h
  exact h
theorem convW_frozen (w : World) (s : ByteArray) (i : Nat) (hi : i < s.size) : (convW w s).frozen? ⟨w.heap.size, i, none⟩ = false := by
  have h := World.frozen?_alloc_mark w.drew (bytesRow s (grownCap w s.size 0 5)) 5 (bytesRow s (grownCap w s.size 0 5)).size ((bytesRow s (grownCap w s.size 0 5)).size + 1) i
  have hs : s.size ≤ (bytesRow s (grownCap w s.size 0 5)).size := by
    have e : s.data.size = s.size := rfl
    unfold bytesRow
    rw [Array.size_append, Array.size_map]
    omega
  have hn : ¬ ((bytesRow s (grownCap w s.size 0 5)).size ≤ i) := by omega
  rw [decide_eq_false hn] at h
  exact h

section
variable {w : World} {g b cap k : Nat} {s : ByteArray} {bad : Bool}
theorem text_bad (h : Rd w g b cap s k true) (n : Int) :
    Calls Tryd.prog 30 #[.pointer (some ⟨g, 0, none⟩), .int .i64 n] w fun e w' => e = .returned (.string ⟨#[]⟩) ∧ Rd w' g b cap s k true ∧ w.grownBy w' (some g) := by
  have h := text_any h n
  have e1 : readS s k true n = ⟨#[]⟩ := by simp [readS, lacks_true]
  have e2 : nextAt s k true n = k := by simp [nextAt, lacks_true]
  rw [e1, e2, lacks_true] at h
  exact h
/-- Err of a reader that has failed: a failure in memory of the call's own. -/
theorem err_told (h : Rd w g b cap s k true) :
    Calls Tryd.prog 32 #[.pointer (some ⟨g, 0, none⟩)] w fun e w' => ∃ f, e = .returned (.iface 71 (.pointer (some ⟨f, 0, none⟩))) ∧ w'.cell? ⟨f, 0, none⟩ = some (.int .i64 k) ∧ w'.cell? ⟨f, 0 + 1, none⟩ = some (.int .i64 20) ∧ Below w.heap.size w w' :=
  (err_bad h).mono fun _ _ ⟨he, hw⟩ => ⟨_, he, by rw [hw]; exact World.cell?_alloc_at _ _ _ _ rfl, by rw [hw]; exact World.cell?_alloc_at _ _ _ _ rfl, by rw [hw]; exact (Below.refl _ _).alloc (Nat.le_refl _) _⟩
theorem end_told_bad (h : Rd w g b cap s k true) :
    Calls Tryd.prog 35 #[.pointer (some ⟨g, 0, none⟩)] w fun e w' => ∃ f, e = .returned (.iface 71 (.pointer (some ⟨f, 0, none⟩))) ∧ w'.cell? ⟨f, 0, none⟩ = some (.int .i64 k) ∧ w'.cell? ⟨f, 0 + 1, none⟩ = some (.int .i64 20) ∧ Below w.heap.size w w' :=
  (end_bad h).mono fun _ _ ⟨he, hw⟩ => ⟨_, he, by rw [hw]; exact World.cell?_alloc_at _ _ _ _ rfl, by rw [hw]; exact World.cell?_alloc_at _ _ _ _ rfl, by rw [hw]; exact (Below.refl _ _).alloc (Nat.le_refl _) _⟩
theorem end_told_more (h : Rd w g b cap s k false) (hk : k < s.size) :
    Calls Tryd.prog 35 #[.pointer (some ⟨g, 0, none⟩)] w fun e w' => ∃ f, e = .returned (.iface 71 (.pointer (some ⟨f, 0, none⟩))) ∧ w'.cell? ⟨f, 0, none⟩ = some (.int .i64 k) ∧ w'.cell? ⟨f, 0 + 1, none⟩ = some (.int .i64 21) ∧ Below w.heap.size w w' :=
  (end_more h hk).mono fun _ _ ⟨n, he, hw⟩ => ⟨_, he, by rw [hw]; exact World.cell?_alloc_at _ _ _ _ rfl, by rw [hw]; exact World.cell?_alloc_at _ _ _ _ rfl, by rw [hw]; exact (below_drewN (Below.refl _ _) n).alloc (Nat.le_refl _) _⟩
theorem end_told_ok (h : Rd w g b cap s k false) (hk : ¬ k < s.size) :
    Calls Tryd.prog 35 #[.pointer (some ⟨g, 0, none⟩)] w fun e w' => e = .returned .nilIface ∧ Below w.heap.size w w' :=
  (end_ok h hk).mono fun _ _ ⟨n, he, hw⟩ => ⟨he, by rw [hw]; exact below_drewN (Below.refl _ _) n⟩
end

end Go.Proofs.YtkgkjkghdllkhaaDoor
