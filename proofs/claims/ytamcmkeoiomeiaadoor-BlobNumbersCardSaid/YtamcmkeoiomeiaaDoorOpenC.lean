/-
  Arguments opened: a slice of numbers of 16 bits.
-/
import Derived.Test.YtamcmkeoiomeiaaDoorLift
import Derived.Test.YtamcmkeoiomeiaaDoorWalkNumbers
namespace Go.Proofs.YtamcmkeoiomeiaaDoor
open Go.ChangeShapes Go.WideShapes Go.ChangeAt Go.RowKit

theorem nums16_open {H : Type} {enc : TypeId × Value → H} {W : World} {base : Nat} {sp : Nat → Bool} {A : Option Addr} {n c : Nat} {d : DataW H} {p : List MemPlace}
    (h : DataW.Trod enc Tryd.prog W base sp true 45 (.slice A n c) d p) : ∃ f, blobNumbers.Nums W A n f ∧ n ≤ 9223372036854775807 := by
  obtain ⟨fuel, hf⟩ := h
  rcases open_ints Tryd.underlying45 Tryd.underlying47 cells47 hf with ⟨hcs, _⟩ | ⟨a, len, cap, zs, hcs, _, hl, hm, hz, _, hcell, hwf⟩
  · simp [Value.cells] at hcs
    obtain ⟨rfl, rfl, rfl⟩ := hcs
    exact ⟨fun _ => 0, fun i hi => by omega, by omega⟩
  · simp [Value.cells] at hcs
    obtain ⟨rfl, rfl, rfl⟩ := hcs
    have hln : n ≤ zs.length := by rw [hz]; split <;> omega
    refine ⟨fun i => zs.getD i 0, fun i hin => ?_, by unfold maxLen at hm; omega⟩
    obtain ⟨b, off, rfl, hc⟩ := ints_at hcell (by omega)
    have hi : i < zs.length := by omega
    have hw := bounds_u16 (hwf (zs.getD i 0) (by simp [List.getD, hi]))
    exact ⟨b, off, rfl, hc i hi, by show 0 ≤ zs.getD i 0; omega, by show zs.getD i 0 < 65536; omega⟩
end Go.Proofs.YtamcmkeoiomeiaaDoor
