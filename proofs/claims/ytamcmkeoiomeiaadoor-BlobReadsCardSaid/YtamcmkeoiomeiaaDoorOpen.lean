/-
  Arguments opened: a slice of asks.
-/
import Derived.Test.YtamcmkeoiomeiaaDoorLift
import Derived.Test.YtamcmkeoiomeiaaDoorCall
import Derived.Deep.SlicePairs
namespace Go.Proofs.YtamcmkeoiomeiaaDoor
open Go.ChangeShapes Go.WideShapes Go.ChangeAt Go.RowKit

theorem cells32 : Tryd.prog.cellsOf 32 = 2 := by kernel_rfl

def i64Of : Value → Int | .int .i64 q => q | _ => 0
theorem asks_open {H : Type} {enc : TypeId × Value → H} {W : World} {base : Nat} {sp : Nat → Bool} {A : Option Addr} {n c : Nat} {d : DataW H} {p : List MemPlace}
    (h : DataW.Trod enc Tryd.prog W base sp true 22 (.slice A n c) d p) : ∃ f, Asks W A n f ∧ n ≤ 9223372036854775807 := by
  obtain ⟨fuel, hf⟩ := h
  rcases Deep.open_slice_pairs Tryd.underlying22 Tryd.underlying32 cells32 rfl rfl (by exact cells3) (by exact cells3) hf with ⟨hcs, _⟩ | ⟨a, len, cap, m, k, V0, V1, D0, D1, P0, P1, hcs, _, hl, hm, hmm, _, hi⟩
  · simp [Value.cells] at hcs
    obtain ⟨rfl, rfl, rfl⟩ := hcs
    exact ⟨fun _ => (0, 0), fun i hi => by omega, by omega⟩
  · simp [Value.cells] at hcs
    obtain ⟨rfl, rfl, rfl⟩ := hcs
    have hlm : n ≤ m := by rw [hmm]; split <;> omega
    refine ⟨fun i => (i64Of (V0 i), i64Of (V1 i)), fun i hin => ?_, by unfold maxLen at hm; omega⟩
    obtain ⟨h0, h1, t0, t1⟩ := hi i (by omega)
    obtain ⟨x, e0, _, _⟩ := DataW.trod_int Tryd.underlying3 t0
    obtain ⟨y, e1, _, _⟩ := DataW.trod_int Tryd.underlying3 t1
    simp at e0 e1
    rw [e0] at h0
    rw [e1] at h1
    obtain ⟨b, o, s⟩ := a
    have hs : s = none := by simpa [Addr.add] using World.cell?_spot (hi 0 (by omega)).1
    subst hs
    rw [add_lit] at h0 h1
    refine ⟨b, o, rfl, ?_, ?_⟩
    · simp only [e0]; exact h0
    · simp only [e1]; rw [Nat.add_assoc]; exact h1
end Go.Proofs.YtamcmkeoiomeiaaDoor
