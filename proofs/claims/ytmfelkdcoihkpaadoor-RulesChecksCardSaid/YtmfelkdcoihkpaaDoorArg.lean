/-
  Parameters opened: a window, a plan.
-/
import Derived.Test.YtmfelkdcoihkpaaDoorOpen
import Derived.Test.YtmfelkdcoihkpaaDoorRules
import Derived.SizedLaws
namespace Go.Proofs.YtmfelkdcoihkpaaDoor
open Go.ChangeShapes Go.WideShapes Go.ChangeAt Go.RowKit Go.Deep

section
variable {H : Type} {en : TypeId × Value → H} {w : World} {base b0 : Nat} {sp : Nat → Bool} {r : Reach} {v : Value} {d : DataW H} {p : List MemPlace}
set_option maxRecDepth 100000 in
theorem win_arg (hv : Value.okWide Tryd.prog w r b0 39 v) (h : DataW.Trod en Tryd.prog w base sp true 39 v d p) : ∃ y : WinA, v = wv y ∧ WfWin y := by
  obtain ⟨cs, rfl, _⟩ := okWide_struct Tryd.underlying39 hv
  obtain ⟨fuel, hf⟩ := h
  obtain ⟨y, hy, hw⟩ := win_of hf
  refine ⟨y, ?_, hw⟩
  have : cs.toList = winV y := by simpa [Value.cells] using hy
  rw [← Array.toArray_toList (xs := cs), this]
  rfl
set_option maxRecDepth 100000 in
theorem plan_arg (hv : Value.okWide Tryd.prog w r b0 28 v) (h : DataW.Trod en Tryd.prog w base sp true 28 v d p) (hs : ∀ k ∈ d.weights Tryd.prog 28, k ≤ reachBytes) : ∃ (P : PlanA) (L : PlanL), v = planV P L ∧ PlanAt w P L ∧ POk P L := by
  obtain ⟨cs, rfl, _⟩ := okWide_struct Tryd.underlying28 hv
  obtain ⟨fuel, hf⟩ := h
  obtain ⟨P, L, e, h1, h2, h3, h4, h5, h6, h7, h8⟩ := plan_of hf hs
  refine ⟨P, L, ?_, h1, ⟨h2, h5.1.2, h6.1.2, h7.1.2, h8.1.2, h3, h4, h5.1.1, h8.1.1⟩⟩
  rw [← e]
  simp [Value.cells]
end
end Go.Proofs.YtmfelkdcoihkpaaDoor
