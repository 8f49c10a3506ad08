/-
  Parameters opened: a window, a plan.
-/
import Derived.Test.YtjiikhfeacgjjaaOpen
import Derived.SizedLaws
namespace Go.Proofs.Ytjiikhfeacgjjaa
open Go.ChangeShapes Go.WideShapes Go.ChangeAt Go.RowKit Go.Deep

section
variable {H : Type} {en : TypeId × Value → H} {w : World} {base b0 : Nat} {sp : Nat → Bool} {r : Reach} {v : Value} {d : DataW H} {p : List MemPlace}
set_option maxRecDepth 100000 in
theorem win_arg (hv : Value.okWide Try.prog w r b0 75 v) (h : DataW.Trod en Try.prog w base sp true 75 v d p) : ∃ y : WinA, v = wv y ∧ WfWin y := by
  obtain ⟨cs, rfl, _⟩ := okWide_struct Try.underlying75 hv
  obtain ⟨fuel, hf⟩ := h
  obtain ⟨y, hy, hw⟩ := win_of hf
  refine ⟨y, ?_, hw⟩
  have : cs.toList = winV y := by simpa [Value.cells] using hy
  rw [← Array.toArray_toList (xs := cs), this]
  rfl
set_option maxRecDepth 100000 in
theorem chan_arg (hv : Value.okWide Try.prog w r b0 44 v) (h : DataW.Trod en Try.prog w base sp true 44 v d p) : ∃ y : ChanA, v = cv y ∧ WfChan y := by
  obtain ⟨cs, rfl, _⟩ := okWide_struct Try.underlying44 hv
  obtain ⟨fuel, hf⟩ := h
  obtain ⟨y, hy, hw⟩ := chan_of hf
  refine ⟨y, ?_, hw⟩
  have : cs.toList = chanV y := by simpa [Value.cells] using hy
  rw [← Array.toArray_toList (xs := cs), this]
  rfl
theorem cells47b : Try.prog.cellsOf 47 = 3 := by kernel_rfl
theorem okWide_ints (hv : Value.okWide Try.prog w r b0 47 v) : ∃ cs, v = .agg cs := by
  simp only [Value.okWide, Try.underlying47] at hv
  obtain ⟨cs, h1, _⟩ := hv
  exact ⟨cs, h1⟩
set_option maxRecDepth 100000 in
theorem ints_arg (hv : Value.okWide Try.prog w r b0 47 v) (h : DataW.Trod en Try.prog w base sp true 47 v d p) : ∃ a b c : Int, v = .agg #[.int .i64 a, .int .i64 b, .int .i64 c] := by
  obtain ⟨cs, rfl⟩ := okWide_ints hv
  obtain ⟨fuel, hf⟩ := h
  obtain ⟨xs, m, _, _, hlen, hx, hf⟩ := DataW.trod_array Try.underlying47 hf
  rw [cells47b] at hlen
  simp only [Value.cells] at hlen hf
  obtain ⟨l⟩ := cs
  simp only at hlen hf
  match l, hlen, xs, hx with
  | [a0, a1, a2], _, [y0, y1, y2], _ =>
    have h0 : DataW.trod en Try.prog w base sp true m 3 [a0] = some y0 := by simpa [cells3] using hf 0 (by omega)
    have h1 : DataW.trod en Try.prog w base sp true m 3 [a1] = some y1 := by simpa [cells3] using hf 1 (by omega)
    have h2 : DataW.trod en Try.prog w base sp true m 3 [a2] = some y2 := by simpa [cells3] using hf 2 (by omega)
    obtain ⟨z0, e0, _⟩ := DataW.trod_int Try.underlying3 h0
    obtain ⟨z1, e1, _⟩ := DataW.trod_int Try.underlying3 h1
    obtain ⟨z2, e2, _⟩ := DataW.trod_int Try.underlying3 h2
    injection e0 with e0
    injection e1 with e1
    injection e2 with e2
    subst e0 e1 e2
    exact ⟨z0, z1, z2, rfl⟩
set_option maxRecDepth 100000 in
theorem plan_arg (hv : Value.okWide Try.prog w r b0 28 v) (h : DataW.Trod en Try.prog w base sp true 28 v d p) (hs : ∀ k ∈ d.weights Try.prog 28, k ≤ reachBytes) : ∃ (P : PlanA) (L : PlanL), v = planV P L ∧ PlanAt w P L ∧ POk P L := by
  obtain ⟨cs, rfl, _⟩ := okWide_struct Try.underlying28 hv
  obtain ⟨fuel, hf⟩ := h
  obtain ⟨P, L, e, h1, h2, h3, h4, h5, h6, h7, h8⟩ := plan_of hf hs
  refine ⟨P, L, ?_, h1, ⟨h2, h5.1.2, h6.1.2, h7.1.2, h8.1.2, h3, h4, h5.1.1, h8.1.1⟩⟩
  rw [← e]
  simp [Value.cells]
end
end Go.Proofs.Ytjiikhfeacgjjaa
