/-
  Arguments opened: a list of bytes.
-/
import Derived.Test.YtkbafiepnnldeaaOpenX
namespace Go.Proofs.Ytkbafiepnnldeaa
open Go.ChangeShapes Go.WideShapes Go.ChangeAt Go.RowKit Go.Deep
theorem cells5 : Try.prog.cellsOf 5 = 1 := by kernel_rfl
/-- Bytes in a list from an address on. -/
def BytesAt (w : World) (A : Option Addr) (l : List Int) : Prop := Arr w A 1 l.length fun i => [.int .u8 (l.getD i 0)]
theorem BytesAt.keep {w w' : World} {A : Option Addr} {l : List Int} (h : BytesAt w A l) (hb : Below w.heap.size w w') : BytesAt w' A l := Arr.keep h hb
theorem BytesAt.get {w : World} {A : Option Addr} {l : List Int} (h : BytesAt w A l) {i : Nat} (hi : i < l.length) : ∃ b o, A = some ⟨b, o, none⟩ ∧ w.cell? ⟨b, o + i, none⟩ = some (.int .u8 (l.getD i 0)) := by
  obtain ⟨b, o, e, hc⟩ := h i hi
  exact ⟨b, o, e, by simpa using hc 0 _ rfl⟩
section
variable {H : Type} {en : TypeId × Value → H} {w : World} {base b0 : Nat} {sp : Nat → Bool} {r : Reach} {v : Value} {d : DataW H} {p : List MemPlace}
theorem one_u8 {n : Nat} {cs : List Value} {x : DataW H × List MemPlace} (h : DataW.trod en Try.prog w base sp true n 5 cs = some x) : ∃ z, cs = [.int .u8 z] ∧ (0 ≤ z ∧ z ≤ 255) := by
  obtain ⟨z, rfl, _, hw⟩ := DataW.trod_int Try.underlying5 h
  exact ⟨z, rfl, bounds_u8 hw⟩
set_option maxRecDepth 100000 in
theorem bytes_of {n : Nat} {cs : List Value} {x : DataW H × List MemPlace} (h : DataW.trod en Try.prog w base sp true n 22 cs = some x) (hs : Sized 22 x) :
    ∃ (A : Option Addr) (cap : Nat) (l : List Int), cs = [.slice A l.length cap] ∧ (∀ y ∈ l, 0 ≤ y ∧ y ≤ 255) ∧ BytesAt w A l ∧ l.length ≤ 140737488355328 := by
  obtain ⟨A, cap, l, h1, h2, h3, h4, _⟩ := row_of (V := fun x => [.int .u8 x]) (Wf := fun x => 0 ≤ x ∧ x ≤ 255) 0 Try.underlying22 cells5 (by omega) (fun _ => rfl) (by kernel_rfl) (fun _ _ _ h _ => one_u8 h) h hs
  exact ⟨A, cap, l, h1, h2, h3, by omega⟩
set_option maxRecDepth 100000 in
theorem bytes_arg (hv : Value.okWide Try.prog w r b0 22 v) (h : DataW.Trod en Try.prog w base sp true 22 v d p) (hs : ∀ k ∈ d.weights Try.prog 22, k ≤ reachBytes) : ∃ (A : Option Addr) (cap : Nat) (l : List Int), v = .slice A l.length cap ∧ (∀ y ∈ l, 0 ≤ y ∧ y ≤ 255) ∧ BytesAt w A l ∧ l.length ≤ 140737488355328 := by
  obtain ⟨a, len, cap, rfl⟩ := okWide_slice Try.underlying22 hv
  obtain ⟨fuel, hf⟩ := h
  obtain ⟨A, cap', l, e, h1⟩ := bytes_of hf hs
  simp [Value.cells] at e
  obtain ⟨rfl, rfl, rfl⟩ := e
  exact ⟨_, _, l, rfl, h1⟩
end
end Go.Proofs.Ytkbafiepnnldeaa
