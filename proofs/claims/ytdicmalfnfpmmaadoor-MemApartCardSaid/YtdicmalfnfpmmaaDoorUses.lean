/-
  A list of uses in memory.
-/
import Derived.Test.YtdicmalfnfpmmaaDoorSt
namespace Go.Proofs.YtdicmalfnfpmmaaDoor
open Go.RowKit

/-- From address A on n elements of C cells lie, the i-th of which holds F i. -/
def Arr (w : World) (A : Option Addr) (C n : Nat) (F : Nat → List Value) : Prop :=
  ∀ i, i < n → ∃ b o, A = some ⟨b, o, none⟩ ∧ ∀ j u, (F i)[j]? = some u → w.cell? ⟨b, o + i * C + j, none⟩ = some u
theorem Arr.keep {w w' : World} {A : Option Addr} {C n : Nat} {F : Nat → List Value} (h : Arr w A C n F) (hb : Below w.heap.size w w') : Arr w' A C n F := fun i hi => by
  obtain ⟨b, o, e, hc⟩ := h i hi
  exact ⟨b, o, e, fun j u hu => by rw [hb.cell (cell_lt (hc j u hu))]; exact hc j u hu⟩
theorem Arr.at {w : World} {b o C n : Nat} {F : Nat → List Value} (h : Arr w (some ⟨b, o, none⟩) C n F) {i j : Nat} {u : Value} (hi : i < n) (hu : (F i)[j]? = some u) : w.cell? ⟨b, o + i * C + j, none⟩ = some u := by
  obtain ⟨b', o', e, hc⟩ := h i hi
  injection e with e
  injection e with e1 e2
  rw [e1, e2]
  exact hc j u hu
theorem Arr.head {w : World} {A : Option Addr} {C n : Nat} {F : Nat → List Value} (h : Arr w A C n F) {i : Nat} (hi : i < n) : ∃ b o, A = some ⟨b, o, none⟩ := by
  obtain ⟨b, o, e, _⟩ := h i hi
  exact ⟨b, o, e⟩


theorem getD_mem {α : Type} {l : List α} {k : Nat} (d : α) (h : k < l.length) : l.getD k d ∈ l := by
  rw [List.getD_eq_getElem?_getD, List.getElem?_eq_getElem h]
  exact List.getElem_mem h


/-- A use as a law is given it: its kind, its word, the word that it expects, the value that it brings. -/
abbrev UseA := Int × Int × Int × Int
def dX : UseA := (0, 0, 0, 0)
def xC (y : UseA) : List Value := [.int .i64 y.1, .int .i64 y.2.1, .int .u32 y.2.2.1, .int .u32 y.2.2.2]
def WfUse (y : UseA) : Prop := (-9223372036854775808 ≤ y.1 ∧ y.1 ≤ 9223372036854775807) ∧ (-9223372036854775808 ≤ y.2.1 ∧ y.2.1 ≤ 9223372036854775807) ∧ (0 ≤ y.2.2.1 ∧ y.2.2.1 < 4294967296) ∧ (0 ≤ y.2.2.2 ∧ y.2.2.2 < 4294967296)
def UsesAt (w : World) (A : Option Addr) (l : List UseA) : Prop := Arr w A 4 l.length fun i => xC (l.getD i dX)
end Go.Proofs.YtdicmalfnfpmmaaDoor
