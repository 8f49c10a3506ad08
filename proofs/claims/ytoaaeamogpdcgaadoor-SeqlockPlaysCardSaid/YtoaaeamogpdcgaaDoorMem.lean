/-
  A memory of words in memory; the six kinds of uses; what keeps them.
-/
import Derived.Test.YtoaaeamogpdcgaaDoorRows
import Derived.WalkKit
import Derived.WalkSpells
import Derived.WalkLawsBesides
import Derived.WalkSmall
import Derived.Below
import Derived.Lib.Hide
import Derived.RegionTactic
import Derived.BigRegion
import Derived.LoopTactic
import Derived.Laws.StructEq
import Derived.BigQuiet
import Derived.Deep.QuietTactic
import Derived.Deep.OwnRows
import Derived.IntWalk
namespace Go.Proofs.YtoaaeamogpdcgaaDoor
open Go.RowKit

theorem cell_lt {w : World} {a : Addr} {v : Value} (h : w.cell? a = some v) : a.block < w.heap.size := by
  rcases Nat.lt_or_ge a.block w.heap.size with h' | h'
  · exact h'
  · simp [World.cell?, Array.getElem?_eq_none h'] at h
theorem kept {w w' : World} {a : Addr} {v : Value} (hc : w.cell? a = some v) (h : Below w.heap.size w w') : w'.cell? a = some v := by
  rw [h.cell (cell_lt hc)]; exact hc
theorem below_two {w w1 w2 : World} (h : Below w.heap.size w w1) (k : Below w1.heap.size w1 w2) : Below w.heap.size w w2 := h.trans (k.mono h.size)
theorem below_any {n : Nat} {w w1 w2 : World} (h : Below n w w1) (hn : n ≤ w1.heap.size) (k : Below w1.heap.size w1 w2) : Below n w w2 := h.trans (k.mono hn)
theorem ret_b {a b : Bool} (h : a = b) : Ending.returned (.bool a) = .returned (.bool b) := by rw [h]
theorem ret_i {k : IntKind} {a b : Int} (h : a = b) : Ending.returned (.int k a) = .returned (.int k b) := by rw [h]

/-- The kinds: 0 load, 1 store, 2 swap, 3 add, 4 or, 5 take. -/
def kK (K : Nat) : Bool × Bool × Bool × Bool :=
  match K with
  | 0 => (true, false, false, false)
  | 1 => (false, true, false, false)
  | 2 => (false, true, false, true)
  | 3 => (true, true, false, false)
  | 4 => (true, true, true, false)
  | _ => (false, false, false, false)
/-- The block of a kind. -/
def gK (K : Nat) : Nat :=
  match K with
  | 0 => 1
  | 1 => 0
  | n => n
/-- A variable of four truths. -/
def Four (w : World) (b : Nat) (k : Bool × Bool × Bool × Bool) : Prop :=
  w.cell? ⟨b, 0, none⟩ = some (.bool k.1) ∧ w.cell? ⟨b, 1, none⟩ = some (.bool k.2.1) ∧ w.cell? ⟨b, 2, none⟩ = some (.bool k.2.2.1) ∧ w.cell? ⟨b, 3, none⟩ = some (.bool k.2.2.2)
/-- What the kinds' variables hold. -/
def GOk (w : World) : Prop := ∀ K, K ≤ 5 → Four w (gK K) (kK K)
theorem Four.same {w w' : World} {b : Nat} {k : Bool × Bool × Bool × Bool} (h : Four w b k) (e : w'.heap[b]? = w.heap[b]?) : Four w' b k := by
  refine ⟨?_, ?_, ?_, ?_⟩ <;> rw [World.cell?_of_block (w := w) e]
  · exact h.1
  · exact h.2.1
  · exact h.2.2.1
  · exact h.2.2.2
theorem Four.lt {w : World} {b : Nat} {k : Bool × Bool × Bool × Bool} (h : Four w b k) : b < w.heap.size := cell_lt h.1
theorem GOk.keep {w w' : World} (h : GOk w) (hB : Below w.heap.size w w') : GOk w' := fun K hK => (h K hK).same (hB.block _ (h K hK).lt)
theorem GOk.below {n : Nat} {w w' : World} (h : GOk w) (hn : 6 ≤ n) (hB : Below n w w') : GOk w' := fun K hK => (h K hK).same (hB.block _ (by
  have : gK K ≤ 5 := by
    match K, hK with
    | 0, _ => decide
    | 1, _ => decide
    | 2, _ => decide
    | 3, _ => decide
    | 4, _ => decide
    | 5, _ => decide
  omega))

/-- A use as a value: its kind, the word that it expects, the value that it brings. -/
def useV (K : Nat) (old v : Int) : Value := .agg #[.bool (kK K).1, .bool (kK K).2.1, .bool (kK K).2.2.1, .bool (kK K).2.2.2, .int .u32 old, .int .u32 v]
/-- What a word becomes. -/
def afterS (K : Nat) (old v was : Int) : Int :=
  match K with
  | 0 => was
  | 1 => v
  | 2 => if was = old then v else was
  | 3 => IntKind.u32.wrap (was + v)
  | 4 => bits .or .u32 was v
  | _ => 0
end Go.Proofs.YtoaaeamogpdcgaaDoor
