/-
  A reader in memory: its block, and the bytes that it reads; what keeps it.
-/
import Derived.Test.YtkgkjkghdllkhaaDoorProg
import Derived.WalkKit
import Derived.Below
import Derived.Lib.Hide
import Derived.Lib.SlBytesRow
import Derived.Laws.OwnMore
import Derived.OwnWalk
import Derived.WalkSmall
import Derived.IntWalk
namespace Go.Proofs.YtkgkjkghdllkhaaDoor
open Go.RowKit

/-- Block g is a reader over the bytes s, which lie in block b: it is at k, and has failed or not. -/
structure Rd (w : World) (g b cap : Nat) (s : ByteArray) (k : Nat) (bad : Bool) : Prop where
  row : w.heap[g]? = some (.cells #[.slice (some ⟨b, 0, none⟩) s.size cap, .int .i64 k, .bool bad] 109 (0, 0))
  bytes : Lib.Bytes w b 0 s
  ne : b ≠ g
  le : k ≤ s.size
  room : s.size ≤ cap
  big : cap ≤ maxLen
  lt : b < w.heap.size

theorem only_drewN {a w : World} {row : Option Nat} (h : a.grownBy w row) (n : Nat) : a.grownBy (w.drewN n) row := ⟨h.os, h.tape, h.output, h.size, h.block⟩
theorem only_below {a w : World} (h : Below a.heap.size a w) (row : Option Nat) : a.grownBy w row := ⟨h.os, h.tape, h.output, h.size, fun i hi _ => h.block i hi⟩
theorem only_set {a w : World} {g : Nat} (h : a.grownBy w (some g)) (i : Nat) (u : Value) : a.grownBy (w.setCell ⟨g, i, none⟩ u) (some g) :=
  ⟨h.os, h.tape, h.output, by simpa [World.setCell] using h.size, fun k hk hne => (Below.heap_setCell w ⟨g, i, none⟩ u k (fun e => hne (by rw [e]))).trans (h.block k hk hne)⟩
theorem only_trans {a b c : World} {row : Option Nat} (h : a.grownBy b row) (k : b.grownBy c row) : a.grownBy c row :=
  ⟨k.os.trans h.os, k.tape.trans h.tape, k.output.trans h.output, Nat.le_trans h.size k.size, fun i hi hne => (k.block i (Nat.lt_of_lt_of_le hi h.size) hne).trans (h.block i hi hne)⟩
theorem only_then {a b c : World} {row : Option Nat} (h : a.grownBy b row) (k : Below b.heap.size b c) : a.grownBy c row := only_trans h (only_below k row)

section
variable {w w' : World} {g b cap k : Nat} {s : ByteArray} {bad : Bool}
theorem Rd.glt (h : Rd w g b cap s k bad) : g < w.heap.size := (Array.getElem?_eq_some_iff.1 h.row).1
theorem Rd.c0 (h : Rd w g b cap s k bad) : w.cell? ⟨g, 0, none⟩ = some (.slice (some ⟨b, 0, none⟩) s.size cap) := by rw [cell_of_row w g 0 _ 109 (0, 0) h.row]; rfl
theorem Rd.c1 (h : Rd w g b cap s k bad) : w.cell? ⟨g, 1, none⟩ = some (.int .i64 k) := by rw [cell_of_row w g 1 _ 109 (0, 0) h.row]; rfl
theorem Rd.c2 (h : Rd w g b cap s k bad) : w.cell? ⟨g, 2, none⟩ = some (.bool bad) := by rw [cell_of_row w g 2 _ 109 (0, 0) h.row]; rfl
theorem Rd.frozen (h : Rd w g b cap s k bad) (i : Nat) : w.frozen? ⟨g, i, none⟩ = false := by simp [World.frozen?, h.row]
theorem Rd.small (h : Rd w g b cap s k bad) : s.size ≤ 9223372036854775807 ∧ cap ≤ 9223372036854775807 := by
  have := h.room; have := h.big; unfold maxLen at this; omega
theorem Rd.drewN (h : Rd w g b cap s k bad) (n : Nat) : Rd (w.drewN n) g b cap s k bad := ⟨h.row, h.bytes.drewN n, h.ne, h.le, h.room, h.big, h.lt⟩
theorem Rd.set1 (h : Rd w g b cap s k bad) {j : Nat} (hj : j ≤ s.size) : Rd (w.setCell ⟨g, 1, none⟩ (.int .i64 j)) g b cap s j bad := by
  refine ⟨?_, fun i hi => ?_, h.ne, hj, h.room, h.big, by simpa [World.setCell] using h.lt⟩
  · simp [World.setCell, Array.getElem?_modify, h.row]
  · rw [World.cell?_setCell_other _ _ _ _ (fun e => h.ne (by injection e with e1; exact e1.symm))]
    exact h.bytes i hi
theorem Rd.set2 (h : Rd w g b cap s k bad) : Rd (w.setCell ⟨g, 2, none⟩ (.bool true)) g b cap s k true := by
  refine ⟨?_, fun i hi => ?_, h.ne, h.le, h.room, h.big, by simpa [World.setCell] using h.lt⟩
  · simp [World.setCell, Array.getElem?_modify, h.row]
  · rw [World.cell?_setCell_other _ _ _ _ (fun e => h.ne (by injection e with e1; exact e1.symm))]
    exact h.bytes i hi
theorem Rd.grown {row : Option Nat} (h : Rd w g b cap s k bad) (hg : w.grownBy w' row) (h1 : some g ≠ row) (h2 : some b ≠ row) : Rd w' g b cap s k bad :=
  ⟨(hg.block g h.glt h1).trans h.row, fun i hi => hg.cell (h.bytes i hi) h2, h.ne, h.le, h.room, h.big, Nat.lt_of_lt_of_le h.lt hg.size⟩
theorem Rd.below (h : Rd w g b cap s k bad) (hb : Below w.heap.size w w') : Rd w' g b cap s k bad := h.grown (only_below hb none) (by simp) (by simp)
theorem Rd.set_far (h : Rd w g b cap s k bad) {p : Addr} (h1 : g ≠ p.block) (h2 : b ≠ p.block) (u : Value) : Rd (w.setCell p u) g b cap s k bad :=
  ⟨(Below.heap_setCell w p u g h1).trans h.row, fun i hi => by rw [World.cell?_setCell_other _ _ _ _ (fun e => h2 (by rw [e]))]; exact h.bytes i hi, h.ne, h.le, h.room, h.big, by simpa [World.setCell] using h.lt⟩
end
end Go.Proofs.YtkgkjkghdllkhaaDoor
