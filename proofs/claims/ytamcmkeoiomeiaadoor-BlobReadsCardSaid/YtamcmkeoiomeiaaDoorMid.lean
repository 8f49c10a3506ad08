/-
  An ask on both readers, behind the reference's answer: what is known in the midst.
-/
import Derived.Test.YtamcmkeoiomeiaaDoorRef
namespace Go.Proofs.YtamcmkeoiomeiaaDoor
open Go.RowKit

theorem only_far {a w : World} {g : Nat} (h : a.grownBy w (some g)) {p : Addr} (hp : a.heap.size ≤ p.block) (u : Value) : a.grownBy (w.setCell p u) (some g) :=
  ⟨h.os, h.tape, h.output, by simpa [World.setCell] using h.size, fun k hk hne => (Below.heap_setCell w p u k (fun e => by omega)).trans (h.block k hk hne)⟩

/-- Behind the reference's answer: the reader as it was when the ask began, or as it is now; the reference's new reader in its own block; the block of the result. -/
structure Mid (w : World) (g b cap : Nat) (s : ByteArray) (k : Nat) (bad : Bool) (k2 : Nat) (bad2 : Bool) (x y : Int) (W : World) : Prop where
  rd : Rd W g b cap s k bad
  only : w.grownBy W (some g)
  gl : g < w.heap.size
  bl : b < w.heap.size
  m : W.heap[w.heap.size]? = some (.cells #[.string s, .int .i64 k2, .bool bad2] 27 (0, 0))
  xr : W.heap[w.heap.size + 1]? = some (.cells #[.int .i64 x, .int .i64 y] 32 (0, 0))
  t : W.heap[w.heap.size + 1 + 1]? = some (.cells #[.string ⟨#[]⟩, .int .i64 0, .bool false] 27 (0, 0))

section
variable {w W W' : World} {g b cap k k2 : Nat} {s : ByteArray} {bad bad2 : Bool} {x y : Int}
theorem Mid.drew (h : Mid w g b cap s k bad k2 bad2 x y W) : Mid w g b cap s k bad k2 bad2 x y W.drew := ⟨h.rd.drewN 1, only_drewN h.only 1, h.gl, h.bl, h.m, h.xr, h.t⟩
theorem Mid.drewN (h : Mid w g b cap s k bad k2 bad2 x y W) (n : Nat) : Mid w g b cap s k bad k2 bad2 x y (W.drewN n) := ⟨h.rd.drewN n, only_drewN h.only n, h.gl, h.bl, h.m, h.xr, h.t⟩
theorem Mid.c0 (h : Mid w g b cap s k bad k2 bad2 x y W) : W.cell? ⟨w.heap.size, 0, none⟩ = some (.string s) := by rw [cell_of_row W _ 0 _ 27 (0, 0) h.m]; rfl
theorem Mid.c1 (h : Mid w g b cap s k bad k2 bad2 x y W) : W.cell? ⟨w.heap.size, 1, none⟩ = some (.int .i64 k2) := by rw [cell_of_row W _ 1 _ 27 (0, 0) h.m]; rfl
theorem Mid.c2 (h : Mid w g b cap s k bad k2 bad2 x y W) : W.cell? ⟨w.heap.size, 2, none⟩ = some (.bool bad2) := by rw [cell_of_row W _ 2 _ 27 (0, 0) h.m]; rfl
theorem Mid.x0 (h : Mid w g b cap s k bad k2 bad2 x y W) : W.cell? ⟨w.heap.size + 1, 0, none⟩ = some (.int .i64 x) := by rw [cell_of_row W _ 0 _ 32 (0, 0) h.xr]; rfl
theorem Mid.x1 (h : Mid w g b cap s k bad k2 bad2 x y W) : W.cell? ⟨w.heap.size + 1, 1, none⟩ = some (.int .i64 y) := by rw [cell_of_row W _ 1 _ 32 (0, 0) h.xr]; rfl
theorem Mid.t0 (h : Mid w g b cap s k bad k2 bad2 x y W) : W.cell? ⟨w.heap.size + 1 + 1, 0, none⟩ = some (.string ⟨#[]⟩) := by rw [cell_of_row W _ 0 _ 27 (0, 0) h.t]; rfl
theorem Mid.t1 (h : Mid w g b cap s k bad k2 bad2 x y W) : W.cell? ⟨w.heap.size + 1 + 1, 1, none⟩ = some (.int .i64 0) := by rw [cell_of_row W _ 1 _ 27 (0, 0) h.t]; rfl
theorem Mid.t2 (h : Mid w g b cap s k bad k2 bad2 x y W) : W.cell? ⟨w.heap.size + 1 + 1, 2, none⟩ = some (.bool false) := by rw [cell_of_row W _ 2 _ 27 (0, 0) h.t]; rfl
theorem Mid.f (h : Mid w g b cap s k bad k2 bad2 x y W) (i : Nat) : W.frozen? ⟨w.heap.size + 1 + 1, i, none⟩ = false := by simp [World.frozen?, h.t]
/-- The reader goes on. -/
theorem Mid.next {k' : Nat} {bad' : Bool} (h : Mid w g b cap s k bad k2 bad2 x y W) (hr : Rd W' g b cap s k' bad') (ho : W.grownBy W' (some g)) : Mid w g b cap s k' bad' k2 bad2 x y W' :=
  have hs : w.heap.size < W.heap.size := (Array.getElem?_eq_some_iff.1 h.m).1
  have hs1 : w.heap.size + 1 < W.heap.size := (Array.getElem?_eq_some_iff.1 h.xr).1
  have hs2 : w.heap.size + 1 + 1 < W.heap.size := (Array.getElem?_eq_some_iff.1 h.t).1
  ⟨hr, only_trans h.only ho, h.gl, h.bl, (ho.block _ hs (fun e => by have := h.gl; injection e with e; omega)).trans h.m, (ho.block _ hs1 (fun e => by have := h.gl; injection e with e; omega)).trans h.xr, (ho.block _ hs2 (fun e => by have := h.gl; injection e with e; omega)).trans h.t⟩
/-- The result is laid. -/
theorem Mid.done (h : Mid w g b cap s k bad k2 bad2 x y W) (u0 u1 u2 : Value) :
    Rd (((W.setCell ⟨w.heap.size + 1 + 1, 0, none⟩ u0).setCell ⟨w.heap.size + 1 + 1, 1, none⟩ u1).setCell ⟨w.heap.size + 1 + 1, 2, none⟩ u2) g b cap s k bad ∧
      w.grownBy (((W.setCell ⟨w.heap.size + 1 + 1, 0, none⟩ u0).setCell ⟨w.heap.size + 1 + 1, 1, none⟩ u1).setCell ⟨w.heap.size + 1 + 1, 2, none⟩ u2) (some g) := by
  have hg := h.gl
  have hb := h.bl
  refine ⟨((h.rd.set_far (p := ⟨w.heap.size + 1 + 1, 0, none⟩) ?_ ?_ _).set_far (p := ⟨w.heap.size + 1 + 1, 1, none⟩) ?_ ?_ _).set_far (p := ⟨w.heap.size + 1 + 1, 2, none⟩) ?_ ?_ _,
    only_far (p := ⟨w.heap.size + 1 + 1, 2, none⟩) (only_far (p := ⟨w.heap.size + 1 + 1, 1, none⟩) (only_far (p := ⟨w.heap.size + 1 + 1, 0, none⟩) h.only ?_ _) ?_ _) ?_ _⟩
  all_goals (simp only; omega)
/-- Behind the reference's answer. -/
theorem Mid.start (h : Rd w g b cap s k bad) (x y : Int) (k0 : Nat) (bad0 : Bool)
    (hB : Below (((w.alloc (.cells #[.string s, .int .i64 k0, .bool bad0] 27)).alloc (.cells #[.int .i64 x, .int .i64 y] 32)).alloc (.cells #[.string ⟨#[]⟩, .int .i64 0, .bool false] 27)).heap.size
      (((w.alloc (.cells #[.string s, .int .i64 k0, .bool bad0] 27)).alloc (.cells #[.int .i64 x, .int .i64 y] 32)).alloc (.cells #[.string ⟨#[]⟩, .int .i64 0, .bool false] 27)) W) :
    Mid w g b cap s k bad k0 bad0 x y W := by
  have e1 : (w.alloc (.cells #[.string s, .int .i64 k0, .bool bad0] 27)).heap.size = w.heap.size + 1 := by simp
  have e2 : ((w.alloc (.cells #[.string s, .int .i64 k0, .bool bad0] 27)).alloc (.cells #[.int .i64 x, .int .i64 y] 32)).heap.size = w.heap.size + 1 + 1 := by simp
  have hb : Below w.heap.size w W := ((((Below.refl _ _).alloc (Nat.le_refl _) _).alloc (by simp) _).alloc (by rw [e2]; omega) _).trans (hB.mono (by simp; omega))
  refine ⟨h.below hb, only_below hb _, h.glt, h.lt, ?_, ?_, ?_⟩
  · rw [hB.block _ (by simp; omega), Below.heap_alloc _ _ _ (by rw [e2]; omega), Below.heap_alloc _ _ _ (by rw [e1]; omega)]
    exact heap_alloc_new _ _
  · rw [hB.block _ (by simp), Below.heap_alloc _ _ _ (by rw [e2]; omega), ← e1]
    exact heap_alloc_new _ _
  · rw [hB.block _ (by simp), ← e2]
    exact heap_alloc_new _ _
/-- The reference's reader is laid anew. -/
theorem Mid.laid (h : Mid w g b cap s k bad k2 bad2 x y W) (k3 : Nat) (bad3 : Bool) :
    Mid w g b cap s k bad k3 bad3 x y (((W.setCell ⟨w.heap.size, 0, none⟩ (.string s)).setCell ⟨w.heap.size, 1, none⟩ (.int .i64 k3)).setCell ⟨w.heap.size, 2, none⟩ (.bool bad3)) := by
  have hg := h.gl
  have hb := h.bl
  refine ⟨((h.rd.set_far (p := ⟨w.heap.size, 0, none⟩) ?_ ?_ _).set_far (p := ⟨w.heap.size, 1, none⟩) ?_ ?_ _).set_far (p := ⟨w.heap.size, 2, none⟩) ?_ ?_ _,
    only_far (p := ⟨w.heap.size, 2, none⟩) (only_far (p := ⟨w.heap.size, 1, none⟩) (only_far (p := ⟨w.heap.size, 0, none⟩) h.only ?_ _) ?_ _) ?_ _, hg, hb, ?_, ?_, ?_⟩
  all_goals first
    | (simp only; omega)
    | skip
  · simp [World.setCell, Array.getElem?_modify, h.m]
  · rw [Below.heap_setCell _ _ _ _ (by simp only; omega), Below.heap_setCell _ _ _ _ (by simp only; omega), Below.heap_setCell _ _ _ _ (by simp only; omega)]
    exact h.xr
  · rw [Below.heap_setCell _ _ _ _ (by simp only; omega), Below.heap_setCell _ _ _ _ (by simp only; omega), Below.heap_setCell _ _ _ _ (by simp only; omega)]
    exact h.t
end
end Go.Proofs.YtamcmkeoiomeiaaDoor
