/-
  A new memory, its words in a slice of their own, how often it was used; the given comparison of words.
-/
import Derived.Test.YtoaaeamogpdcgaaDoorMeth
import Derived.Laws.CopyOwn
namespace Go.Proofs.YtoaaeamogpdcgaaDoor
open Go.RowKit

theorem info22 : (Tryd.prog.info? 22).map (fun i => (i.zero, i.size, i.bytes)) = some (some (.int .u32 0), 1, 4) := by kernel_rfl
theorem heap_alloc_new (w : World) (o : Obj) : (w.alloc o).heap[w.heap.size]? = some o := by
  show (w.heap.push o)[w.heap.size]? = _
  rw [Array.getElem?_push, if_pos rfl]
theorem frozen_new (w : World) (c : Array Value) (t : TypeId) (j : Nat) : (w.alloc (.cells c t)).frozen? ⟨w.heap.size, j, none⟩ = false := by
  unfold World.frozen?
  rw [heap_alloc_new]
  simp
/-- Words in a slice of their own. -/
def OwnU (w : World) (b n : Nat) (f : Nat → Int) : Prop := w.rowIs b 22 n fun i => .int .u32 (f i)

set_option maxHeartbeats 1000000 in
theorem new_no (n : Int) (w : World) (h : ¬ (1 ≤ n ∧ n ≤ 4096)) :
    Calls Tryd.prog 8 #[.int .i64 n] w fun e w' => e = .returned (.tuple #[.pointer none, .int .i64 80]) ∧ w = w' := by
  by_cases h1 : n < 1
  · clear h
    go_enter Tryd.func8, Tryd.ntmps8
    go_wp2_with fail
    all_goals
      go_ret2
      exact ⟨rfl, rfl⟩
  · have h2 : 4096 < n := by omega
    clear h
    go_enter Tryd.func8, Tryd.ntmps8
    go_wp2_with fail
    all_goals
      go_ret2
      exact ⟨rfl, rfl⟩
set_option maxHeartbeats 2000000 in
theorem new_yes (n : Nat) (w : World) (h1 : 1 ≤ n) (h2 : n ≤ 4096) :
    Calls Tryd.prog 8 #[.int .i64 n] w fun e w' => ∃ g b, e = .returned (.tuple #[.pointer (some ⟨g, 0, none⟩), .int .i64 0]) ∧ MemAt w' g b n (fun _ => 0) 0 ∧ w.heap.size ≤ g ∧ w.heap.size ≤ b ∧ Below w.heap.size w w' := by
  have hmk := fun W => run_make_row' (P := Tryd.prog) 37 22 (.int .u32 0) 4 Tryd.underlying37 info22 rfl .i64 .i64 n (by omega) (by omega) W
  go_enter Tryd.func8, Tryd.ntmps8
  go_wp2_with fail
  go_ret2
  refine ⟨w.heap.size + 1, w.heap.size, by simp, ⟨(World.rowIs_made w (.int .u32 0) n 22).alloc _, by simp, by simp, fun j => ?_, by simp⟩, by simp, Nat.le_refl _, ((Below.refl _ _).alloc (Nat.le_refl _) _).alloc (by simp) _⟩
  have := frozen_new (w.alloc (.cells (madeCells #[.int .u32 0] n) 22)) #[.slice (some ⟨w.heap.size, 0, none⟩) n n, .int .i64 0] 68 j
  simp at this ⊢
theorem copied {n : Nat} {f : Nat → Int} {W : World} {e : Nat} (h : W.heap[e]? = some (.cells (splice (madeCells #[.int .u32 0] n).toList 0 ((List.range n).map fun i => Value.int .u32 (f i))).toArray 22 (0, 0))) : OwnU W e n f := by
  refine ⟨_, h, ?_, fun i hi => ?_⟩
  · simp [splice, size_madeCells]
  · simp [splice, size_madeCells, hi]
set_option maxHeartbeats 4000000 in
set_option maxRecDepth 100000 in
theorem words_any (g b n : Nat) (f : Nat → Int) (c : Int) (w : World) (hM : MemAt w g b n f c) (hn : n ≤ 4096) :
    Calls Tryd.prog 24 #[.pointer (some ⟨g, 0, none⟩)] w fun e w' => ∃ d, e = .returned (.slice (some ⟨d, 0, none⟩) n n) ∧ OwnU w' d n f ∧ w.heap.size ≤ d ∧ Below w.heap.size w w' := by
  have hmk := fun W => run_make_row' (P := Tryd.prog) 37 22 (.int .u32 0) 4 Tryd.underlying37 info22 rfl .i64 .i64 n (by omega) (by omega) W
  have k0 := hM.c0
  have hb1 : Below w.heap.size w (w.alloc (.cells (madeCells #[.int .u32 0] n) 22)) := (Below.refl _ _).alloc (Nat.le_refl _) _
  have z0 := kept k0 hb1
  have hrow : (w.alloc (.cells (madeCells #[.int .u32 0] n) 22)).heap[w.heap.size]? = some (.cells (madeCells #[.int .u32 0] n).toList.toArray 22 (0, 0)) := by rw [Array.toArray_toList]; exact heap_alloc_new _ _
  have hsrc : ∀ j v, ((List.range n).map fun i => Value.int .u32 (f i))[j]? = some v → (w.alloc (.cells (madeCells #[.int .u32 0] n) 22)).cell? ((⟨b, 0, none⟩ : Addr).add j) = some v := by
    intro j v hv
    have hj : j < n := by
      rcases Nat.lt_or_ge j n with h | h
      · exact h
      · rw [List.getElem?_eq_none (by simpa using h)] at hv; cases hv
    rw [List.getElem?_map, List.getElem?_range hj] at hv
    injection hv with hv
    subst hv
    have := kept (hM.row.cell (i := j) (by omega)) hb1
    rw [show (⟨b, 0, none⟩ : Addr).add j = ⟨b, j, none⟩ by unfold Addr.add; split <;> simp_all]
    exact this
  have HSRC := Lib.hid hsrc
  have HROW := Lib.hid hrow
  have HB1 := Lib.hid hb1
  have hsz : (Tryd.prog.info? 22).map (·.size) = some 1 := by kernel_rfl
  have HSZ := Lib.hid hsz
  clear hsrc hrow hb1 hsz hM
  go_enter Tryd.func24, Tryd.ntmps24
  go_wp2_with (with_reducible refine wpList_copy_splice rfl (.tmp 10) (.tmp 14) 37 37 rfl 22 Tryd.underlying37 HSZ.out (some ⟨w.heap.size, 0, none⟩) (some ⟨b, 0, none⟩) n n n n rfl rfl w.heap.size 0 (madeCells #[.int .u32 0] n).toList 22 HROW.out ((List.range n).map fun i => Value.int .u32 (f i)) (by simp) (fun _ => ⟨rfl, _, rfl, HSRC.out⟩) (by simp [size_madeCells]) (by simp [Value.oneCell']) w.heap.size w HB1.out (Nat.le_refl _) ?_)
  intro w2 HG2 hB2
  have HB2 := Lib.hid hB2
  clear hB2 z0 k0
  go_wp2_with fail
  go_ret
  exact ⟨_, rfl, copied HG2.out, Nat.le_refl _, HB2.out⟩
end Go.Proofs.YtoaaeamogpdcgaaDoor
