/-
  A task that loads first; a step of a task.
-/
import Derived.Test.YtdhanenbcjmfkaaDoorTask
namespace Go.Proofs.YtdhanenbcjmfkaaDoor
open Go.RowKit

theorem Else.frozen {g b : Nat} {w w' : World} {a : Addr} (h : Else g b w w') (hl : a.block < w.heap.size) (h1 : a.block ≠ g) (h2 : a.block ≠ b) : w'.frozen? a = w.frozen? a := World.frozen?_of_block (w := w) (h.block a.block hl h1 h2)
/-- A task that loads first: its boxes, at B .. B + 4: the word's number twice, the function that it goes on with, what was loaded, whether something was. -/
structure Box (w : World) (B K : Nat) (a : Int) (has : Bool) (v : Int) : Prop where
  b0 : w.cell? ⟨B, 0, none⟩ = some (.int .i64 a)
  b1 : w.cell? ⟨B + 1, 0, none⟩ = some (.int .i64 a)
  b2 : w.cell? ⟨B + 2, 0, none⟩ = some (.func (.func (thenK K)) #[] #[.pointer (some ⟨B, 0, none⟩)])
  b3 : ∃ y, w.cell? ⟨B + 3, 0, none⟩ = some (.int .u32 y) ∧ (has = true → y = v)
  b4 : w.cell? ⟨B + 4, 0, none⟩ = some (.bool has)
  z3 : w.frozen? ⟨B + 3, 0, none⟩ = false
  z4 : w.frozen? ⟨B + 4, 0, none⟩ = false
theorem Box.same {w w' : World} {B K : Nat} {a : Int} {has : Bool} {v : Int} (h : Box w B K a has v) (e : ∀ k, B ≤ k → k < B + 5 → w'.heap[k]? = w.heap[k]?) : Box w' B K a has v := by
  obtain ⟨b0, b1, b2, ⟨y, b3, hy⟩, b4, z3, z4⟩ := h
  refine ⟨?_, ?_, ?_, ⟨y, ?_, hy⟩, ?_, ?_, ?_⟩
  · rw [World.cell?_of_block (w := w) (e B (by omega) (by omega))]; exact b0
  · rw [World.cell?_of_block (w := w) (e (B + 1) (by omega) (by omega))]; exact b1
  · rw [World.cell?_of_block (w := w) (e (B + 2) (by omega) (by omega))]; exact b2
  · rw [World.cell?_of_block (w := w) (e (B + 3) (by omega) (by omega))]; exact b3
  · rw [World.cell?_of_block (w := w) (e (B + 4) (by omega) (by omega))]; exact b4
  · rw [World.frozen?_of_block (w := w) (e (B + 3) (by omega) (by omega))]; exact z3
  · rw [World.frozen?_of_block (w := w) (e (B + 4) (by omega) (by omega))]; exact z4
theorem Box.lt {w : World} {B K : Nat} {a : Int} {has : Bool} {v : Int} (h : Box w B K a has v) : B + 4 < w.heap.size := cell_lt h.b4
theorem Box.else {w w' : World} {B K g b : Nat} {a : Int} {has : Bool} {v : Int} (h : Box w B K a has v) (hE : Else g b w w') (h6 : B + 6 ≤ w.heap.size) (hg : g < B) (hb : b < B) : Box w' B K a has v :=
  h.same fun k _ _ => hE.block k (by omega) (by omega) (by omega)
/-- A word was loaded. -/
theorem Box.load {w : World} {B K : Nat} {a : Int} {has : Bool} {v : Int} (h : Box w B K a has v) (x : Int) : Box ((w.setCell ⟨B + 3, 0, none⟩ (.int .u32 x)).setCell ⟨B + 4, 0, none⟩ (.bool true)) B K a true x := by
  obtain ⟨b0, b1, b2, ⟨y, b3, hy⟩, b4, z3, z4⟩ := h
  refine ⟨?_, ?_, ?_, ⟨x, ?_, fun _ => rfl⟩, ?_, ?_, ?_⟩
  · rw [World.cell?_setCell_other _ _ _ _ (by simp), World.cell?_setCell_other _ _ _ _ (by simp)]; exact b0
  · rw [World.cell?_setCell_other _ _ _ _ (by simp), World.cell?_setCell_other _ _ _ _ (by simp)]; exact b1
  · rw [World.cell?_setCell_other _ _ _ _ (by simp), World.cell?_setCell_other _ _ _ _ (by simp)]; exact b2
  · rw [World.cell?_setCell_other _ _ _ _ (by simp)]; exact World.cell?_setCell_same _ _ _ b3
  · exact World.cell?_setCell_same _ _ _ (by rw [World.cell?_setCell_other _ _ _ _ (by simp)]; exact b4)
  · rw [World.frozen?_setCell, World.frozen?_setCell]; exact z3
  · rw [World.frozen?_setCell, World.frozen?_setCell]; exact z4
/-- What was loaded is used up. -/
theorem Box.used {w : World} {B K : Nat} {a : Int} {has : Bool} {v : Int} (h : Box w B K a has v) : Box (w.setCell ⟨B + 4, 0, none⟩ (.bool false)) B K a false v := by
  obtain ⟨b0, b1, b2, ⟨y, b3, hy⟩, b4, z3, z4⟩ := h
  refine ⟨?_, ?_, ?_, ⟨y, ?_, fun hh => by cases hh⟩, ?_, ?_, ?_⟩
  · rw [World.cell?_setCell_other _ _ _ _ (by simp)]; exact b0
  · rw [World.cell?_setCell_other _ _ _ _ (by simp)]; exact b1
  · rw [World.cell?_setCell_other _ _ _ _ (by simp)]; exact b2
  · rw [World.cell?_setCell_other _ _ _ _ (by simp)]; exact b3
  · exact World.cell?_setCell_same _ _ _ b4
  · rw [World.frozen?_setCell]; exact z3
  · rw [World.frozen?_setCell]; exact z4
/-- The blocks that a task's step may change. -/
def SB (g b B : Nat) (k : Nat) : Prop := k = g ∨ k = b ∨ B ≤ k ∧ k < B + 6

set_option maxHeartbeats 2000000 in
set_option maxRecDepth 100000 in
theorem lf_load (K : Nat) (v : Int) (i B g b n : Nat) (f : Nat → Int) (c : Int) (w : World) (hb : Box w B K i false v) (h6 : B + 6 ≤ w.heap.size) (hgB : g < B) (hbB : b < B) (hG : GOk w) (hM : MemAt w g b n f c) (hn : n ≤ 4096) (ha : i < n) (hc : 0 ≤ c ∧ c ≤ 1000000) :
    Calls Tryd.prog 38 #[.pointer (some ⟨g, 0, none⟩), .pointer (some ⟨B + 4, 0, none⟩), .pointer (some ⟨B + 2, 0, none⟩), .pointer (some ⟨B + 3, 0, none⟩), .pointer (some ⟨B + 1, 0, none⟩)] w
      fun e w' => e = .returned (.tuple #[.bool false, .int .i64 0]) ∧ MemAt w' g b n f (c + 1) ∧ Box w' B K i true (f i) ∧ Chg (fun k => k = g ∨ k = b ∨ k = B + 3 ∨ k = B + 4) w w' := by
  have HA := Lib.hid (load_yes i g b n f c w hG hM hn ha hc)
  have k1 := hb.b1
  have k4 := hb.b4
  have HBX := Lib.hid hb
  clear hb hG hM hn ha hc
  go_enter Tryd.func38, Tryd.ntmps38
  go_wp2_with fail
  with_reducible refine HA.out.mono ?_
  rintro e w1 ⟨rfl, hM1, hE1⟩
  have HBY := Lib.hid (HBX.out.else hE1 h6 hgB hbB)
  obtain ⟨y, q3, _⟩ := HBY.out.b3
  have q4 := HBY.out.b4
  have z3 := HBY.out.z3
  have z4 := HBY.out.z4
  have HM1 := Lib.hid hM1
  have HE1 := Lib.hid hE1
  clear hM1 hE1 k1 k4
  go_wp2_with fail
  go_ret2
  refine ⟨rfl, ?_, HBY.out.load _, ?_⟩
  · refine ((HM1.out.congr fun j _ => setF_same f i j).same ?_ ?_) <;> rw [Below.heap_setCell _ _ _ _ (by simp; omega), Below.heap_setCell _ _ _ _ (by simp; omega)]
  · exact ((((Chg.of_else HE1.out).mono fun k hk => hk.elim .inl fun h => .inr (.inl h)).set (a := ⟨B + 3, 0, none⟩) (by simp) _).set (a := ⟨B + 4, 0, none⟩) (by simp) _)
set_option maxHeartbeats 2000000 in
set_option maxRecDepth 100000 in
theorem lf_load_no (K : Nat) (v a : Int) (B g b n : Nat) (f : Nat → Int) (c : Int) (w : World) (hb : Box w B K a false v) (h6 : B + 6 ≤ w.heap.size) (hgB : g < B) (hbB : b < B) (hG : GOk w) (hM : MemAt w g b n f c) (hn : n ≤ 4096) (ha : ¬ (0 ≤ a ∧ a < n)) :
    Calls Tryd.prog 38 #[.pointer (some ⟨g, 0, none⟩), .pointer (some ⟨B + 4, 0, none⟩), .pointer (some ⟨B + 2, 0, none⟩), .pointer (some ⟨B + 3, 0, none⟩), .pointer (some ⟨B + 1, 0, none⟩)] w
      fun e w' => e = .returned (.tuple #[.bool false, .int .i64 81]) ∧ MemAt w' g b n f c ∧ Chg (fun k => k = g ∨ k = b ∨ k = B + 3 ∨ k = B + 4) w w' := by
  have HA := Lib.hid (load_no a g b n f c w hG hM hn ha)
  have k1 := hb.b1
  have k4 := hb.b4
  have HBX := Lib.hid hb
  have HM := Lib.hid hM
  clear hb hG hM hn ha
  go_enter Tryd.func38, Tryd.ntmps38
  go_wp2_with fail
  with_reducible refine HA.out.mono ?_
  rintro e w1 ⟨rfl, hB1⟩
  have HBY := Lib.hid (HBX.out.same fun k _ _ => hB1.block k (by omega))
  obtain ⟨y, q3, _⟩ := HBY.out.b3
  have q4 := HBY.out.b4
  have z3 := HBY.out.z3
  have z4 := HBY.out.z4
  have HB1 := Lib.hid hB1
  clear hB1 k1 k4
  go_wp2_with fail
  go_ret2
  refine ⟨rfl, ?_, ?_⟩
  · refine ((HM.out.keep HB1.out).same ?_ ?_) <;> rw [Below.heap_setCell _ _ _ _ (by simp; omega), Below.heap_setCell _ _ _ _ (by simp; omega)]
  · exact (((Chg.of_below HB1.out).set (a := ⟨B + 3, 0, none⟩) (by simp) _).set (a := ⟨B + 4, 0, none⟩) (by simp) _)
set_option maxHeartbeats 2000000 in
set_option maxRecDepth 100000 in
theorem lf_then (K : Nat) (v : Int) (i B g b n : Nat) (f : Nat → Int) (c : Int) (w : World) (hb : Box w B K i true v) (h6 : B + 6 ≤ w.heap.size) (hgB : g < B) (hbB : b < B) (hG : GOk w) (_ : 6 ≤ B) (hM : MemAt w g b n f c) (hn : n ≤ 4096) (ha : i < n) (hc : 0 ≤ c ∧ c ≤ 1000000) :
    Calls Tryd.prog 38 #[.pointer (some ⟨g, 0, none⟩), .pointer (some ⟨B + 4, 0, none⟩), .pointer (some ⟨B + 2, 0, none⟩), .pointer (some ⟨B + 3, 0, none⟩), .pointer (some ⟨B + 1, 0, none⟩)] w
      fun e w' => e = .returned (.tuple #[.bool (okK K (f i) v), .int .i64 0]) ∧ MemAt w' g b n (setF f i (if okK K (f i) v then inc v else f i)) (c + 1) ∧ Box w' B K i false v ∧ Chg (fun k => k = g ∨ k = b ∨ k = B + 3 ∨ k = B + 4) w w' := by
  have hC : Chg (fun k => k = g ∨ k = b ∨ k = B + 3 ∨ k = B + 4) w (w.setCell ⟨B + 4, 0, none⟩ (.bool false)) := (Chg.refl w).set (a := ⟨B + 4, 0, none⟩) (by simp) _
  have hb2 := hb.used
  have hM2 : MemAt (w.setCell ⟨B + 4, 0, none⟩ (.bool false)) g b n f c := hM.same (Below.heap_setCell _ _ _ _ (by simp; omega)) (Below.heap_setCell _ _ _ _ (by simp; omega))
  have hG2 : GOk (w.setCell ⟨B + 4, 0, none⟩ (.bool false)) := ((Chg.refl (S := fun k => k = B + 4) w).set (a := ⟨B + 4, 0, none⟩) rfl (.bool false)).six (fun k hk => by omega) hG
  have HA := Lib.hid (then_yes K v i B g b n f c _ hb2.b0 hG2 hM2 hn ha hc)
  obtain ⟨y, k3, hy⟩ := hb.b3
  obtain rfl := hy rfl
  have k4 := hb.b4
  have k2 := hb.b2
  have z4 := hb.z4
  have eg := enters_then K
  unfold Enters at eg
  obtain ⟨q, hq⟩ : ∃ q, q = okK K (f i) y := ⟨_, rfl⟩
  rw [← hq] at HA ⊢
  generalize setF f i (if q = true then inc y else f i) = f' at *
  have HBX := Lib.hid hb2
  have HC := Lib.hid hC
  clear hb hG hM hn ha hc hy hq hb2 hM2 hG2 hC
  go_enter Tryd.func38, Tryd.ntmps38
  go_wp2_with fail
  with_reducible refine HA.out.mono ?_
  rintro e w1 ⟨rfl, hM1, hE1⟩
  have HM1 := Lib.hid hM1
  have HE1 := Lib.hid hE1
  clear hM1 hE1
  go_wp2_with fail
  go_ret2
  exact ⟨rfl, HM1.out, HBX.out.else HE1.out (by simpa using h6) hgB hbB, HC.out.trans ((Chg.of_else HE1.out).mono fun k hk => hk.elim .inl fun h => .inr (.inl h))⟩
set_option maxHeartbeats 2000000 in
set_option maxRecDepth 100000 in
theorem lf_then_no (K : Nat) (v a : Int) (B g b n : Nat) (f : Nat → Int) (c : Int) (w : World) (hb : Box w B K a true v) (_ : B + 6 ≤ w.heap.size) (hgB : g < B) (hbB : b < B) (hG : GOk w) (_ : 6 ≤ B) (hM : MemAt w g b n f c) (hn : n ≤ 4096) (ha : ¬ (0 ≤ a ∧ a < n)) :
    Calls Tryd.prog 38 #[.pointer (some ⟨g, 0, none⟩), .pointer (some ⟨B + 4, 0, none⟩), .pointer (some ⟨B + 2, 0, none⟩), .pointer (some ⟨B + 3, 0, none⟩), .pointer (some ⟨B + 1, 0, none⟩)] w
      fun e w' => e = .returned (.tuple #[.bool (K == 1), .int .i64 81]) ∧ MemAt w' g b n f c ∧ Chg (fun k => k = g ∨ k = b ∨ k = B + 3 ∨ k = B + 4) w w' := by
  have hC : Chg (fun k => k = g ∨ k = b ∨ k = B + 3 ∨ k = B + 4) w (w.setCell ⟨B + 4, 0, none⟩ (.bool false)) := (Chg.refl w).set (a := ⟨B + 4, 0, none⟩) (by simp) _
  have hb2 := hb.used
  have hM2 : MemAt (w.setCell ⟨B + 4, 0, none⟩ (.bool false)) g b n f c := hM.same (Below.heap_setCell _ _ _ _ (by simp; omega)) (Below.heap_setCell _ _ _ _ (by simp; omega))
  have hG2 : GOk (w.setCell ⟨B + 4, 0, none⟩ (.bool false)) := ((Chg.refl (S := fun k => k = B + 4) w).set (a := ⟨B + 4, 0, none⟩) rfl (.bool false)).six (fun k hk => by omega) hG
  have HA := Lib.hid (then_no K v a B g b n f c _ hb2.b0 hG2 hM2 hn ha)
  obtain ⟨y, k3, hy⟩ := hb.b3
  obtain rfl := hy rfl
  have k4 := hb.b4
  have k2 := hb.b2
  have z4 := hb.z4
  have eg := enters_then K
  unfold Enters at eg
  obtain ⟨q, hq⟩ : ∃ q, q = (K == 1) := ⟨_, rfl⟩
  rw [← hq] at HA ⊢
  have HM2 := Lib.hid hM2
  have HC := Lib.hid hC
  clear hb hG hM hn ha hy hq hb2 hM2 hG2 hC
  go_enter Tryd.func38, Tryd.ntmps38
  go_wp2_with fail
  with_reducible refine HA.out.mono ?_
  rintro e w1 ⟨rfl, hB1⟩
  have HB1 := Lib.hid hB1
  clear hB1
  go_wp2_with fail
  go_ret2
  exact ⟨rfl, HM2.out.keep HB1.out, HC.out.trans (Chg.of_below HB1.out)⟩
end Go.Proofs.YtdhanenbcjmfkaaDoor
