/-
  The calls of a memory: each is a use; a new memory; its words; how often it was used.
-/
import Derived.Test.YtoaaeamogpdcgaaDoorPerf
import Derived.Lib.SliceRun
namespace Go.Proofs.YtoaaeamogpdcgaaDoor
open Go.RowKit

set_option maxHeartbeats 2000000 in
set_option maxRecDepth 100000 in
theorem load_yes (i g b n : Nat) (f : Nat → Int) (c : Int) (w : World) (hG : GOk w) (hM : MemAt w g b n f c) (hn : n ≤ 4096) (ha : i < n) (hc : 0 ≤ c ∧ c ≤ 1000000) :
    Calls Tryd.prog 27 #[.pointer (some ⟨g, 0, none⟩), .int .i64 i] w fun e w' => e = .returned (.tuple #[.int .u32 (f i), .int .i64 0]) ∧ MemAt w' g b n (setF f i (afterS 0 0 0 (f i))) (c + 1) ∧ Else g b w w' := by
  have HA := Lib.hid (perf_yes 0 0 0 i g b n f c w (by decide) hG hM hn ha hc)
  obtain ⟨k0, k1, k2, k3⟩ := hG 0 (by decide)
  simp only [gK, kK, useV] at *
  clear hG hM hn ha hc
  go_enter Tryd.func27, Tryd.ntmps27
  go_wp2_with fail
  with_reducible refine HA.out.mono ?_
  rintro e w1 ⟨rfl, hM1, hE1⟩
  have HM1 := Lib.hid hM1
  have HE1 := Lib.hid hE1
  clear hM1 hE1
  go_wp2_with fail
  go_ret2
  exact ⟨rfl, HM1.out, HE1.out⟩
set_option maxHeartbeats 2000000 in
set_option maxRecDepth 100000 in
theorem load_no (at' : Int) (g b n : Nat) (f : Nat → Int) (c : Int) (w : World) (hG : GOk w) (hM : MemAt w g b n f c) (hn : n ≤ 4096) (ha : ¬ (0 ≤ at' ∧ at' < n)) :
    Calls Tryd.prog 27 #[.pointer (some ⟨g, 0, none⟩), .int .i64 at'] w fun e w' => e = .returned (.tuple #[.int .u32 0, .int .i64 81]) ∧ Below w.heap.size w w' := by
  have HA := Lib.hid (perf_no 0 0 0 at' g b n f c w hM hn ha)
  obtain ⟨k0, k1, k2, k3⟩ := hG 0 (by decide)
  simp only [gK, kK, useV] at *
  clear hG hM hn ha
  go_enter Tryd.func27, Tryd.ntmps27
  go_wp2_with fail
  with_reducible refine HA.out.mono ?_
  rintro e w1 ⟨rfl, hB1⟩
  have HB1 := Lib.hid hB1
  clear hB1
  go_wp2_with fail
  all_goals
    go_ret2
    exact ⟨by first | rfl | (simp; done) | simp_all, HB1.out⟩
set_option maxHeartbeats 2000000 in
set_option maxRecDepth 100000 in
theorem store_yes (v : Int) (i g b n : Nat) (f : Nat → Int) (c : Int) (w : World) (hG : GOk w) (hM : MemAt w g b n f c) (hn : n ≤ 4096) (ha : i < n) (hc : 0 ≤ c ∧ c ≤ 1000000) :
    Calls Tryd.prog 15 #[.pointer (some ⟨g, 0, none⟩), .int .i64 i, .int .u32 v] w fun e w' => e = .returned (.int .i64 0) ∧ MemAt w' g b n (setF f i (afterS 1 0 v (f i))) (c + 1) ∧ Else g b w w' := by
  have HA := Lib.hid (perf_yes 1 0 v i g b n f c w (by decide) hG hM hn ha hc)
  obtain ⟨k0, k1, k2, k3⟩ := hG 1 (by decide)
  simp only [gK, kK, useV] at *
  clear hG hM hn ha hc
  go_enter Tryd.func15, Tryd.ntmps15
  go_wp2_with fail
  with_reducible refine HA.out.mono ?_
  rintro e w1 ⟨rfl, hM1, hE1⟩
  have HM1 := Lib.hid hM1
  have HE1 := Lib.hid hE1
  clear hM1 hE1
  go_wp2_with fail
  go_ret
  exact ⟨rfl, HM1.out, HE1.out⟩
set_option maxHeartbeats 2000000 in
set_option maxRecDepth 100000 in
theorem store_no (v : Int) (at' : Int) (g b n : Nat) (f : Nat → Int) (c : Int) (w : World) (hG : GOk w) (hM : MemAt w g b n f c) (hn : n ≤ 4096) (ha : ¬ (0 ≤ at' ∧ at' < n)) :
    Calls Tryd.prog 15 #[.pointer (some ⟨g, 0, none⟩), .int .i64 at', .int .u32 v] w fun e w' => e = .returned (.int .i64 81) ∧ Below w.heap.size w w' := by
  have HA := Lib.hid (perf_no 1 0 v at' g b n f c w hM hn ha)
  obtain ⟨k0, k1, k2, k3⟩ := hG 1 (by decide)
  simp only [gK, kK, useV] at *
  clear hG hM hn ha
  go_enter Tryd.func15, Tryd.ntmps15
  go_wp2_with fail
  with_reducible refine HA.out.mono ?_
  rintro e w1 ⟨rfl, hB1⟩
  have HB1 := Lib.hid hB1
  clear hB1
  go_wp2_with fail
  all_goals
    go_ret
    exact ⟨by first | rfl | (simp; done) | simp_all, HB1.out⟩
set_option maxHeartbeats 2000000 in
set_option maxRecDepth 100000 in
theorem add_yes (v : Int) (i g b n : Nat) (f : Nat → Int) (c : Int) (w : World) (hG : GOk w) (hM : MemAt w g b n f c) (hn : n ≤ 4096) (ha : i < n) (hc : 0 ≤ c ∧ c ≤ 1000000) :
    Calls Tryd.prog 37 #[.pointer (some ⟨g, 0, none⟩), .int .i64 i, .int .u32 v] w fun e w' => e = .returned (.tuple #[.int .u32 (f i), .int .i64 0]) ∧ MemAt w' g b n (setF f i (afterS 3 0 v (f i))) (c + 1) ∧ Else g b w w' := by
  have HA := Lib.hid (perf_yes 3 0 v i g b n f c w (by decide) hG hM hn ha hc)
  obtain ⟨k0, k1, k2, k3⟩ := hG 3 (by decide)
  simp only [gK, kK, useV] at *
  clear hG hM hn ha hc
  go_enter Tryd.func37, Tryd.ntmps37
  go_wp2_with fail
  with_reducible refine HA.out.mono ?_
  rintro e w1 ⟨rfl, hM1, hE1⟩
  have HM1 := Lib.hid hM1
  have HE1 := Lib.hid hE1
  clear hM1 hE1
  go_wp2_with fail
  go_ret2
  exact ⟨rfl, HM1.out, HE1.out⟩
set_option maxHeartbeats 2000000 in
set_option maxRecDepth 100000 in
theorem add_no (v : Int) (at' : Int) (g b n : Nat) (f : Nat → Int) (c : Int) (w : World) (hG : GOk w) (hM : MemAt w g b n f c) (hn : n ≤ 4096) (ha : ¬ (0 ≤ at' ∧ at' < n)) :
    Calls Tryd.prog 37 #[.pointer (some ⟨g, 0, none⟩), .int .i64 at', .int .u32 v] w fun e w' => e = .returned (.tuple #[.int .u32 0, .int .i64 81]) ∧ Below w.heap.size w w' := by
  have HA := Lib.hid (perf_no 3 0 v at' g b n f c w hM hn ha)
  obtain ⟨k0, k1, k2, k3⟩ := hG 3 (by decide)
  simp only [gK, kK, useV] at *
  clear hG hM hn ha
  go_enter Tryd.func37, Tryd.ntmps37
  go_wp2_with fail
  with_reducible refine HA.out.mono ?_
  rintro e w1 ⟨rfl, hB1⟩
  have HB1 := Lib.hid hB1
  clear hB1
  go_wp2_with fail
  all_goals
    go_ret2
    exact ⟨by first | rfl | (simp; done) | simp_all, HB1.out⟩

end Go.Proofs.YtoaaeamogpdcgaaDoor
