/-
  The reader's own calls: left, needs, take, At, failure, Err, End.
-/
import Derived.Test.YtkgkjkghdllkhaaDoorRd
import Derived.RegionTactic
import Derived.BigQuiet
import Derived.Deep.QuietTactic
import Derived.Stop.IfaceNil
namespace Go.Proofs.YtkgkjkghdllkhaaDoor
open Go.RowKit

theorem ret_i {k : IntKind} {a b : Int} (h : a = b) : Ending.returned (.int k a) = .returned (.int k b) := by rw [h]
theorem ret_b {a b : Bool} (h : a = b) : Ending.returned (.bool a) = .returned (.bool b) := by rw [h]

section
variable {w : World} {g b cap k : Nat} {s : ByteArray} {bad : Bool}

set_option maxHeartbeats 400000 in
theorem left_any (h : Rd w g b cap s k bad) :
    Calls Tryd.prog 70 #[.pointer (some ⟨g, 0, none⟩)] w fun e w' => e = .returned (.int .i64 ((s.size : Int) - k)) ∧ ∃ n, w' = w.drewN n := by
  have c0 := h.c0
  have c1 := h.c1
  have hs := h.small.1
  have hk := h.le
  have hd : IntKind.i64.wrap ((s.size : Int) - k) = (s.size : Int) - k := IntWalk.i64_in _ (by omega)
  clear h
  go_enter Tryd.func70, Tryd.ntmps70
  go_wp2
  go_quiet (fail)
  go_wp2
  go_ret
  exact ⟨rfl, _, rfl⟩

set_option maxHeartbeats 400000 in
theorem failure_any (h : Rd w g b cap s k bad) (x : Int) :
    Calls Tryd.prog 59 #[.pointer (some ⟨g, 0, none⟩), .int .i64 x] w fun e w' => e = .returned (.iface 71 (.pointer (some ⟨w.heap.size, 0, none⟩))) ∧ w' = w.alloc (.cells #[.int .i64 k, .int .i64 x] 75) := by
  have c1 := h.c1
  clear h
  go_enter Tryd.func59, Tryd.ntmps59
  go_wp2
  go_ret
  exact ⟨rfl, rfl⟩

set_option maxHeartbeats 400000 in
theorem err_ok (h : Rd w g b cap s k false) :
    Calls Tryd.prog 32 #[.pointer (some ⟨g, 0, none⟩)] w fun e w' => e = .returned .nilIface ∧ w = w' := by
  have c2 := h.c2
  clear h
  go_enter Tryd.func32, Tryd.ntmps32
  go_wp2
  go_ret
  exact ⟨rfl, rfl⟩
set_option maxHeartbeats 400000 in
theorem err_bad (h : Rd w g b cap s k true) :
    Calls Tryd.prog 32 #[.pointer (some ⟨g, 0, none⟩)] w fun e w' => e = .returned (.iface 71 (.pointer (some ⟨w.heap.size, 0, none⟩))) ∧ w' = w.alloc (.cells #[.int .i64 k, .int .i64 20] 75) := by
  have c2 := h.c2
  have H := Lib.hid h
  clear h
  go_enter Tryd.func32, Tryd.ntmps32
  go_wp2_with (go_at_call 59; refine (failure_any H.out 20).mono ?_; rintro e w' ⟨rfl, rfl⟩)
  go_ret
  exact ⟨rfl, rfl⟩

set_option maxHeartbeats 400000 in
theorem end_bad (h : Rd w g b cap s k true) :
    Calls Tryd.prog 35 #[.pointer (some ⟨g, 0, none⟩)] w fun e w' => e = .returned (.iface 71 (.pointer (some ⟨w.heap.size, 0, none⟩))) ∧ w' = w.alloc (.cells #[.int .i64 k, .int .i64 20] 75) := by
  have H := Lib.hid h
  clear h
  go_enter Tryd.func35, Tryd.ntmps35
  go_wp2_with (go_at_call 32; refine (err_bad H.out).mono ?_; rintro e w' ⟨rfl, rfl⟩)
  go_ret
  exact ⟨rfl, rfl⟩
set_option maxHeartbeats 400000 in
theorem end_more (h : Rd w g b cap s k false) (hk : k < s.size) :
    Calls Tryd.prog 35 #[.pointer (some ⟨g, 0, none⟩)] w fun e w' => ∃ n, e = .returned (.iface 71 (.pointer (some ⟨w.heap.size, 0, none⟩))) ∧ w' = (w.drewN n).alloc (.cells #[.int .i64 k, .int .i64 21] 75) := by
  have H := Lib.hid h
  clear h
  have hz : (s.size : Int) - k > 0 := by omega
  go_enter Tryd.func35, Tryd.ntmps35
  go_wp2_with (first | (go_at_call 32; refine (err_ok H.out).mono ?_; rintro e w' ⟨rfl, rfl⟩) | (go_at_call 70; refine (left_any H.out).mono ?_; rintro e w' ⟨rfl, n, rfl⟩) | (go_at_call 59; refine (failure_any (H.out.drewN _) 21).mono ?_; rintro e w' ⟨rfl, rfl⟩))
  go_ret
  exact ⟨_, rfl, rfl⟩
set_option maxHeartbeats 400000 in
theorem end_ok (h : Rd w g b cap s k false) (hk : ¬ k < s.size) :
    Calls Tryd.prog 35 #[.pointer (some ⟨g, 0, none⟩)] w fun e w' => ∃ n, e = .returned .nilIface ∧ w' = w.drewN n := by
  have H := Lib.hid h
  have hle := h.le
  clear h
  have hz : (s.size : Int) - k ≤ 0 := by omega
  go_enter Tryd.func35, Tryd.ntmps35
  go_wp2_with (first | (go_at_call 32; refine (err_ok H.out).mono ?_; rintro e w' ⟨rfl, rfl⟩) | (go_at_call 70; refine (left_any H.out).mono ?_; rintro e w' ⟨rfl, n, rfl⟩))
  go_ret
  exact ⟨_, rfl, rfl⟩

set_option maxHeartbeats 400000 in
theorem needs_yes (h : Rd w g b cap s k false) (n : Int) (hn : n ≤ (s.size : Int) - k) :
    Calls Tryd.prog 55 #[.pointer (some ⟨g, 0, none⟩), .int .i64 n] w fun e w' => e = .returned (.bool true) ∧ ∃ m, w' = w.drewN m := by
  have c2 := h.c2
  have H := Lib.hid h
  clear h
  go_enter Tryd.func55, Tryd.ntmps55
  go_wp2_with (go_at_call 70; refine (left_any H.out).mono ?_; rintro e w' ⟨rfl, m, rfl⟩)
  go_ret
  exact ⟨rfl, _, rfl⟩
set_option maxHeartbeats 400000 in
theorem needs_no (h : Rd w g b cap s k bad) (n : Int) (hn : (s.size : Int) - k < n) :
    Calls Tryd.prog 55 #[.pointer (some ⟨g, 0, none⟩), .int .i64 n] w fun e w' => e = .returned (.bool false) ∧ Rd w' g b cap s k true ∧ w.grownBy w' (some g) := by
  have c2 := h.c2
  have f2 := h.frozen 2
  have H := Lib.hid h
  clear h
  go_enter Tryd.func55, Tryd.ntmps55
  go_wp2_with (go_at_call 70; refine (left_any H.out).mono ?_; rintro e w' ⟨rfl, m, rfl⟩)
  go_ret
  exact ⟨rfl, ((H.out.set2).drewN m), only_drewN (only_set (World.grownBy.refl _ _) _ _) m⟩
set_option maxHeartbeats 400000 in
theorem needs_bad (h : Rd w g b cap s k true) (n : Int) (hn : n ≤ (s.size : Int) - k) :
    Calls Tryd.prog 55 #[.pointer (some ⟨g, 0, none⟩), .int .i64 n] w fun e w' => e = .returned (.bool false) ∧ Rd w' g b cap s k true ∧ w.grownBy w' (some g) := by
  have c2 := h.c2
  have H := Lib.hid h
  clear h
  go_enter Tryd.func55, Tryd.ntmps55
  go_wp2_with (go_at_call 70; refine (left_any H.out).mono ?_; rintro e w' ⟨rfl, m, rfl⟩)
  go_ret
  exact ⟨rfl, H.out.drewN m, only_drewN (World.grownBy.refl _ _) m⟩

set_option maxHeartbeats 400000 in
theorem take_pos (h : Rd w g b cap s k bad) (n : Nat) (h0 : 0 < n) (hn : k + n ≤ s.size) :
    Calls Tryd.prog 56 #[.pointer (some ⟨g, 0, none⟩), .int .i64 n] w fun e w' => e = .returned (.slice (some ⟨b, k, none⟩) n (cap - k)) ∧ Rd w' g b cap s (k + n) bad ∧ w.grownBy w' (some g) := by
  have c0 := h.c0
  have c1 := h.c1
  have f1 := h.frozen 1
  have hs := h.small
  have hc := h.room
  have H := Lib.hid h
  clear h
  have hz : ∀ w, (Go.sizeOf 5).run Tryd.prog w = .ok 1 w := fun w => by kernel_rfl
  have hw := fun W => Lib.run_slice_window (P := Tryd.prog) W 31 5 Tryd.underlying31 hz b 0 s.size cap k (k + n) (by omega) (by omega)
  simp only [Int.natCast_add, Nat.zero_add, Nat.add_sub_cancel_left] at hw
  have hd : IntKind.i64.wrap ((k : Int) + n) = (k : Int) + n := IntWalk.i64_in _ (by omega)
  go_enter Tryd.func56, Tryd.ntmps56
  go_wp2
  go_quiet (fail)
  go_wp2
  go_ret
  exact ⟨rfl, (H.out.set1 (j := k + n) hn).drewN _, only_drewN (only_set (World.grownBy.refl _ _) _ _) _⟩

set_option maxHeartbeats 400000 in
theorem take_none (h : Rd w g b cap s k bad) (n : Int) (h0 : n ≤ 0) :
    Calls Tryd.prog 56 #[.pointer (some ⟨g, 0, none⟩), .int .i64 n] w fun e w' => (∃ A c, e = .returned (.slice (some A) 0 c)) ∧ Rd w' g b cap s k bad ∧ w.grownBy w' (some g) := by
  have c0 := h.c0
  have c1 := h.c1
  have f1 := h.frozen 1
  have hs := h.small
  have hc := h.room
  have hle := h.le
  have H := Lib.hid h
  clear h
  have hz : ∀ w, (Go.sizeOf 5).run Tryd.prog w = .ok 1 w := fun w => by kernel_rfl
  have ht' : Tryd.prog.underlying 31 = some (.slice (Tryd.prog.elem 31)) := by simp [Program.elem, Tryd.underlying31]
  have he : Tryd.prog.elem 31 = 5 := by simp [Program.elem, Tryd.underlying31]
  have hw : ∃ A, ∀ W, (Instr.slice 31 (.slice (some ⟨b, 0, none⟩) s.size cap) (some (.int .i64 (k : Int))) (some (.int .i64 (k : Int))) none).run Tryd.prog W = .ok (.slice (some A) 0 (cap - k)) W := by
    refine ⟨if cap = k then ⟨b, 0, none⟩ else (⟨b, 0, none⟩ : Addr).add k, fun W => ?_⟩
    rw [run_slice_lh W 31 _ _ _ ht' .i64 .i64 _ _ (by omega) (by omega) (by omega), he, hz]
    by_cases h0 : cap = k <;> simp [Result.andThen, sliced, h0]
  obtain ⟨A, hw⟩ := hw
  have hm : max n 0 = 0 := by omega
  clear ht' he
  go_enter Tryd.func56, Tryd.ntmps56
  go_wp2
  go_quiet (fail)
  go_wp2
  go_ret
  exact ⟨⟨_, _, rfl⟩, (H.out.set1 (j := k) hle).drewN _, only_drewN (only_set (World.grownBy.refl _ _) _ _) _⟩
end
end Go.Proofs.YtkgkjkghdllkhaaDoor
