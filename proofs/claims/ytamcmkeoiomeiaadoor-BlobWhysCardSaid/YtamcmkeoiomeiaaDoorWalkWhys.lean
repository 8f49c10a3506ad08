/-
  The walk of BlobWhys: an error's number and place are told, however often it is wrapped.
-/
import Derived.Test.YtamcmkeoiomeiaaDoorAwake
namespace Go.Proofs.YtamcmkeoiomeiaaDoor
open Go.RowKit

theorem xor_one_ne (n : Int) : bits .xor .i64 n 1 ≠ n := by
  intro h
  have h2 : IntKind.i64.wrap ((BitVec.ofInt 64 n ^^^ BitVec.ofInt 64 1).toNat : Int) = n := h
  rw [IntKind.wrap_i64, BitVec.toNat_xor] at h2
  have e1 : (BitVec.ofInt 64 1).toNat = 1 := by decide
  have eX : (BitVec.ofInt 64 n).toNat = (n % 18446744073709551616).toNat := by rw [BitVec.toNat_ofInt]; rfl
  rw [e1] at h2
  have hX : (BitVec.ofInt 64 n).toNat < 18446744073709551616 := (BitVec.ofInt 64 n).isLt
  generalize (BitVec.ofInt 64 n).toNat = X at *
  have hY : X ^^^ 1 < 2 ^ 64 := Nat.xor_lt_two_pow (by omega) (by omega)
  have hXY : X ^^^ 1 = X := by omega
  have h3 : X ^^^ (X ^^^ 1) = 1 := by rw [← Nat.xor_assoc, Nat.xor_self, Nat.zero_xor]
  rw [hXY, Nat.xor_self] at h3
  cases h3

namespace blobWhys
theorem is_yes (k f : Nat) (n : Int) (w : World) (hc : w.cell? ⟨f, 0 + 1, none⟩ = some (.int .i64 n)) :
    Calls Tryd.prog 24 #[errV (.iface 56 (.pointer (some ⟨f, 0, none⟩))) k, .int .i64 n] w fun e w' => e = .returned (.bool true) ∧ Below w.heap.size w w' := by
  have h := bis_fail k f 0 n n w hc
  rwa [decide_eq_true rfl] at h
theorem is_no (k f : Nat) (n : Int) (w : World) (hc : w.cell? ⟨f, 0 + 1, none⟩ = some (.int .i64 n)) :
    Calls Tryd.prog 24 #[errV (.iface 56 (.pointer (some ⟨f, 0, none⟩))) k, .int .i64 (bits .xor .i64 n 1)] w fun e w' => e = .returned (.bool false) ∧ Below w.heap.size w w' := by
  have h := bis_fail k f 0 n (bits .xor .i64 n 1) w hc
  rwa [decide_eq_false (fun e => xor_one_ne n e.symm)] at h
theorem isn_yes (k : Nat) (n : Int) (w : World) :
    Calls Tryd.prog 24 #[errV (.iface 33 (.int .i64 n)) k, .int .i64 n] w fun e w' => e = .returned (.bool true) ∧ Below w.heap.size w w' := by
  have h := bis_num k n n w
  rwa [decide_eq_true rfl] at h
theorem isn_no (k : Nat) (n : Int) (w : World) :
    Calls Tryd.prog 24 #[errV (.iface 33 (.int .i64 n)) k, .int .i64 (bits .xor .i64 n 1)] w fun e w' => e = .returned (.bool false) ∧ Below w.heap.size w w' := by
  have h := bis_num k n (bits .xor .i64 n 1) w
  rwa [decide_eq_false (fun e => xor_one_ne n e.symm)] at h

set_option maxHeartbeats 2000000 in
set_option maxRecDepth 100000 in
theorem walk_fail (n a : Int) (k : Nat) (w : World) (hG : GOk w) (hk : k ≤ 255) :
    Calls Tryd.prog 7 #[.int .i64 n, .int .i64 a, .agg #[.int .u8 k, .bool false]] w fun e w' => e = .returned (.bool true) ∧ Below w.heap.size w w' := by
  have HG := Lib.hid hG
  have h0 := hG.lt
  clear hG
  go_enter Tryd.func7, Tryd.ntmps7
  go_wp2
  go_quiet (fail)
  go_wp2
  have hB : Below w.heap.size w (((w.alloc (.cells #[.int .u8 k, .bool false] 55)).drewN nq).alloc (.cells #[.int .i64 a, .int .i64 n] 58)) :=
    (below_drewN ((Below.refl _ _).alloc (Nat.le_refl _) _) nq).alloc (by simp) _
  have c0 : (((w.alloc (.cells #[.int .u8 k, .bool false] 55)).drewN nq).alloc (.cells #[.int .i64 a, .int .i64 n] 58)).cell? ⟨w.heap.size + 1, 0, none⟩ = some (.int .i64 a) := World.cell?_alloc_at _ _ _ _ (by simp)
  have c1 : (((w.alloc (.cells #[.int .u8 k, .bool false] 55)).drewN nq).alloc (.cells #[.int .i64 a, .int .i64 n] 58)).cell? ⟨w.heap.size + 1, 0 + 1, none⟩ = some (.int .i64 n) := World.cell?_alloc_at _ _ _ _ (by simp)
  have hfs : w.heap.size + 1 < (((w.alloc (.cells #[.int .u8 k, .bool false] 55)).drewN nq).alloc (.cells #[.int .i64 a, .int .i64 n] 58)).heap.size := by simp
  have HB := Lib.hid hB
  have C0 := Lib.hid c0
  have C1 := Lib.hid c1
  have HF := Lib.hid hfs
  clear hB c0 c1 hfs
  generalize ((w.alloc (.cells #[.int .u8 k, .bool false] 55)).drewN nq).alloc (.cells #[.int .i64 a, .int .i64 n] 58) = w1 at *
  go_loop [10, 11] (fun e i => ∃ j : Nat, j ≤ k ∧ i = .int .i64 j ∧ e = errV (.iface 56 (.pointer (some ⟨w.heap.size + 1, 0, none⟩))) j) (fun _ i => k - (intOf i).toNat)
  case atStart => exact ⟨0, by omega, rfl, rfl⟩
  case round =>
    obtain ⟨j, hj, rfl, rfl⟩ := hrel
    by_cases hlt : j < k
    · obtain ⟨t, v, hev⟩ := errV_iface56 ⟨w.heap.size + 1, 0, none⟩ j
      rw [hev]
      have HE := Lib.hid hev
      clear hev
      go_wp2
      go_round
      case rel => exact ⟨j + 1, hlt, by go_num, by rw [errV_succ, HE.out]⟩
      case measure => simp [intOf]; omega
    · obtain rfl : j = k := by omega
      clear hlt hj
      go_wp2_with fail
      refine (why_fail j (w.heap.size + 1) 0 n a w1 (HG.out.below HB.out h0) C0.out C1.out).mono ?_
      rintro e w2 ⟨rfl, hB⟩
      have HB2 := Lib.hid (HB.out.trans (hB.mono HB.out.size))
      have HF2 := Lib.hid (Nat.lt_of_lt_of_le HF.out hB.size)
      have C2 : Hid (w2.cell? ⟨w.heap.size + 1, 0 + 1, none⟩ = some (.int .i64 n)) := (hB.cell (p := ⟨w.heap.size + 1, 0 + 1, none⟩) HF.out).trans C1.out
      clear hB
      go_wp2_with fail
      refine (why_nil w2).mono ?_
      rintro e w3 ⟨rfl, hB⟩
      have HB3 := Lib.hid (HB2.out.trans (hB.mono HB2.out.size))
      have HF3 := Lib.hid (Nat.lt_of_lt_of_le HF2.out hB.size)
      have C3 : Hid (w3.cell? ⟨w.heap.size + 1, 0 + 1, none⟩ = some (.int .i64 n)) := (hB.cell (p := ⟨w.heap.size + 1, 0 + 1, none⟩) HF2.out).trans C2.out
      clear hB HB2 C2 HF2
      go_wp2_with fail
      refine (why_wnil w3 (HG.out.below HB3.out h0)).mono ?_
      rintro e w4 ⟨rfl, hB⟩
      have HB4 := Lib.hid (HB3.out.trans (hB.mono HB3.out.size))
      have HF4 := Lib.hid (Nat.lt_of_lt_of_le HF3.out hB.size)
      have C4 : Hid (w4.cell? ⟨w.heap.size + 1, 0 + 1, none⟩ = some (.int .i64 n)) := (hB.cell (p := ⟨w.heap.size + 1, 0 + 1, none⟩) HF3.out).trans C3.out
      clear hB HB3 C3 HF3
      go_wp2_with fail
      refine (awake_any w4 (HG.out.below HB4.out h0)).mono ?_
      rintro e w5 ⟨rfl, hB⟩
      have HB5 := Lib.hid (HB4.out.trans (hB.mono HB4.out.size))
      have HF5 := Lib.hid (Nat.lt_of_lt_of_le HF4.out hB.size)
      have C5 : Hid (w5.cell? ⟨w.heap.size + 1, 0 + 1, none⟩ = some (.int .i64 n)) := (hB.cell (p := ⟨w.heap.size + 1, 0 + 1, none⟩) HF4.out).trans C4.out
      clear hB HB4 C4 HF4
      go_wp2_with fail
      refine (is_yes j (w.heap.size + 1) n w5 C5.out).mono ?_
      rintro e w6 ⟨rfl, hB⟩
      have HB6 := Lib.hid (HB5.out.trans (hB.mono HB5.out.size))
      have C6 : Hid (w6.cell? ⟨w.heap.size + 1, 0 + 1, none⟩ = some (.int .i64 n)) := (hB.cell (p := ⟨w.heap.size + 1, 0 + 1, none⟩) HF5.out).trans C5.out
      clear hB HB5 C5 HF5
      go_wp2_with fail
      refine (is_no j (w.heap.size + 1) n w6 C6.out).mono ?_
      rintro e w7 ⟨rfl, hB⟩
      have HB7 := Lib.hid (HB6.out.trans (hB.mono HB6.out.size))
      clear hB HB6 C6
      go_wp2_with fail
      refine (bis_nil n w7).mono ?_
      rintro e w8 ⟨rfl, hB⟩
      have HB8 := Lib.hid (HB7.out.trans (hB.mono HB7.out.size))
      clear hB HB7
      go_wp2
      go_ret
      exact ⟨rfl, HB8.out⟩
set_option maxHeartbeats 2000000 in
set_option maxRecDepth 100000 in
theorem walk_num (n a : Int) (k : Nat) (w : World) (hG : GOk w) (hk : k ≤ 255) :
    Calls Tryd.prog 7 #[.int .i64 n, .int .i64 a, .agg #[.int .u8 k, .bool true]] w fun e w' => e = .returned (.bool true) ∧ Below w.heap.size w w' := by
  have HG := Lib.hid hG
  have h0 := hG.lt
  clear hG
  go_enter Tryd.func7, Tryd.ntmps7
  go_wp2
  go_quiet (fail)
  go_wp2
  have hB : Below w.heap.size w (((w.alloc (.cells #[.int .u8 k, .bool true] 55)).drewN nq).alloc (.cells #[.int .i64 a, .int .i64 n] 58)) :=
    (below_drewN ((Below.refl _ _).alloc (Nat.le_refl _) _) nq).alloc (by simp) _
  have HB := Lib.hid hB
  clear hB
  generalize ((w.alloc (.cells #[.int .u8 k, .bool true] 55)).drewN nq).alloc (.cells #[.int .i64 a, .int .i64 n] 58) = w1 at *
  go_loop [10, 11] (fun e i => ∃ j : Nat, j ≤ k ∧ i = .int .i64 j ∧ e = errV (.iface 33 (.int .i64 n)) j) (fun _ i => k - (intOf i).toNat)
  case atStart => exact ⟨0, by omega, rfl, rfl⟩
  case round =>
    obtain ⟨j, hj, rfl, rfl⟩ := hrel
    by_cases hlt : j < k
    · obtain ⟨t, v, hev⟩ := errV_iface33 n j
      rw [hev]
      have HE := Lib.hid hev
      clear hev
      go_wp2
      go_round
      case rel => exact ⟨j + 1, hlt, by go_num, by rw [errV_succ, HE.out]⟩
      case measure => simp [intOf]; omega
    · obtain rfl : j = k := by omega
      clear hlt hj
      go_wp2_with fail
      refine (why_num j n w1 (HG.out.below HB.out h0)).mono ?_
      rintro e w2 ⟨rfl, hB⟩
      have HB2 := Lib.hid (HB.out.trans (hB.mono HB.out.size))
      clear hB
      go_wp2_with fail
      refine (why_nil w2).mono ?_
      rintro e w3 ⟨rfl, hB⟩
      have HB3 := Lib.hid (HB2.out.trans (hB.mono HB2.out.size))
      clear hB HB2
      go_wp2_with fail
      refine (why_wnil w3 (HG.out.below HB3.out h0)).mono ?_
      rintro e w4 ⟨rfl, hB⟩
      have HB4 := Lib.hid (HB3.out.trans (hB.mono HB3.out.size))
      clear hB HB3
      go_wp2_with fail
      refine (awake_any w4 (HG.out.below HB4.out h0)).mono ?_
      rintro e w5 ⟨rfl, hB⟩
      have HB5 := Lib.hid (HB4.out.trans (hB.mono HB4.out.size))
      clear hB HB4
      go_wp2_with fail
      refine (isn_yes j n w5).mono ?_
      rintro e w6 ⟨rfl, hB⟩
      have HB6 := Lib.hid (HB5.out.trans (hB.mono HB5.out.size))
      clear hB HB5
      go_wp2_with fail
      refine (isn_no j n w6).mono ?_
      rintro e w7 ⟨rfl, hB⟩
      have HB7 := Lib.hid (HB6.out.trans (hB.mono HB6.out.size))
      clear hB HB6
      go_wp2_with fail
      refine (bis_nil n w7).mono ?_
      rintro e w8 ⟨rfl, hB⟩
      have HB8 := Lib.hid (HB7.out.trans (hB.mono HB7.out.size))
      clear hB HB7
      go_wp2
      go_ret
      exact ⟨rfl, HB8.out⟩
theorem walk (n a t : Int) (bare : Bool) (w : World) (hG : GOk w) (h0 : 0 ≤ t) (h1 : t < 256) :
    Calls Tryd.prog 7 #[.int .i64 n, .int .i64 a, .agg #[.int .u8 t, .bool bare]] w fun e w' => e = .returned (.bool true) ∧ Below w.heap.size w w' := by
  obtain ⟨k, rfl⟩ := Int.eq_ofNat_of_zero_le h0
  cases bare
  · exact walk_fail n a k w hG (by omega)
  · exact walk_num n a k w hG (by omega)
end blobWhys
end Go.Proofs.YtamcmkeoiomeiaaDoor
