/-
  The calls that only compute with numbers: how many lie between two indices, capacities, places; of the program and of the given package.
-/
import Derived.Test.YtnmobalgghggnaaDoorChg
import Derived.Test.YtnmobalgghggnaaDoorPlain
namespace Go.Proofs.YtnmobalgghggnaaDoor
open Go.RowKit

theorem ret_u {k : IntKind} {a b : Int} (h : a = b) : Ending.returned (.int k a) = .returned (.int k b) := by rw [h]
set_option maxHeartbeats 400000 in
theorem used_any (a b : Int) (w : World) :
    Calls Tryd.prog 64 #[.int .u32 a, .int .u32 b] w fun e w' => e = .returned (.int .u32 (usedF a b)) ∧ w = w' := by
  go_enter Tryd.func64, Tryd.ntmps64
  go_wp2
  go_ret
  exact ⟨rfl, rfl⟩

set_option maxHeartbeats 400000 in
theorem rused_any (a b : Int) (w : World) (ha : 0 ≤ a) (ha2 : a < 4294967296) (hb : 0 ≤ b) (hb2 : b < 4294967296) :
    Calls Tryd.prog 41 #[.int .u32 a, .int .u32 b] w fun e w' => e = .returned (.int .u32 (usedF a b)) ∧ w = w' := by
  go_enter Tryd.func41, Tryd.ntmps41
  go_wp2
  all_goals go_ret
  · exact ⟨ret_u (rused_low ‹_› ha hb2), rfl⟩
  · exact ⟨ret_u (rused_high ‹_› hb ha2), rfl⟩

set_option maxHeartbeats 400000 in
theorem cap_any (p : Int) (w : World) (ha : 0 ≤ p) (ha2 : p < 4294967296) :
    Calls Tryd.prog 61 #[.int .u32 p] w fun e w' => e = .returned (.bool (capP p)) ∧ w = w' := by
  go_enter Tryd.func61, Tryd.ntmps61
  go_wp2
  all_goals go_ret
  · exact ⟨ret_b (cap_and p ‹_› ‹_›), rfl⟩
  · exact ⟨ret_b (cap_big p ‹_›).symm, rfl⟩
  · exact ⟨ret_b (cap_small p ‹_›).symm, rfl⟩

set_option maxHeartbeats 400000 in
theorem places_any (p : Int) (w : World) (ha : 0 ≤ p) (_ha2 : p < 4294967296) :
    Calls Tryd.prog 29 #[.int .u32 p] w fun e w' => e = .returned (.bool (capP p)) ∧ w = w' := by
  go_enter Tryd.func29, Tryd.ntmps29
  go_wp2
  go_loop [3] (fun t => ∃ q : Int, PowRel p q ∧ t = .int .u32 q) (fun t => (70000 - intOf t).toNat)
  case atStart => exact ⟨1, pow_start _, rfl⟩
  case round =>
    obtain ⟨q, hq, rfl⟩ := hrel
    have ⟨h1, h2⟩ := pow_bounds hq
    by_cases hle : q ≤ 32768
    · by_cases he : q = p
      · have hy := Lib.hid (pow_yes hq hle he)
        have hb : (q == p) = true := by simpa using he
        clear he hq
        go_wp2
        go_ret
        exact ⟨ret_b hy.out.symm, rfl⟩
      · have hs := pow_step hq hle he
        have hb : (q == p) = false := by simpa using he
        clear he hq
        go_wp2
        go_round
        case rel => exact ⟨_, hs, rfl⟩
        case measure => simp [intOf]; omega
    · have hy := Lib.hid (pow_no hq ha (by omega))
      clear hq
      go_wp2
      go_ret
      exact ⟨ret_b hy.out.symm, rfl⟩

theorem ret_ui {a b c d : Int} (h : a = b ∧ c = d) : Ending.returned (.tuple #[.int .u32 a, .int .i64 c]) = .returned (.tuple #[.int .u32 b, .int .i64 d]) := by rw [h.1, h.2]

set_option maxHeartbeats 400000 in
theorem slot_any (i p : Int) (w : World) (hi : 0 ≤ i) (hp : 0 ≤ p) (hp2 : p < 4294967296) :
    Calls Tryd.prog 46 #[.int .u32 i, .int .u32 p] w fun e w' => e = .returned (.tuple #[.int .u32 (slotV i p), .int .i64 (slotE p)]) ∧ w = w' := by
  by_cases hc : capP p = true
  · have H := Lib.hid (slot_ok (i := i) hc)
    have ⟨c1, c2⟩ := cap_bounds p hc
    go_enter Tryd.func46, Tryd.ntmps46
    go_wp2_with (go_at_call 61; refine (cap_any _ _ (by omega) (by omega)).mono ?_; rintro e w' ⟨rfl, rfl⟩)
    go_ret2
    exact ⟨ret_ui ⟨H.out.1.symm, H.out.2.symm⟩, rfl⟩
  · have hc' : capP p = false := by simpa using hc
    have H := Lib.hid (slot_no (i := i) hc')
    clear hc
    go_enter Tryd.func46, Tryd.ntmps46
    go_wp2_with (go_at_call 61; refine (cap_any _ _ (by omega) (by omega)).mono ?_; rintro e w' ⟨rfl, rfl⟩)
    go_ret2
    exact ⟨ret_ui ⟨H.out.1.symm, H.out.2.symm⟩, rfl⟩

set_option maxHeartbeats 400000 in
theorem rslot_any (i p : Int) (w : World) (hi : 0 ≤ i) (hp : 0 ≤ p) (hp2 : p < 4294967296) :
    Calls Tryd.prog 60 #[.int .u32 i, .int .u32 p] w fun e w' => e = .returned (.tuple #[.int .u32 (slotV i p), .int .i64 (slotE p)]) ∧ w = w' := by
  by_cases hc : capP p = true
  · have H := Lib.hid (slot_ok (i := i) hc)
    have ⟨c1, c2⟩ := cap_bounds p hc
    go_enter Tryd.func60, Tryd.ntmps60
    go_wp2_with (go_at_call 29; refine (places_any _ _ (by omega) (by omega)).mono ?_; rintro e w' ⟨rfl, rfl⟩)
    go_ret2
    exact ⟨ret_ui ⟨H.out.1.symm, H.out.2.symm⟩, rfl⟩
  · have hc' : capP p = false := by simpa using hc
    have H := Lib.hid (slot_no (i := i) hc')
    clear hc
    go_enter Tryd.func60, Tryd.ntmps60
    go_wp2_with (go_at_call 29; refine (places_any _ _ (by omega) (by omega)).mono ?_; rintro e w' ⟨rfl, rfl⟩)
    go_ret2
    exact ⟨ret_ui ⟨H.out.1.symm, H.out.2.symm⟩, rfl⟩
end Go.Proofs.YtnmobalgghggnaaDoor
