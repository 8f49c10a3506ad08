/-
  The calls of package count and of its reference that only compute with numbers answer the same, and leave memory alone.
-/
import Derived.Test.YtphdlplbcajemaaDoorRows
import Derived.Test.YtphdlplbcajemaaDoorPlain
import Derived.WalkKit
import Derived.WalkSpells
import Derived.WalkLawsBesides
import Derived.Lib.Hide
namespace Go.Proofs.YtphdlplbcajemaaDoor
open Go.RowKit

theorem ret_b {a b : Bool} (h : a = b) : Ending.returned (.bool a) = .returned (.bool b) := by rw [h]
theorem ret_u {k : IntKind} {a b : Int} (h : a = b) : Ending.returned (.int k a) = .returned (.int k b) := by rw [h]

set_option maxHeartbeats 400000 in
theorem used_any (a b : Int) (w : World) :
    Calls Tryd.prog 12 #[.int .u32 a, .int .u32 b] w fun e w' => e = .returned (.int .u32 (usedF a b)) ∧ w = w' := by
  go_enter Tryd.func12, Tryd.ntmps12
  go_wp2
  go_ret
  exact ⟨rfl, rfl⟩

set_option maxHeartbeats 400000 in
theorem before_any (a b : Int) (w : World) :
    Calls Tryd.prog 14 #[.int .u32 a, .int .u32 b] w fun e w' => e = .returned (.bool (befB a b)) ∧ w = w' := by
  go_enter Tryd.func14, Tryd.ntmps14
  go_wp2
  all_goals go_ret
  · exact ⟨ret_b (befB_of ‹_›), rfl⟩
  · exact ⟨ret_b (befB_neg ‹_›), rfl⟩

set_option maxHeartbeats 400000 in
theorem rused_any (a b : Int) (w : World) (ha : 0 ≤ a) (ha2 : a < 4294967296) (hb : 0 ≤ b) (hb2 : b < 4294967296) :
    Calls Tryd.prog 13 #[.int .u32 a, .int .u32 b] w fun e w' => e = .returned (.int .u32 (usedF a b)) ∧ w = w' := by
  go_enter Tryd.func13, Tryd.ntmps13
  go_wp2
  all_goals go_ret
  · exact ⟨ret_u (rused_low ‹_› ha hb2), rfl⟩
  · exact ⟨ret_u (rused_high ‹_› hb ha2), rfl⟩

set_option maxHeartbeats 400000 in
theorem rbefore_any (a b : Int) (w : World) (ha : 0 ≤ a) (ha2 : a < 4294967296) (hb : 0 ≤ b) (hb2 : b < 4294967296) :
    Calls Tryd.prog 15 #[.int .u32 a, .int .u32 b] w fun e w' => e = .returned (.bool (befB a b)) ∧ w = w' := by
  have ⟨h0, h1⟩ := usedF_bounds a b
  by_cases hc : 1 ≤ usedF a b
  · go_enter Tryd.func15, Tryd.ntmps15
    go_wp2_with (go_at_call 13; refine (rused_any _ _ _ (by omega) (by omega) (by omega) (by omega)).mono ?_; rintro e w' ⟨rfl, rfl⟩)
    go_ret
    exact ⟨ret_b (rbef_of hc), rfl⟩
  · go_enter Tryd.func15, Tryd.ntmps15
    go_wp2_with (go_at_call 13; refine (rused_any _ _ _ (by omega) (by omega) (by omega) (by omega)).mono ?_; rintro e w' ⟨rfl, rfl⟩)
    go_ret
    exact ⟨ret_b (rbef_neg (by omega)), rfl⟩

set_option maxHeartbeats 400000 in
theorem cap_any (p : Int) (w : World) (ha : 0 ≤ p) (ha2 : p < 4294967296) :
    Calls Tryd.prog 32 #[.int .u32 p] w fun e w' => e = .returned (.bool (capP p)) ∧ w = w' := by
  go_enter Tryd.func32, Tryd.ntmps32
  go_wp2
  all_goals go_ret
  · exact ⟨ret_b (cap_and p ‹_› ‹_›), rfl⟩
  · exact ⟨ret_b (cap_big p ‹_›).symm, rfl⟩
  · exact ⟨ret_b (cap_small p ‹_›).symm, rfl⟩

set_option maxHeartbeats 400000 in
theorem places_any (p : Int) (w : World) (ha : 0 ≤ p) (_ha2 : p < 4294967296) :
    Calls Tryd.prog 33 #[.int .u32 p] w fun e w' => e = .returned (.bool (capP p)) ∧ w = w' := by
  go_enter Tryd.func33, Tryd.ntmps33
  go_wp2
  go_loop [3] (fun t => ∃ q : Int, PowRel p q ∧ t = .int .u32 q) (fun t => (70000 - intOf t).toNat)
  case atStart => exact ⟨1, pow_start _, rfl⟩
  case round =>
    obtain ⟨q, hq, rfl⟩ := hrel
    have ⟨h1, h2⟩ := pow_bounds hq
    by_cases hle : q ≤ 32768
    · by_cases he : q = p
      · have hy := Lib.hid (pow_yes hq hle he)
        have hb : (q == p) = true := by simpa using he
        clear he hq
        go_wp2
        go_ret
        exact ⟨ret_b hy.out.symm, rfl⟩
      · have hs := pow_step hq hle he
        have hb : (q == p) = false := by simpa using he
        clear he hq
        go_wp2
        go_round
        case rel => exact ⟨_, hs, rfl⟩
        case measure => simp [intOf]; omega
    · have hy := Lib.hid (pow_no hq ha (by omega))
      clear hq
      go_wp2
      go_ret
      exact ⟨ret_b hy.out.symm, rfl⟩

theorem ret_ui {a b c d : Int} (h : a = b ∧ c = d) : Ending.returned (.tuple #[.int .u32 a, .int .i64 c]) = .returned (.tuple #[.int .u32 b, .int .i64 d]) := by rw [h.1, h.2]

set_option maxHeartbeats 400000 in
theorem room_any (h t p : Int) (w : World) (hp : 0 ≤ p) (hp2 : p < 4294967296) :
    Calls Tryd.prog 16 #[.int .u32 h, .int .u32 t, .int .u32 p] w fun e w' => e = .returned (.tuple #[.int .u32 (roomV h t p), .int .i64 (roomE h t p)]) ∧ w = w' := by
  by_cases hc : capP p = true
  · have ⟨b1, b2⟩ := usedF_bounds h t
    by_cases hu : p < usedF h t
    · have H := Lib.hid (room_used hc hu)
      go_enter Tryd.func16, Tryd.ntmps16
      go_wp2_with (first | (go_at_call 32; refine (cap_any _ _ (by omega) (by omega)).mono ?_; rintro e w' ⟨rfl, rfl⟩) | (go_at_call 12; refine (used_any _ _ _).mono ?_; rintro e w' ⟨rfl, rfl⟩))
      go_ret2
      exact ⟨ret_ui ⟨H.out.1.symm, H.out.2.symm⟩, rfl⟩
    · have H := Lib.hid (room_ok hc hu)
      have ⟨c1, c2⟩ := cap_bounds p hc
      go_enter Tryd.func16, Tryd.ntmps16
      go_wp2_with (first | (go_at_call 32; refine (cap_any _ _ (by omega) (by omega)).mono ?_; rintro e w' ⟨rfl, rfl⟩) | (go_at_call 12; refine (used_any _ _ _).mono ?_; rintro e w' ⟨rfl, rfl⟩))
      go_ret2
      exact ⟨ret_ui ⟨H.out.1.symm, H.out.2.symm⟩, rfl⟩
  · have hc' : capP p = false := by simpa using hc
    have H := Lib.hid (room_no (h := h) (t := t) hc')
    clear hc
    go_enter Tryd.func16, Tryd.ntmps16
    go_wp2_with (go_at_call 32; refine (cap_any _ _ (by omega) (by omega)).mono ?_; rintro e w' ⟨rfl, rfl⟩)
    go_ret2
    exact ⟨ret_ui ⟨H.out.1.symm, H.out.2.symm⟩, rfl⟩

set_option maxHeartbeats 400000 in
theorem rroom_any (h t p : Int) (w : World) (hh : 0 ≤ h) (hh2 : h < 4294967296) (ht : 0 ≤ t) (ht2 : t < 4294967296) (hp : 0 ≤ p) (hp2 : p < 4294967296) :
    Calls Tryd.prog 17 #[.int .u32 h, .int .u32 t, .int .u32 p] w fun e w' => e = .returned (.tuple #[.int .u32 (roomV h t p), .int .i64 (roomE h t p)]) ∧ w = w' := by
  by_cases hc : capP p = true
  · have ⟨b1, b2⟩ := usedF_bounds h t
    by_cases hu : p < usedF h t
    · have H := Lib.hid (room_used hc hu)
      go_enter Tryd.func17, Tryd.ntmps17
      go_wp2_with (first | (go_at_call 33; refine (places_any _ _ (by omega) (by omega)).mono ?_; rintro e w' ⟨rfl, rfl⟩) | (go_at_call 13; refine (rused_any _ _ _ (by omega) (by omega) (by omega) (by omega)).mono ?_; rintro e w' ⟨rfl, rfl⟩))
      go_ret2
      exact ⟨ret_ui ⟨H.out.1.symm, H.out.2.symm⟩, rfl⟩
    · have H := Lib.hid (room_ok hc hu)
      have ⟨c1, c2⟩ := cap_bounds p hc
      go_enter Tryd.func17, Tryd.ntmps17
      go_wp2_with (first | (go_at_call 33; refine (places_any _ _ (by omega) (by omega)).mono ?_; rintro e w' ⟨rfl, rfl⟩) | (go_at_call 13; refine (rused_any _ _ _ (by omega) (by omega) (by omega) (by omega)).mono ?_; rintro e w' ⟨rfl, rfl⟩))
      go_ret2
      exact ⟨ret_ui ⟨H.out.1.symm, H.out.2.symm⟩, rfl⟩
  · have hc' : capP p = false := by simpa using hc
    have H := Lib.hid (room_no (h := h) (t := t) hc')
    clear hc
    go_enter Tryd.func17, Tryd.ntmps17
    go_wp2_with (go_at_call 33; refine (places_any _ _ (by omega) (by omega)).mono ?_; rintro e w' ⟨rfl, rfl⟩)
    go_ret2
    exact ⟨ret_ui ⟨H.out.1.symm, H.out.2.symm⟩, rfl⟩

set_option maxHeartbeats 400000 in
theorem slot_any (i p : Int) (w : World) (hi : 0 ≤ i) (hp : 0 ≤ p) (hp2 : p < 4294967296) :
    Calls Tryd.prog 18 #[.int .u32 i, .int .u32 p] w fun e w' => e = .returned (.tuple #[.int .u32 (slotV i p), .int .i64 (slotE p)]) ∧ w = w' := by
  by_cases hc : capP p = true
  · have H := Lib.hid (slot_ok (i := i) hc)
    have ⟨c1, c2⟩ := cap_bounds p hc
    go_enter Tryd.func18, Tryd.ntmps18
    go_wp2_with (go_at_call 32; refine (cap_any _ _ (by omega) (by omega)).mono ?_; rintro e w' ⟨rfl, rfl⟩)
    go_ret2
    exact ⟨ret_ui ⟨H.out.1.symm, H.out.2.symm⟩, rfl⟩
  · have hc' : capP p = false := by simpa using hc
    have H := Lib.hid (slot_no (i := i) hc')
    clear hc
    go_enter Tryd.func18, Tryd.ntmps18
    go_wp2_with (go_at_call 32; refine (cap_any _ _ (by omega) (by omega)).mono ?_; rintro e w' ⟨rfl, rfl⟩)
    go_ret2
    exact ⟨ret_ui ⟨H.out.1.symm, H.out.2.symm⟩, rfl⟩

set_option maxHeartbeats 400000 in
theorem rslot_any (i p : Int) (w : World) (hi : 0 ≤ i) (hp : 0 ≤ p) (hp2 : p < 4294967296) :
    Calls Tryd.prog 19 #[.int .u32 i, .int .u32 p] w fun e w' => e = .returned (.tuple #[.int .u32 (slotV i p), .int .i64 (slotE p)]) ∧ w = w' := by
  by_cases hc : capP p = true
  · have H := Lib.hid (slot_ok (i := i) hc)
    have ⟨c1, c2⟩ := cap_bounds p hc
    go_enter Tryd.func19, Tryd.ntmps19
    go_wp2_with (go_at_call 33; refine (places_any _ _ (by omega) (by omega)).mono ?_; rintro e w' ⟨rfl, rfl⟩)
    go_ret2
    exact ⟨ret_ui ⟨H.out.1.symm, H.out.2.symm⟩, rfl⟩
  · have hc' : capP p = false := by simpa using hc
    have H := Lib.hid (slot_no (i := i) hc')
    clear hc
    go_enter Tryd.func19, Tryd.ntmps19
    go_wp2_with (go_at_call 33; refine (places_any _ _ (by omega) (by omega)).mono ?_; rintro e w' ⟨rfl, rfl⟩)
    go_ret2
    exact ⟨ret_ui ⟨H.out.1.symm, H.out.2.symm⟩, rfl⟩
end Go.Proofs.YtphdlplbcajemaaDoor
