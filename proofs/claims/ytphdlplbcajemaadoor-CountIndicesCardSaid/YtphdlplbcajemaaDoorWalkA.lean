/-
  The walks of CountIndices and CountRooms.
-/
import Derived.Test.YtphdlplbcajemaaDoorAwake
namespace Go.Proofs.YtphdlplbcajemaaDoor
open Go.RowKit

namespace countIndices
set_option maxHeartbeats 400000 in
theorem walk (a b : Int) (w : World) (ht : TabOk w) (ha : 0 ≤ a) (ha2 : a < 4294967296) (hb : 0 ≤ b) (hb2 : b < 4294967296) :
    Calls Tryd.prog 3 #[.int .u32 a, .int .u32 b] w fun e w' => e = .returned (.bool true) ∧ Below w.heap.size w w' := by
  have HT := Lib.hid ht
  clear ht
  go_enter Tryd.func3, Tryd.ntmps3
  go_wp2_with fail
  refine (awake_any _ HT.out).mono ?_
  rintro e w1 ⟨rfl, hB⟩
  have HB := Lib.hid hB
  clear hB
  go_wp2_with (first | (go_at_call 12; refine (used_any _ _ _).mono ?_; rintro e w' ⟨rfl, rfl⟩) | (go_at_call 13; refine (rused_any _ _ _ ha ha2 hb hb2).mono ?_; rintro e w' ⟨rfl, rfl⟩) | (go_at_call 14; refine (before_any _ _ _).mono ?_; rintro e w' ⟨rfl, rfl⟩) | (go_at_call 15; refine (rbefore_any _ _ _ ha ha2 hb hb2).mono ?_; rintro e w' ⟨rfl, rfl⟩))
  go_ret
  exact ⟨ret_b (by simp), HB.out⟩
end countIndices

namespace countRooms
set_option maxHeartbeats 400000 in
theorem walk (h t p : Int) (w : World) (ht : TabOk w) (hh : 0 ≤ h) (hh2 : h < 4294967296) (ht1 : 0 ≤ t) (ht2 : t < 4294967296) (hp : 0 ≤ p) (hp2 : p < 4294967296) :
    Calls Tryd.prog 4 #[.int .u32 h, .int .u32 t, .int .u32 p] w fun e w' => e = .returned (.bool true) ∧ Below w.heap.size w w' := by
  have HT := Lib.hid ht
  clear ht
  go_enter Tryd.func4, Tryd.ntmps4
  go_wp2_with (first | (go_at_call 16; refine (room_any _ _ _ _ hp hp2).mono ?_; rintro e w' ⟨rfl, rfl⟩) | (go_at_call 17; refine (rroom_any _ _ _ _ hh hh2 ht1 ht2 hp hp2).mono ?_; rintro e w' ⟨rfl, rfl⟩) | (go_at_call 18; refine (slot_any _ _ _ hh hp hp2).mono ?_; rintro e w' ⟨rfl, rfl⟩) | (go_at_call 19; refine (rslot_any _ _ _ hh hp hp2).mono ?_; rintro e w' ⟨rfl, rfl⟩))
  refine (awake_any _ HT.out).mono ?_
  rintro e w1 ⟨rfl, hB⟩
  have HB := Lib.hid hB
  clear hB
  go_wp2
  go_ret
  exact ⟨ret_b (by simp), HB.out⟩
end countRooms
end Go.Proofs.YtphdlplbcajemaaDoor
