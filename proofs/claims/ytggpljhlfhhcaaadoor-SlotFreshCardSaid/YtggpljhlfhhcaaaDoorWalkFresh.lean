/-
  SlotFresh answers true.
-/
import Derived.Test.YtggpljhlfhhcaaaDoorAwkW
namespace Go.Proofs.YtggpljhlfhhcaaaDoor
open Go.RowKit

set_option maxHeartbeats 4000000 in
set_option maxRecDepth 100000 in
theorem walk_fresh (t l a : Int) (w : World) (hG : GOk w) (hl : 0 ≤ l ∧ l < 4294967296) (ha : 0 ≤ a ∧ a < 65536) :
    Calls Tryd.prog 5 #[.int .u32 t, .int .u32 l, .int .u16 a] w fun e w' => e = .returned (.bool true) ∧ Below w.heap.size w w' := by
  have hw : IntKind.u32.wrap (t + l) = (t + l) % 4294967296 := IntKind.wrap_u32' _
  have HA := Lib.hid (awake_any w hG)
  clear hG
  by_cases h0 : a = 0
  · subst h0
    have HF := Lib.hid (fresh_no t ((t + l) % 4294967296) w)
    generalize (t + l) % 4294967296 = n at *
    clear hl
    go_enter Tryd.func5, Tryd.ntmps5
    go_wp2_with fail
    with_reducible refine HF.out.mono ?_
    rintro e w1 ⟨rfl, rfl⟩
    go_wp2_with fail
    with_reducible refine HA.out.mono ?_
    rintro e w1 ⟨rfl, hB⟩
    go_wp2_with fail
    go_ret
    exact ⟨rfl, hB⟩
  · have e1 : ((t + l) % 4294967296 - t) % 4294967296 = l := by omega
    have e2 : (l - 0) % 4294967296 = l := by omega
    have HF := Lib.hid (fresh_yes t ((t + l) % 4294967296) a w (by omega))
    have HF2 := Lib.hid (fresh_yes 0 l a w (by omega))
    rw [e1] at HF
    rw [e2] at HF2
    have hz : (a == 0) = false := by simpa using h0
    have hu : IntKind.u32.wrap a = a := by rw [IntKind.wrap_u32']; omega
    obtain ⟨d, hd⟩ : ∃ d, d = decide (l < a) := ⟨_, rfl⟩
    rw [← hd] at HF HF2
    have hdd : decide (l < a) = d := hd.symm
    clear hd e1 e2 hl ha
    generalize (t + l) % 4294967296 = n at *
    go_enter Tryd.func5, Tryd.ntmps5
    go_wp2_with fail
    with_reducible refine HF.out.mono ?_
    rintro e w1 ⟨rfl, rfl⟩
    go_wp2_with fail
    with_reducible refine HF2.out.mono ?_
    rintro e w1 ⟨rfl, rfl⟩
    go_wp2_with fail
    with_reducible refine HA.out.mono ?_
    rintro e w1 ⟨rfl, hB⟩
    go_wp2_with fail
    go_ret
    exact ⟨rfl, hB⟩
end Go.Proofs.YtggpljhlfhhcaaaDoor
