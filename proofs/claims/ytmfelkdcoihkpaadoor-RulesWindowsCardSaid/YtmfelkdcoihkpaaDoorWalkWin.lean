/-
  The walk of RulesWindows.
-/
import Derived.Test.YtmfelkdcoihkpaaDoorRefW
import Derived.Test.YtmfelkdcoihkpaaDoorAwake
import Derived.Deep.RegionHeld3
namespace Go.Proofs.YtmfelkdcoihkpaaDoor
open Go.RowKit

set_option maxHeartbeats 8000000 in
set_option maxRecDepth 100000 in
theorem walk_windows (v w : WinA) (W : World) (hG : GOk W) (hv : WfWin v) (hw : WfWin w) :
    Calls Tryd.prog 4 #[wv v, wv w] W fun e w' => e = .returned (.bool true) ∧ Below W.heap.size W w' := by
  have h0 := hG.lt
  have HAW := Lib.hid (fun W1 (hB : Below W.heap.size W W1) => awake_any W1 (hG.below hB h0))
  have HO1 := Lib.hid (fun W => overlap_any v w W hv hw)
  have HO2 : Hid (∀ W, Calls Tryd.prog 14 #[wv w, wv v] W fun e w' => e = .returned (.bool (ovB v w)) ∧ Below W.heap.size W w') := fun W => by
    rw [← ovB_comm v w]
    exact overlap_any w v W hw hv
  have HR := Lib.hid (fun W => refOverlap_any v w W hv hw)
  have HT1 := Lib.hid (fun W => together_any v w W)
  have HT2 := Lib.hid (fun W => refTogether_any v w W)
  obtain ⟨q, hq⟩ : ∃ q, q = ovB v w := ⟨_, rfl⟩
  obtain ⟨r, hr⟩ : ∃ q, q = togB v w := ⟨_, rfl⟩
  rw [← hq] at HO1 HO2 HR
  rw [← hr] at HT1 HT2
  obtain ⟨a, b, c, d⟩ := v
  obtain ⟨a', b', c', d'⟩ := w
  simp only [wv] at HO1 HO2 HR HT1 HT2 ⊢
  have HB0 : Hid (Below W.heap.size W ((W.alloc (.cells #[.int .u16 a, .int .u16 b, .int .u8 c, .int .u8 d] 39)).alloc (.cells #[.int .u16 a', .int .u16 b', .int .u8 c', .int .u8 d'] 39))) := ((Below.refl _ _).alloc (Nat.le_refl _) _).alloc (by simp) _
  have HA1 := Lib.hid ((WB.new W a b c d).alloc (.cells #[.int .u16 a', .int .u16 b', .int .u8 c', .int .u8 d'] 39))
  have hA2 := WB.new (W.alloc (.cells #[.int .u16 a, .int .u16 b, .int .u8 c, .int .u8 d] 39)) a' b' c' d'
  rw [show (W.alloc (.cells #[.int .u16 a, .int .u16 b, .int .u8 c, .int .u8 d] 39)).heap.size = W.heap.size + 1 by simp] at hA2
  have HA2 := Lib.hid hA2
  clear hA2 hq hr hG hv hw
  go_enter Tryd.func4, Tryd.ntmps4
  go_wp2_with fail
  go_region_held3 (fun w' => w'.cell? ⟨W.heap.size, 0, none⟩ = some (.int .u16 a) ∧ w'.cell? ⟨W.heap.size, 1, none⟩ = some (.int .u16 b) ∧ w'.cell? ⟨W.heap.size, 2, none⟩ = some (.int .u8 c) ∧ w'.cell? ⟨W.heap.size, 3, none⟩ = some (.int .u8 d) ∧ w'.cell? ⟨W.heap.size + 1, 0, none⟩ = some (.int .u16 a') ∧ w'.cell? ⟨W.heap.size + 1, 1, none⟩ = some (.int .u16 b') ∧ w'.cell? ⟨W.heap.size + 1, 2, none⟩ = some (.int .u8 c') ∧ w'.cell? ⟨W.heap.size + 1, 3, none⟩ = some (.int .u8 d')) (go_keep)
    (first
      | (go_at_call 10; refine (HAW.out _ (by repeat (first | exact HB0.out | refine Below.drew ?_))).mono ?_; rintro e w1 ⟨rfl, hB⟩
         have hB1 := below_two HB0.out.drew hB
         obtain ⟨k0, k1, k2, k3⟩ := HA1.out.keep (below_two (Below.refl _ _).drew hB)
         obtain ⟨m0, m1, m2, m3⟩ := HA2.out.keep (below_two (Below.refl _ _).drew hB)
         have HB := Lib.hid hB1
         dsimp only at k0 k1 k2 k3 m0 m1 m2 m3
         clear hB hB1)
      | (go_at_call 14; first | (with_reducible refine (HO1.out _).mono ?_) | (with_reducible refine (HO2.out _).mono ?_)
         rintro e w1 ⟨rfl, hB⟩
         replace k0 := kept k0 hB
         replace k1 := kept k1 hB
         replace k2 := kept k2 hB
         replace k3 := kept k3 hB
         replace m0 := kept m0 hB
         replace m1 := kept m1 hB
         replace m2 := kept m2 hB
         replace m3 := kept m3 hB
         have hB1 := below_two HB.out hB
         clear HB
         have HB := Lib.hid hB1
         clear hB hB1)
      | (first | (go_at_call 15; (with_reducible refine (HR.out _).mono ?_)) | (go_at_call 16; (with_reducible refine (HT1.out _).mono ?_)) | (go_at_call 17; (with_reducible refine (HT2.out _).mono ?_))
         rintro e w1 ⟨rfl, hB⟩
         replace k0 := kept k0 hB
         replace k1 := kept k1 hB
         replace k2 := kept k2 hB
         replace k3 := kept k3 hB
         replace m0 := kept m0 hB
         replace m1 := kept m1 hB
         replace m2 := kept m2 hB
         replace m3 := kept m3 hB
         have hB1 := below_two HB.out hB
         clear HB
         have HB := Lib.hid hB1
         clear hB hB1))
  all_goals
    go_wp2_with fail
    go_ret
    exact ⟨by simp, HB.out⟩
end Go.Proofs.YtmfelkdcoihkpaaDoor
