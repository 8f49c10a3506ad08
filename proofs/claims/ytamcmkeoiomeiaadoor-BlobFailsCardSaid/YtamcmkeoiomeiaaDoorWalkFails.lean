/-
  The walk of BlobFails: a reader that has failed reads nothing more, and tells the same for good.
-/
import Derived.Test.YtamcmkeoiomeiaaDoorCall
namespace Go.Proofs.YtamcmkeoiomeiaaDoor
open Go.RowKit
namespace blobFails

/-- What the first loop knows. -/
def Rel1 (w : World) (g b cap : Nat) (s : ByteArray) (wr : World) : Prop := ∃ k bad, Rd wr g b cap s k bad ∧ Below w.heap.size w wr
/-- What the second loop knows. -/
def Rel2 (w : World) (g b cap : Nat) (s : ByteArray) (k : Nat) (wr : World) : Prop := Rd wr g b cap s k true ∧ Below w.heap.size w wr

set_option maxHeartbeats 4000000 in
set_option maxRecDepth 100000 in
theorem walk (s : ByteArray) (A1 A2 : Option Addr) (n1 c1 n2 c2 : Nat) (f1 f2 : Nat → Int × Int) (w : World) (hG : GOk w) (hs : s.size ≤ 140737488351232)
    (hn1 : n1 ≤ 9223372036854775807) (hn2 : n2 ≤ 9223372036854775807) (ha1 : Asks w A1 n1 f1) (ha2 : Asks w A2 n2 f2) :
    Calls Tryd.prog 6 #[.string s, .slice A1 n1 c1, .slice A2 n2 c2] w fun e w' => e = .returned (.bool true) ∧ Below w.heap.size w w' := by
  have HG := Lib.hid hG
  have h0 := hG.lt
  have HS := Lib.hid hs
  have HA1 := Lib.hid ha1
  have HA2 := Lib.hid ha2
  have kc := conv_run s
  clear hG hs ha1 ha2
  go_enter Tryd.func6, Tryd.ntmps6
  go_wp2_with fail
  refine (new_any ⟨w.heap.size, 0, none⟩ _ s _ (convW_at w s) (by have := HS.out; omega)).mono ?_
  rintro e w1 ⟨g, b, cap, rfl, hR, hg0, _, hB⟩
  have hg : w.heap.size ≤ g := by rw [convW_size] at hg0; omega
  have HR := Lib.hid hR
  have HB := Lib.hid ((convW_below w s).trans (hB.mono (by rw [convW_size]; omega)))
  clear hR hB hg0 kc
  go_wp2_with fail
  refine (awake_any w1 (HG.out.below HB.out h0)).mono ?_
  rintro e w2 ⟨rfl, hB⟩
  have HR2 := Lib.hid (HR.out.below hB)
  have HB2 := Lib.hid (HB.out.trans (hB.mono HB.out.size))
  clear hB HR HB
  go_wp2_with fail
  go_loopw [8] (fun i wr => ∃ j : Nat, Rel1 w g b cap s wr ∧ j ≤ n1 ∧ i = .int .i64 j) (fun i _ => n1 - (intOf i).toNat)
  case atStart => exact ⟨0, ⟨0, false, HR2.out, HB2.out⟩, by omega, rfl⟩
  case round =>
    obtain ⟨j, ⟨k, bad, hR, hB⟩, hj, rfl⟩ := hrel
    have HR := Lib.hid hR
    have HB := Lib.hid hB
    clear hR hB HR2 HB2
    by_cases hlt : j < n1 ∧ j < 50
    · obtain ⟨hl1, hl2⟩ := hlt
      obtain ⟨ab, ao, rfl, hc1, hc2⟩ := (HA1.out.keep HB.out) j hl1
      go_wp2_with (go_at_call 18; refine (text_any HR.out _).mono ?_; rintro e w3 ⟨rfl, hR, hO⟩; have HR3 := Lib.hid hR; have HB3 := Lib.hid (below_only HB.out (Nat.le_refl _) hO hg); clear hR hO)
      go_roundw
      case rel => exact ⟨j + 1, ⟨_, _, HR3.out, HB3.out⟩, hl1, by go_num⟩
      case measure => simp [intOf]; omega
    · have hex : (n1 ≤ j) ∨ (j < n1 ∧ 50 ≤ j) := by omega
      clear hlt
      rcases hex with hge | ⟨hl1, hl2⟩
      all_goals
        cases bad
        · go_wp2_with (go_at_call 13; refine (err_ok HR.out).mono ?_; rintro e w' ⟨rfl, rfl⟩)
          go_ret
          exact ⟨rfl, HB.out⟩
        · go_wp2_with fail
          refine (err_told HR.out).mono ?_
          rintro e w3 ⟨f, rfl, _, _, hB⟩
          have HR3 := Lib.hid (HR.out.below hB)
          have HB3 := Lib.hid (HB.out.trans (hB.mono HB.out.size))
          clear hB
          go_wp2_with fail
          refine (err_told HR3.out).mono ?_
          rintro e w4 ⟨f, rfl, d0, d1, hB⟩
          have HR4 := Lib.hid (HR3.out.below hB)
          have HB4 := Lib.hid (HB3.out.trans (hB.mono HB3.out.size))
          have HW := Lib.hid (why_fail0 f 0 20 k w4 (HG.out.below HB4.out h0) d0 d1)
          clear d0 d1 hB HR3 HB3
          go_wp2_with fail
          refine HW.out.mono ?_
          rintro e w5 ⟨rfl, hB⟩
          have HR5 := Lib.hid (HR4.out.below hB)
          have HB5 := Lib.hid (HB4.out.trans (hB.mono HB4.out.size))
          clear hB HR4 HB4 HW HR HB
          go_wp2_with (go_at_call 17; refine (at_any HR5.out).mono ?_; rintro e w' ⟨rfl, rfl⟩)
          go_loopw [12] (fun i wr => ∃ j : Nat, Rel2 w g b cap s k wr ∧ j ≤ n2 ∧ i = .int .i64 j) (fun i _ => n2 - (intOf i).toNat)
          case atStart => exact ⟨0, ⟨HR5.out, HB5.out⟩, by omega, rfl⟩
          case round =>
            clear HR5 HB5
            obtain ⟨j2, ⟨hR, hB⟩, hj2, rfl⟩ := hrel
            have HR := Lib.hid hR
            have HB := Lib.hid hB
            clear hR hB
            by_cases hlt2 : j2 < n2 ∧ j2 < 50
            · obtain ⟨hm1, hm2⟩ := hlt2
              obtain ⟨ab, ao, rfl, hc1, hc2⟩ := (HA2.out.keep HB.out) j2 hm1
              clear hc1 hc2
              go_wp2_with fail
              refine (eight_no HR.out (lacks_true _ _ _)).mono ?_
              rintro e w6 ⟨rfl, hR, hO⟩
              have HR6 := Lib.hid hR
              have HB6 := Lib.hid (below_only HB.out (Nat.le_refl _) hO hg)
              clear hR hO HR
              go_wp2_with fail
              refine (sixteen_no HR6.out (lacks_true _ _ _)).mono ?_
              rintro e w7 ⟨rfl, hR, hO⟩
              have HR7 := Lib.hid hR
              have HB7 := Lib.hid (below_only HB6.out (Nat.le_refl _) hO hg)
              have hc7 := (HA2.out.keep HB7.out).num hm1
              clear hR hO HR6 HB6
              go_wp2_with fail
              refine (text_bad HR7.out _).mono ?_
              rintro e w8 ⟨rfl, hR, hO⟩
              have HR8 := Lib.hid hR
              have HB8 := Lib.hid (below_only HB7.out (Nat.le_refl _) hO hg)
              have hc8 := (HA2.out.keep HB8.out).num hm1
              clear hR hO HR7 HB7 hc7
              go_wp2_with fail
              refine (list_bad HR8.out _).mono ?_
              rintro e w9 ⟨rfl, hR, hO⟩
              have HR9 := Lib.hid hR
              have HB9 := Lib.hid (below_only HB8.out (Nat.le_refl _) hO hg)
              clear hR hO HR8 HB8 hc8
              go_wp2
              go_roundw
              case rel => exact ⟨j2 + 1, ⟨HR9.out, HB9.out⟩, hm1, by go_num⟩
              case measure => simp [intOf]; omega
            · have hex2 : (n2 ≤ j2) ∨ (j2 < n2 ∧ 50 ≤ j2) := by omega
              clear hlt2
              rcases hex2 with hge2 | ⟨hm1, hm2⟩
              all_goals
                go_wp2_with fail
                refine (err_told HR.out).mono ?_
                rintro e w6 ⟨f, rfl, d0, d1, hB⟩
                have HR6 := Lib.hid (HR.out.below hB)
                have HB6 := Lib.hid (HB.out.trans (hB.mono HB.out.size))
                have HW := Lib.hid (why_fail0 f 0 20 k w6 (HG.out.below HB6.out h0) d0 d1)
                clear d0 d1 hB HR HB
                go_wp2_with fail
                refine HW.out.mono ?_
                rintro e w7 ⟨rfl, hB⟩
                have HR7 := Lib.hid (HR6.out.below hB)
                have HB7 := Lib.hid (HB6.out.trans (hB.mono HB6.out.size))
                clear hB HR6 HB6 HW
                go_wp2_with (go_at_call 17; refine (at_any HR7.out).mono ?_; rintro e w' ⟨rfl, rfl⟩)
                refine (err_told HR7.out).mono ?_
                rintro e w8 ⟨f, rfl, d0, d1, hB⟩
                have HR8 := Lib.hid (HR7.out.below hB)
                have HB8 := Lib.hid (HB7.out.trans (hB.mono HB7.out.size))
                have HW := Lib.hid (bis_short f w8 d1)
                clear d0 d1 hB HR7 HB7
                go_wp2_with fail
                refine HW.out.mono ?_
                rintro e w9 ⟨rfl, hB⟩
                have HR9 := Lib.hid (HR8.out.below hB)
                have HB9 := Lib.hid (HB8.out.trans (hB.mono HB8.out.size))
                clear hB HR8 HB8 HW
                go_wp2_with fail
                refine (err_told HR9.out).mono ?_
                rintro e wa ⟨f, rfl, d0, d1, hB⟩
                have HBa := Lib.hid (HB9.out.trans (hB.mono HB9.out.size))
                have HW := Lib.hid (bis_more f wa d1)
                clear d0 d1 hB HR9 HB9
                go_wp2_with fail
                refine HW.out.mono ?_
                rintro e wb ⟨rfl, hB⟩
                have HBb := Lib.hid (HBa.out.trans (hB.mono HBa.out.size))
                clear hB HBa HW
                go_wp2
                go_ret
                exact ⟨rfl, HBb.out⟩
end blobFails
end Go.Proofs.YtamcmkeoiomeiaaDoor
