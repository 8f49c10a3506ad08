/-
  PlanOne, walked: what is decoded has just these bytes.
-/
import Derived.Test.YtkgkjkghdllkhaaDoorAwake
namespace Go.Proofs.YtkgkjkghdllkhaaDoor
open Go.RowKit

theorem decode_ok (A : Addr) (c : Nat) (s : ByteArray) (w : World) (hA : At w A s) (hs : s.size ≤ 1000000) (h : decE s = 0) : Calls Tryd.prog 15 #[.slice (some A) s.size c] w fun e w' => DecOk s w e w' := by
  unfold decE at h
  split at h; · omega
  split at h; · omega
  split at h; · omega
  split at h; · omega
  exact dec_ok A c s w hA (by omega) hs (by simpa using ‹¬ magicB s = false›) ⟨by simpa using ‹¬ (dPlan s (4, false)).2.2 = true›, by assumption⟩
theorem decode_bad (A : Addr) (c : Nat) (s : ByteArray) (w : World) (hA : At w A s) (hs : s.size ≤ 1000000) (h : decE s ≠ 0) : Calls Tryd.prog 15 #[.slice (some A) s.size c] w fun e w' => DecBad s w e w' := by
  by_cases h4 : s.size < 4
  · exact dec_short A c s w hA h4
  by_cases hm : magicB s = false
  · exact dec_magic A c s w hA (by omega) hs hm
  have hm' : magicB s = true := by simpa using hm
  by_cases hb : (dPlan s (4, false)).2.2 = true
  · exact dec_bad A c s w hA (by omega) hs hm' hb
  have hb' : (dPlan s (4, false)).2.2 = false := by simpa using hb
  by_cases hk : (dPlan s (4, false)).2.1 < s.size
  · exact dec_more A c s w hA (by omega) hs hm' ⟨hb', hk⟩
  · exact absurd (by unfold decE; rw [if_neg h4, if_neg hm, if_neg hb, if_neg hk]) h

set_option maxHeartbeats 8000000 in
set_option maxRecDepth 100000 in
theorem walk_one (s : ByteArray) (w : World) (hG : GOk w) (hz : s.size ≤ 140737488351232) :
    Calls Tryd.prog 6 #[.string s] w fun e w' => e = .returned (.bool true) ∧ Below w.heap.size w w' := by
  have HG := Lib.hid hG
  have h0 := hG.lt
  have HAW := Lib.hid (fun W (hB : Below w.heap.size w W) => awake_any W (hG.below hB h0))
  clear hG
  by_cases hn : 20000 < s.size
  · go_enter Tryd.func6, Tryd.ntmps6
    go_wp2_with fail
    refine (HAW.out _ (Below.refl _ _)).mono ?_
    rintro e w1 ⟨rfl, hB⟩
    have HB := Lib.hid hB
    clear hB
    go_wp2_with fail
    go_ret
    exact ⟨rfl, HB.out⟩
  have hcv := conv_run s w
  have hcz := convW_below w s
  have hni := fun x W => run_neq_iface_nil (P := Tryd.prog) W 33 (by kernel_rfl) 71 x
  by_cases hd : decE s = 0
  · obtain ⟨o1, o2, o3⟩ := dec_one hd
    have HD := Lib.hid (decode_ok ⟨w.heap.size, 0, none⟩ (grownCap w s.size 0 5) s (convW w s) (convW_at w s) (by omega) hd)
    have hbl : (bytesL (enc (decP s))).size = (enc (decP s)).length := by
      show (bytesL _).data.size = _
      simp [bytesL]
    rw [o1] at hbl
    have hlen : (enc (decP s)).length = s.size := hbl.symm
    have hs4 : 4 ≤ s.size := by
      rcases Nat.lt_or_ge s.size 4 with h | h
      · exfalso
        unfold decE at hd
        rw [if_pos h] at hd
        omega
      · exact h
    have hsm : Small (decP s) := by show (enc (decP s)).length ≤ 1000000; omega
    have HO1 := Lib.hid o1
    have HO2 := Lib.hid o2
    have HO3 := Lib.hid o3
    have HLN := Lib.hid hlen
    have HSM := Lib.hid hsm
    have HCZ := Lib.hid hcz
    clear o1 o2 o3 hlen hsm hcz hd hbl
    go_enter Tryd.func6, Tryd.ntmps6
    go_wp2_with fail
    refine HD.out.mono ?_
    rintro e w1 ⟨L, rfl, hP, hB⟩
    have HP := Lib.hid hP
    have HB := Lib.hid (HCZ.out.trans (hB.mono HCZ.out.size))
    clear hP hB HD HCZ hcv
    obtain ⟨P, hPe⟩ : ∃ P, P = decP s := ⟨_, rfl⟩
    rw [← hPe] at HO1 HO2 HO3 HLN HSM HP
    rw [← hPe]
    have HPE := Lib.hid hPe
    clear hPe
    obtain ⟨fr, cs, ps, hs, rs⟩ := P
    obtain ⟨A1, c1, A2, c2, A3, c3, A4, c4⟩ := L
    have hpv : planV (fr, cs, ps, hs, rs) ⟨A1, c1, A2, c2, A3, c3, A4, c4⟩ = .agg #[.int .u16 fr, .slice A1 cs.length c1, .slice A2 ps.length c2, .slice A3 hs.length c3, .slice A4 rs.length c4] := rfl
    rw [hpv]
    have HPV := Lib.hid hpv
    clear hpv
    obtain ⟨W, hW⟩ : ∃ W, W = w1.alloc (.cells #[.int .u16 fr, .slice A1 cs.length c1, .slice A2 ps.length c2, .slice A3 hs.length c3, .slice A4 rs.length c4] 28) := ⟨_, rfl⟩
    have hb : Below w1.heap.size w1 W := by rw [hW]; exact (Below.refl _ _).alloc (Nat.le_refl _) _
    have hrow : W.heap[w1.heap.size]? = some (.cells #[.int .u16 fr, .slice A1 cs.length c1, .slice A2 ps.length c2, .slice A3 hs.length c3, .slice A4 rs.length c4] 28 (0, 0)) := by rw [hW]; exact heap_alloc_new _ _
    have HR := Lib.hid hrow
    have HPW := Lib.hid (HP.out.keep hb)
    have HBW := Lib.hid (HB.out.trans (hb.mono HB.out.size))
    have HW := Lib.hid hW
    clear hW hb hrow HB HP
    go_wp2_with fail
    rw [← HW.out]
    refine (HAW.out _ HBW.out).mono ?_
    rintro e w2 ⟨rfl, hB⟩
    obtain ⟨k0, k1, k2, k3, k4⟩ := box5 ((hB.block _ (Array.getElem?_eq_some_iff.1 HR.out).1).trans HR.out)
    have HP2 := Lib.hid (HPW.out.keep hB)
    have HB2 := Lib.hid (HBW.out.trans (hB.mono HBW.out.size))
    have HEN := Lib.hid (enc_yes (fr, cs, ps, hs, rs) ⟨A1, c1, A2, c2, A3, c3, A4, c4⟩ w2 HP2.out HSM.out (fitAt_of HO2.out) HO3.out)
    rw [HPV.out] at HEN
    clear hB HPW HBW HR
    go_wp2_with fail
    refine HEN.out.mono ?_
    rintro e w3 ⟨v, rfl, hO, hB⟩
    obtain ⟨g, cg, hv, _, hby, hsz⟩ := Own.bytes hO (by rw [HLN.out]; omega) (enc_byte HO3.out HO2.out)
    rw [HLN.out] at hv
    rw [HO1.out] at hby
    subst hv
    have hcb := Lib.run_convert_whole (P := Tryd.prog) w3 31 5 9 Tryd.underlying31 Tryd.underlying5 Tryd.underlying9 g 0 s hby cg
    have HB3 := Lib.hid (HB2.out.trans (hB.mono HB2.out.size))
    clear hO hB hby hsz HEN k0 k1 k2 k3 k4
    go_wp2_with fail
    go_ret
    exact ⟨by simp, HB3.out⟩
  · have HD := Lib.hid (decode_bad ⟨w.heap.size, 0, none⟩ (grownCap w s.size 0 5) s (convW w s) (convW_at w s) (by omega) hd)
    have HCZ := Lib.hid hcz
    clear hcz hd
    go_enter Tryd.func6, Tryd.ntmps6
    go_wp2_with fail
    refine HD.out.mono ?_
    rintro e w1 ⟨f, rfl, _, _, hB⟩
    have HB := Lib.hid (HCZ.out.trans (hB.mono HCZ.out.size))
    clear hB HD HCZ hcv
    rw [show planV emptyA L0 = .agg #[.int .u16 0, .slice none 0 0, .slice none 0 0, .slice none 0 0, .slice none 0 0] from rfl]
    obtain ⟨W, hW⟩ : ∃ W, W = w1.alloc (.cells #[.int .u16 0, .slice none 0 0, .slice none 0 0, .slice none 0 0, .slice none 0 0] 28) := ⟨_, rfl⟩
    have hb : Below w1.heap.size w1 W := by rw [hW]; exact (Below.refl _ _).alloc (Nat.le_refl _) _
    have HBW := Lib.hid (HB.out.trans (hb.mono HB.out.size))
    have HW := Lib.hid hW
    clear hW hb HB
    go_wp2_with fail
    rw [← HW.out]
    refine (HAW.out _ HBW.out).mono ?_
    rintro e w2 ⟨rfl, hB⟩
    have HB2 := Lib.hid (HBW.out.trans (hB.mono HBW.out.size))
    clear hB HBW
    go_wp2_with fail
    refine (HAW.out _ HB2.out).mono ?_
    rintro e w3 ⟨rfl, hB⟩
    have HB3 := Lib.hid (HB2.out.trans (hB.mono HB2.out.size))
    clear hB HB2
    go_wp2_with fail
    go_ret
    exact ⟨rfl, HB3.out⟩
end Go.Proofs.YtkgkjkghdllkhaaDoor
