/-
  The chapter's examples hold.
-/
import Derived.Test.YtggpljhlfhhcaaaDoorAwk
namespace Go.Proofs.YtggpljhlfhhcaaaDoor
open Go.RowKit

def exM : ByteArray := ⟨#[97, 98, 99, 100, 101]⟩
theorem ex_words {s : Wr} {f : Nat → Int} (h : Put1 0 5 exM 9 6 s f) : f 0 = 2 ∧ f 1 = 9 ∧ f 2 = 5 ∧ f 3 = 1633837924 := by
  obtain ⟨h1, h2⟩ := Put1.done (sz := 5) h
  have hc : s.cnt = 2 := by unfold Wr.cnt; rw [h1, h2]; rfl
  have hv : ∀ j, s.vof j = 1 := fun j => by unfold Wr.vof; rw [h1, h2]; simp
  have e0 := h.wi.cn
  rw [hc] at e0
  have e1 := h.wi.wd 0 (by decide)
  have e2 := h.wi.wd 1 (by decide)
  have e3 := h.wi.wd 2 (by decide)
  rw [hv] at e1 e2 e3
  exact ⟨e0, e1, e2, e3⟩
set_option maxHeartbeats 8000000 in
set_option maxRecDepth 100000 in
theorem awake_any (w : World) (hG : GOk w) : Calls Tryd.prog 8 #[] w fun e w' => e = .returned (.bool true) ∧ Below w.heap.size w w' := by
  have h6 := six_of hG
  have HG := Lib.hid hG
  have HN := Lib.hid (new_one 5 (by omega) (by omega) 5 rfl w)
  clear hG
  go_enter Tryd.func8, Tryd.ntmps8
  go_wp2_with fail
  with_reducible refine HN.out.mono ?_
  rintro e w1 ⟨g, b, rfl, hM1, hg1, hb1, hB1⟩
  have HM1 := Lib.hid hM1
  have HI := Lib.hid (And.intro hg1 hb1)
  have HB1 := Lib.hid hB1
  clear hM1 hg1 hb1 hB1 HN
  go_wp2_with fail
  refine (newput_yes 0 5 5 exM 9 w1 rfl (by omega) (by omega) (by decide) (by decide) (by omega) (by omega)).mono ?_
  rintro e w2 ⟨hB2, P, B, G, cap, rfl, hG1, hG2, hP1, hP2, hW, hP⟩
  have HB2 := Lib.hid (HB1.out.trans (hB2.mono HB1.out.size))
  have HM2 := Lib.hid (HM1.out.keep hB2)
  have HX := Lib.hid (show g < w1.heap.size ∧ b < w1.heap.size ∧ w1.heap.size ≤ G ∧ G < B ∧ B < P ∧ P < w2.heap.size from ⟨HM1.out.ltg, HM1.out.row.lt, hG1, hG2, hP1, hP2⟩)
  have HW := Lib.hid hW
  have HP := Lib.hid hP
  clear hB2 hG1 hG2 hP1 hP2 hW hP HM1
  go_wp2_with fail
  refine (newget_yes 0 5 5 w2 rfl (by omega) (by omega) (by omega)).mono ?_
  rintro e w3 ⟨rfl, hR, hK, hB3, hz3⟩
  have HB3 := Lib.hid (HB2.out.trans (hB3.mono HB2.out.size))
  have HL : Hid (Pl w.heap.size w3 g b 5 (w2.heap.size + 1) w2.heap.size 5 P B cap (some ⟨G, 0, none⟩) 0 exM 9 0 0 (putS 0 5 exM 9) (fun _ => 0) (rd0 0 (2 + need 5))) := Lib.hid (pl_of (HM2.out.keep hB3) (HW.out.keep hB3) (HP.out.keep hB3) ⟨G, rfl, by have := HX.out; omega, by have := HX.out; omega, HX.out.2.2.2.1⟩ hR hK (HG.out.keep HB3.out) (by decide) (by omega) h6 (by have := HX.out; have := HI.out; omega) (by omega) (by decide))
  clear hR hK hB3 hz3 HM2 HW HP
  go_wp2_with fail
  refine (swords_yes 5 5 rfl w3 (by omega) (by omega)).mono ?_
  rintro e x ⟨rfl, rfl⟩
  rw [show (3 + ((need 5 : Nat) : Int)) = 5 from rfl]
  go_wp2_with fail
  go_loopw [9] (fun i wr => ∃ (k : Nat) (s : Wr) (f : Nat → Int), k ≤ 5 ∧ i = .int .i64 k ∧ (Pl w.heap.size wr g b 5 (w2.heap.size + 1) w2.heap.size 5 P B cap (some ⟨G, 0, none⟩) 0 exM 9 k k s f (rd0 0 (2 + need 5))) ∧ Below w.heap.size w wr) (fun i _ => 5 - (intOf i).toNat)
  case atStart => exact ⟨0, _, _, by omega, rfl, HL.out, HB3.out⟩
  case round =>
    obtain ⟨k, s, f, hk, rfl, hL, hB⟩ := hrel
    have HLk := Lib.hid hL
    have HBk := Lib.hid hB
    have pc := hL.pt.pt.c0
    clear hL hB
    by_cases hlt : k < 5
    · have hd : decide (k + 1 = 2 + need 5 + 2) = false := decide_eq_false (by show ¬ k + 1 = 6; omega)
      have HS := Lib.hid (pl_write HLk.out (by omega) (by decide) (by show k < 6; omega) false hd)
      clear hd
      go_wp2_with fail
      refine HS.out.mono ?_
      rintro e w4 ⟨rfl, hL4, hB4⟩
      have HL4 := Lib.hid hL4
      have HB4 := Lib.hid (HBk.out.trans hB4)
      clear hL4 hB4 pc
      go_wp2_with fail
      go_roundw
      case rel => exact ⟨k + 1, _, _, by omega, by go_num, HL4.out, HB4.out⟩
      case measure => simp [intOf]; omega
    · obtain rfl : k = 5 := by omega
      have HS := Lib.hid (pl_write HLk.out (by omega) (by decide) (by decide) true rfl)
      clear HL hlt
      go_wp2_with fail
      refine HS.out.mono ?_
      rintro e w4 ⟨rfl, hL4, hB4⟩
      obtain ⟨s4, hs4⟩ : ∃ s4, s4 = s.step 5 := ⟨_, rfl⟩
      obtain ⟨f4, hf4⟩ : ∃ f4, f4 = s.word 5 f := ⟨_, rfl⟩
      rw [← hs4, ← hf4] at hL4
      have HL4 : Hid (Pl w.heap.size w4 g b 5 (w2.heap.size + 1) w2.heap.size 5 P B cap (some ⟨G, 0, none⟩) 0 exM 9 6 6 s4 f4 (rd0 0 (2 + need 5))) := Lib.hid hL4
      have HB4 := Lib.hid (HBk.out.trans hB4)
      have pc := hL4.pt.pt.c0
      have HE := Lib.hid (ex_words hL4.p1)
      have HD := Lib.hid (Put1.done (sz := 5) hL4.p1)
      clear hL4 hB4 hs4 hf4 HS
      go_wp2_with fail
      refine (sl_written HL4.out.pt 1 (by rw [HD.out.2]; rfl)).mono ?_
      rintro e x1 ⟨rfl, rfl⟩
      go_wp2_with fail
      obtain ⟨c4, _, _, hm4⟩ := HL4.out.sm.mem
      refine (words_any g b 5 f4 c4 w4 hm4 (by omega)).mono ?_
      rintro e w5 ⟨d, rfl, hrow, hd, hB5⟩
      have HR := Lib.hid hrow
      have HL5 : Hid (Pl w.heap.size w5 g b 5 (w2.heap.size + 1) w2.heap.size 5 P B cap (some ⟨G, 0, none⟩) 0 exM 9 6 6 s4 f4 (rd0 0 (2 + need 5))) := Lib.hid (HL4.out.keep hB5)
      have HB5 := Lib.hid (HB4.out.trans (hB5.mono HB4.out.size))
      have HG1 := Lib.hid (get1_0 (at' := 0) (sz := 5) (M := 5) (m := exM) (tick := 9) (f := f4) (by decide) HD.out.1)
      have HDL := Lib.hid (show g < d ∧ b < d ∧ w2.heap.size < d from ⟨Nat.lt_of_lt_of_le HL4.out.sm.lts.1 hd, Nat.lt_of_lt_of_le HL4.out.sm.lts.2.1 hd, Nat.lt_of_lt_of_le HL4.out.sm.lts.2.2.2 hd⟩)
      clear hrow hB5 hm4 pc hd
      go_wp2_with fail
      go_loopw [11] (fun i wr => ∃ (k : Nat) (r : Rd), k ≤ 5 ∧ i = .int .i64 k ∧ (Pl w.heap.size wr g b 5 (w2.heap.size + 1) w2.heap.size 5 P B cap (some ⟨G, 0, none⟩) 0 exM 9 (6 + k) 6 s4 f4 r) ∧ Get1 0 5 exM 9 s4 f4 k r ∧ r.tr ≤ k ∧ Below w.heap.size w wr ∧ OwnU wr d 5 f4) (fun i _ => 5 - (intOf i).toNat)
      case atStart => exact ⟨0, _, by omega, rfl, HL5.out, HG1.out, Nat.le_refl _, HB5.out, HR.out⟩
      case round =>
        obtain ⟨k, r, hk, rfl, hL, hg, htr, hB, hrow⟩ := hrel
        have HLk := Lib.hid hL
        have HGk := Lib.hid hg
        have HBk := Lib.hid hB
        have HTk := Lib.hid htr
        have HRk := Lib.hid hrow
        have gc := hL.sm.gt.c0
        clear hL hB hg htr hrow
        by_cases hlt : k < 5
        · have hd : decide (k + 1 = 2 + need 5 + 2) = false := decide_eq_false (by show ¬ k + 1 = 6; omega)
          have HS := Lib.hid (pl_read HLk.out HGk.out (by omega) (by have := HTk.out; omega) (by decide) (by show k < 6; omega) false hd)
          clear hd
          go_wp2_with fail
          refine HS.out.mono ?_
          rintro e w6 ⟨rfl, hL6, hG6, hB6, hC6⟩
          have HL6 := Lib.hid hL6
          have HG6 := Lib.hid hG6
          have HB6 := Lib.hid (HBk.out.trans hB6)
          have HR6 := Lib.hid (HRk.out.chg hC6 (fun hk => by have := HDL.out; rcases hk with e | e | e <;> omega))
          have HT6 := Lib.hid (Nat.le_trans (rd_tr 5 f4 r) (Nat.succ_le_succ HTk.out))
          clear hL6 hG6 hB6 hC6 gc
          go_wp2_with fail
          go_roundw
          case rel => exact ⟨k + 1, _, by omega, by go_num, HL6.out, HG6.out, HT6.out, HB6.out, HR6.out⟩
          case measure => simp [intOf]; omega
        · obtain rfl : k = 5 := by omega
          have HS := Lib.hid (pl_read HLk.out HGk.out (by omega) (by have := HTk.out; omega) (by decide) (by decide) true rfl)
          clear hlt
          go_wp2_with fail
          refine HS.out.mono ?_
          rintro e w6 ⟨rfl, hL6, hG6, hB6, hC6⟩
          have HB6 := Lib.hid (HBk.out.trans hB6)
          have HR6 := Lib.hid (HRk.out.chg hC6 (fun hk => by have := HDL.out; rcases hk with e | e | e <;> omega))
          have HMS := Lib.hid (pl_message hL6 hG6 (by omega) (by omega) (by decide))
          clear hL6 hG6 hB6 hC6 gc
          go_wp2_with fail
          refine HMS.out.mono ?_
          rintro e w7 ⟨he, hB7⟩
          have he : e = .returned (.tuple #[.string ⟨#[97, 98, 99, 100, 101]⟩, .int .u32 9, .bool true]) := he
          subst he
          have HB7 := Lib.hid (HB6.out.trans (hB7.mono HB6.out.size))
          have HR7 : Hid (OwnU w7 d 5 f4) := Lib.hid (OwnU.chg (S := fun _ => False) (w := w6) HR6.out (Chg.of_below hB7) (fun h => h))
          clear hB7
          go_wp2_with fail
          refine (fresh_yes 9 12 4 w7 (by omega)).mono ?_
          rintro e x2 ⟨rfl, rfl⟩
          rw [show decide ((12 - 9 : Int) % 4294967296 < 4) = true from rfl]
          go_wp2_with fail
          refine (fresh_yes 9 13 4 w7 (by omega)).mono ?_
          rintro e x3 ⟨rfl, rfl⟩
          rw [show decide ((13 - 9 : Int) % 4294967296 < 4) = false from rfl]
          have r0 := HR7.out.cell (i := 0) (by omega)
          have r1 := HR7.out.cell (i := 1) (by omega)
          have r2 := HR7.out.cell (i := 2) (by omega)
          have r3 := HR7.out.cell (i := 3) (by omega)
          rw [HE.out.1] at r0
          rw [HE.out.2.1] at r1
          rw [HE.out.2.2.1] at r2
          rw [HE.out.2.2.2] at r3
          go_wp2_with fail
          go_ret
          exact ⟨rfl, HB7.out⟩
end Go.Proofs.YtggpljhlfhhcaaaDoor
