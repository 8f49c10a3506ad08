/-
  SeqlockTries answers true.
-/
import Derived.Test.YtoaaeamogpdcgaaDoorStW
namespace Go.Proofs.YtoaaeamogpdcgaaDoor
open Go.RowKit

/-- While the reader goes on. -/
def TRel (H np : Nat) (q : Sb) (cf : Cfg) (w : World) (wv tv i : Value) (wr : World) : Prop :=
  ∃ (k wn : Nat) (s : Wr) (f : Nat → Int) (r : Rd) (b : Nat), k ≤ np ∧ k ≤ 300 ∧ wv = .int .i64 wn ∧ tv = .int .i64 r.tr ∧ i = .int .i64 k ∧ St H wr q cf (k + 1) s f r b ∧ r.tr ≤ k ∧ wn ≤ k ∧ r.k.ph < 3 ∧ (wn = 0 → 1 ≤ r.tr → r.k.ph ≠ 0 ∧ f cf.at' = r.cn) ∧ Below H w wr
set_option maxHeartbeats 8000000 in
set_option maxRecDepth 100000 in
theorem walk_tries (x : Int) (A : Option Addr) (L ca : Nat) (F : Nat → Ver) (P : Option Addr) (np cp : Nat) (pk : Nat → Int) (w : World) (hG : GOk w) (hx : 0 ≤ x ∧ x < 4294967296) (hV : VersN w.heap.size w A L F) (hwf : ∀ i, i < L → Wf (F i).n (F i).v) (hL2 : L ≤ 2000000) (hbk : ∀ n, (∀ i, i < L → (F i).n = n) → L * n ≤ 2000000) (hP : ArgN .u8 w.heap.size w P np pk) (hpk : ∀ i, i < np → 0 ≤ pk i ∧ pk i < 256) (_ : np ≤ 1000000000000000) :
    Calls Tryd.prog 7 #[.int .u32 x, .slice A L ca, .slice P np cp] w fun e w' => e = .returned (.bool true) ∧ Below w.heap.size w w' := by
  have h6 := six_of hG
  have HG := Lib.hid hG
  have HN := Lib.hid (new_one 60 (by omega) (by omega) 60 rfl w)
  have HV := Lib.hid hV
  have HWF := Lib.hid hwf
  have HBK := Lib.hid hbk
  have HC0 := Lib.hid (andNot_even x hx)
  have HP := Lib.hid hP
  have HPK := Lib.hid hpk
  clear hG hV hwf hbk hx hP hpk
  by_cases hL0 : L = 0
  · subst hL0
    go_enter Tryd.func7, Tryd.ntmps7
    go_wp2_with fail
    with_reducible refine HN.out.mono ?_
    rintro e w1 ⟨g, b, rfl, _, _, _, hB1⟩
    have HB1 := Lib.hid hB1
    clear hB1 HN
    go_wp2_with fail
    refine (neww_nil 0 A ca (fun _ => 0) w1).mono ?_
    rintro e w2 ⟨rfl, _, hB2, _⟩
    have HB2 := Lib.hid (HB1.out.trans (hB2.mono HB1.out.size))
    clear hB2
    go_wp2_with fail
    refine (awake_any w2 (HG.out.keep HB2.out)).mono ?_
    rintro e w3 ⟨rfl, hB3⟩
    have HB3 := Lib.hid (HB2.out.trans (hB3.mono HB2.out.size))
    clear hB3
    go_wp2_with fail
    refine (few_yes A 0 ca F w3 ((HV.out.keep HB3.out).up HB3.out.size) ⟨by omega, fun i hi => absurd hi (by omega)⟩).mono ?_
    rintro e x1 ⟨rfl, rfl⟩
    go_wp2_with fail
    refine (awake_any w3 (HG.out.keep HB3.out)).mono ?_
    rintro e w4 ⟨rfl, hB4⟩
    have HB4 := Lib.hid (HB3.out.trans (hB4.mono HB3.out.size))
    clear hB4
    go_wp2_with fail
    go_ret
    exact ⟨rfl, HB4.out⟩
  · have hLz : ((L : Int) == 0) = false := beq_false_of_ne (by omega)
    have hLp : (0 : Int) < L := by omega
    go_enter Tryd.func7, Tryd.ntmps7
    go_wp2_with fail
    with_reducible refine HN.out.mono ?_
    rintro e w1 ⟨g, b, rfl, hM1, hg1, hb1, hB1⟩
    have HM1 := Lib.hid hM1
    have HI := Lib.hid (And.intro hg1 hb1)
    have HB1 := Lib.hid hB1
    clear hM1 hg1 hb1 hB1 HN
    go_wp2_with fail
    refine (neww_any 0 A L ca F w1 ((HV.out.keep HB1.out).up HB1.out.size) (by omega) (fun h => HBK.out _ fun i hi => (h i hi).2) hL2 (by omega)).mono ?_
    rintro e w2 ⟨hB2, h2⟩
    have HB2 := Lib.hid (HB1.out.trans (hB2.mono HB1.out.size))
    rcases h2 with ⟨hok, B, G, cap, rfl, hB, hG1, hG2, hB', hW⟩ | ⟨_, rfl⟩
    · have HM2 := Lib.hid (HM1.out.keep hB2)
      have HLT := Lib.hid (And.intro HM1.out.ltg HM1.out.row.lt)
      have HOK := Lib.hid hok
      have HW2 := Lib.hid hW
      have HO2 := Lib.hid (And.intro hG1 (And.intro hG2 hB'))
      clear hB2 hok hB hG1 hG2 hB' hW HM1
      go_wp2_with fail
      refine (awake_any w2 (HG.out.keep HB2.out)).mono ?_
      rintro e w3 ⟨rfl, hB3⟩
      have HB3 := Lib.hid (HB2.out.trans (hB3.mono HB2.out.size))
      go_wp2_with fail
      by_cases hfew : FewV L F
      · refine (few_yes A L ca F w3 ((HV.out.keep HB3.out).up HB3.out.size) hfew).mono ?_
        rintro e x1 ⟨rfl, rfl⟩
        have HFEW := Lib.hid hfew
        clear hfew
        obtain ⟨vb, vo, rfl⟩ := HV.out.head (i := 0) (by omega)
        have hv0 := (HV.out.keep HB3.out).cell (i := 0) (by omega)
        rw [Nat.add_zero] at hv0
        have hok0 := HOK.out 0 (by omega)
        obtain ⟨n, hn⟩ : ∃ n, n = (F 0).n := ⟨_, rfl⟩
        rw [← hn] at hv0
        have hn1 : 1 ≤ n ∧ n ≤ 32 := by rw [hn]; exact hok0.1
        have HNN : Hid (∀ i, i < L → (F i).n = n) := Lib.hid fun i hi => by rw [hn]; exact (HOK.out i hi).2
        have HW3 : Hid (WriterAt w3 B ((wr0 0 n L (flatV n F)).k.ph : Nat) (some ⟨G, 0, none⟩) cap (wr0 0 n L (flatV n F))) := Lib.hid (by rw [hn]; exact HW2.out.keep hB3)
        have HM3 := Lib.hid (HM2.out.keep hB3)
        have HO3 : Hid (g < G ∧ b < G ∧ G < B ∧ B < w3.heap.size) := Lib.hid (by have := HLT.out; have := HO2.out; have := hB3.size; omega)
        have HN1 := Lib.hid hn1
        clear hok0 hn hn1 hB3 HM2 HW2 HO2
        have ho : Cfg.Ok ⟨0, n, L, F, bits .andNot .u32 x 1⟩ 60 := ⟨HN1.out.1, by have := HN1.out.2; show 0 + n < 60; omega, by show 1 ≤ L; omega, by have := HFEW.out.1; show L ≤ 1000000; omega, HC0.out⟩
        have HOO := Lib.hid ho
        have hVF : Wf (L * n) (flatV n F) := flat_wf HN1.out.1 fun i hi => by have := HWF.out i hi; rw [HNN.out i hi] at this; exact this
        have HVF := Lib.hid hVF
        clear ho hVF
        go_wp2_with fail
        refine (newr_yes 0 n n w3 rfl HN1.out.1 HN1.out.2 (by omega)).mono ?_
        rintro e w4 ⟨rfl, hR, hB4, _⟩
        have HB4 := Lib.hid (HB3.out.trans (hB4.mono HB3.out.size))
        have HM4 := Lib.hid (HM3.out.keep hB4)
        have HW4 := Lib.hid (HW3.out.keep hB4)
        obtain ⟨R, hRR⟩ : ∃ R, R = w3.heap.size := ⟨_, rfl⟩
        have HR4 : Hid (ReaderAt w4 R ((rd0 0 n).k.ph : Nat) (rd0 0 n)) := Lib.hid (by rw [hRR]; exact hR)
        have HO4 : Hid (g < G ∧ b < G ∧ G < B ∧ B < R) := Lib.hid (by rw [hRR]; exact HO3.out)
        rw [← hRR]
        clear hR hB4 HM3 HW3 HO3 hRR hv0
        go_wp2_with fail
        refine (st_new HM4.out HW4.out HR4.out (HG.out.keep HB4.out) HVF.out h6 ⟨HI.out.1, HI.out.2, HO4.out.1, HO4.out.2.1, HO4.out.2.2.1, HO4.out.2.2.2⟩ HOO.out 0 rfl).mono ?_
        rintro e w5 ⟨rfl, hS5, hB5⟩
        have HS5 := Lib.hid hS5
        have HB5 := Lib.hid (HB4.out.trans hB5)
        clear hS5 hB5 HM4 HW4 HR4
        go_wp2_with fail
        go_loopw [13, 14, 15] (fun wv tv i wr => TRel w.heap.size np ⟨g, b, 60, B, R, some ⟨G, 0, none⟩, cap⟩ ⟨0, n, L, F, bits .andNot .u32 x 1⟩ w wv tv i wr) (fun _ _ i _ => np - (intOf i).toNat)
        case atStart => exact ⟨0, 0, _, _, _, 0, Nat.zero_le _, by omega, rfl, rfl, rfl, HS5.out, Nat.zero_le _, Nat.zero_le _, by show 0 < 3; omega, fun _ h => absurd h (by show ¬ 1 ≤ 0; omega), HB5.out⟩
        case round =>
          obtain ⟨k, wn, s, f, r, bb, hk, hk3, rfl, rfl, rfl, hS, htr, hwn, hph, hinv, hB⟩ := hrel
          have HS := Lib.hid hS
          have HB := Lib.hid hB
          have HINV := Lib.hid hinv
          have HPH := Lib.hid hph
          clear hS hB hinv hph
          by_cases hlt : k < np ∧ k < 300
          · obtain ⟨hl1, hl2⟩ := hlt
            have hl3 : (k : Int) < np := by omega
            have hl4 : (k : Int) < 300 := by omega
            obtain ⟨pb, po, rfl⟩ := HP.out.head hl1
            have cp1 := (HP.out.keep HB.out).cell hl1
            have hb := u8_and1 _ (HPK.out k hl1)
            by_cases hpk : pk k % 2 = 0
            · rw [hpk] at hb
              clear hpk
              have hw1 : IntKind.i64.wrap ((wn : Int) + 1) = (wn : Int) + 1 := IntWalk.i64_in _ (by omega)
              go_wp2_with fail
              refine (st_write HS.out (by omega)).mono ?_
              rintro e w6 ⟨rfl, hS6, hB6⟩
              have HS6 := Lib.hid hS6
              have HB6 := Lib.hid (HB.out.trans hB6)
              clear hS6 hB6
              go_wp2_with fail
              go_roundw
              case rel => exact ⟨k + 1, wn + 1, _, _, r, bb, by omega, by omega, by go_num, rfl, by go_num, HS6.out, by omega, by omega, HPH.out, fun h => absurd h (by omega), HB6.out⟩
              case measure => simp [intOf]; omega
            · have hpk1 : pk k % 2 = 1 := by omega
              rw [hpk1] at hb
              clear hpk hpk1
              have hp3 : Hid (decide (3 ≤ (r.step 60 f).k.ph) = decide ((r.step 60 f).k.ph = 3)) := by
                have h2 : (r.step 60 f).k.ph ≤ 3 := by
                  rcases HS.out.ri.read HS.out.wi HS.out.ok with ⟨_, h⟩ | ⟨_, _, h, _⟩ <;> exact h.p3
                exact Lib.hid (decide_eq_decide.2 (by omega))
              obtain ⟨d, hd⟩ : ∃ d, decide (3 ≤ (r.step 60 f).k.ph) = d := ⟨_, rfl⟩
              go_wp2_with fail
              refine (st_read HS.out (by omega) (by omega) d hd).mono ?_
              rintro e w6 ⟨rfl, hB6, b2, hS6, hcase⟩
              have HS6 := Lib.hid hS6
              have HB6 := Lib.hid (HB.out.trans hB6)
              have HCASE := Lib.hid hcase
              have HD := Lib.hid hd
              have HTR6 : Hid ((r.step 60 f).k.ph ≠ 0 → 1 ≤ (r.step 60 f).tr) := Lib.hid hS6.ri.tr
              clear hS6 hB6 hcase hd
              go_wp2_with fail
              refine (sq_tries HS6.out.sq _ rfl).mono ?_
              rintro e x2 ⟨rfl, rfl⟩
              rcases HCASE.out with ⟨ht, rfl⟩ | ⟨hr0, ht, rfl, hr1⟩
              · rw [ht] at HTR6 ⊢
                have HT := Lib.hid ht
                clear ht
                have hnot : ¬ ((r.tr : Int) > r.tr) := by omega
                go_wp2_with fail
                cases d with
                | true =>
                  have h3 : (r.step 60 f).k.ph = 3 := of_decide_eq_true (hp3.out.symm.trans HD.out)
                  have hne : ((r.tr : Int) == 0) = false := beq_false_of_ne (by have := HTR6.out (by omega); omega)
                  refine (sq_got_yes HS6.out.sq h3).mono ?_
                  rintro e w7 ⟨dd, rfl, _, _, _, hB7⟩
                  have HB7 := Lib.hid (HB6.out.trans (hB7.mono HB6.out.size))
                  clear hB7 h3
                  go_wp2_with fail
                  go_ret
                  exact ⟨rfl, HB7.out⟩
                | false =>
                  have h3 : (r.step 60 f).k.ph ≠ 3 := of_decide_eq_false (hp3.out.symm.trans HD.out)
                  refine (sq_got_no HS6.out.sq h3).mono ?_
                  rintro e x3 ⟨rfl, rfl⟩
                  have HN3 := Lib.hid h3
                  clear h3
                  go_wp2_with fail
                  go_roundw
                  case rel => exact ⟨k + 1, wn, s, f, r.step 60 f, _, by omega, by omega, rfl, by rw [HT.out], by go_num, HS6.out, by rw [HT.out]; omega, by omega, by have h4 := HS6.out.ri.p3; have := HN3.out; omega, fun h0 h1 => by
                    rw [HT.out] at h1
                    have h2 := HINV.out h0 h1
                    have h5 := HS.out.calm h2.1 h2.2
                    exact ⟨h5.1, by rw [h5.2]; exact h2.2⟩, HB6.out⟩
                  case measure => simp [intOf]; omega
              · have hd0 : d = false := by rw [← HD.out, hr1]; rfl
                subst hd0
                have hrt : ((r.step 60 f).tr : Int) = (r.tr : Int) + 1 := by omega
                rw [hrt]
                have hgt : (r.tr : Int) < (r.tr : Int) + 1 := by omega
                have hwr : IntKind.i64.wrap ((r.tr : Int) + 1) = (r.tr : Int) + 1 := IntWalk.i64_in _ (by omega)
                have HRT := Lib.hid hrt
                have HR1 := Lib.hid hr1
                have HT := Lib.hid ht
                have hsplit : (r.tr : Int) = 0 ∨ (0 < (r.tr : Int) ∧ ((wn : Int) == 0) = false) := by
                  by_cases h0 : r.tr = 0
                  · left; omega
                  · right
                    refine ⟨by omega, beq_false_of_ne fun e => ?_⟩
                    exact (HINV.out (by omega) (by omega)).1 hr0
                have HBEG := Lib.hid (HS.out.began hr0 hr1)
                clear hrt hr0 hr1 ht
                go_wp2_with fail
                refine (sq_tries HS6.out.sq _ HRT.out).mono ?_
                rintro e x4 ⟨rfl, rfl⟩
                rcases hsplit with hz | ⟨hz1, hz2⟩
                · rw [hz]
                  rw [hz] at hwr hgt
                  have HZ := Lib.hid hz
                  clear hz
                  go_wp2_with fail
                  refine (sq_tries HS6.out.sq _ HRT.out).mono ?_
                  rintro e x5 ⟨rfl, rfl⟩
                  go_wp2_with fail
                  refine (sq_got_no HS6.out.sq (by rw [HR1.out]; omega)).mono ?_
                  rintro e x6 ⟨rfl, rfl⟩
                  go_wp2_with fail
                  go_roundw
                  case rel => exact ⟨k + 1, 0, s, f, r.step 60 f, _, by omega, by omega, rfl, by rw [HRT.out, HZ.out], by go_num, HS6.out, by rw [HT.out]; omega, by omega, by rw [HR1.out]; omega, fun _ _ => ⟨by rw [HR1.out]; omega, HBEG.out.symm⟩, HB6.out⟩
                  case measure => simp [intOf]; omega
                · go_wp2_with fail
                  refine (sq_tries HS6.out.sq _ HRT.out).mono ?_
                  rintro e x5 ⟨rfl, rfl⟩
                  go_wp2_with fail
                  refine (sq_got_no HS6.out.sq (by rw [HR1.out]; omega)).mono ?_
                  rintro e x6 ⟨rfl, rfl⟩
                  go_wp2_with fail
                  go_roundw
                  case rel => exact ⟨k + 1, 0, s, f, r.step 60 f, _, by omega, by omega, rfl, by rw [HRT.out], by go_num, HS6.out, by rw [HT.out]; omega, by omega, by rw [HR1.out]; omega, fun _ _ => ⟨by rw [HR1.out]; omega, HBEG.out.symm⟩, HB6.out⟩
                  case measure => simp [intOf]; omega
          · have hge : (np : Int) ≤ k ∨ (300 : Int) ≤ k := by omega
            rcases hge with hge | hge
            · go_wp2_with fail
              go_ret
              exact ⟨rfl, HB.out⟩
            · by_cases hge2 : (np : Int) ≤ k
              · go_wp2_with fail
                go_ret
                exact ⟨rfl, HB.out⟩
              · go_wp2_with fail
                go_ret
                exact ⟨rfl, HB.out⟩
      · refine (few_no A L ca F w3 ((HV.out.keep HB3.out).up HB3.out.size) hfew).mono ?_
        rintro e x1 ⟨rfl, rfl⟩
        clear hB3
        go_wp2_with fail
        refine (awake_any w3 (HG.out.keep HB3.out)).mono ?_
        rintro e w4 ⟨rfl, hB4⟩
        have HB4 := Lib.hid (HB3.out.trans (hB4.mono HB3.out.size))
        clear hB4
        go_wp2_with fail
        go_ret
        exact ⟨rfl, HB4.out⟩
    · clear hB2 HM1
      go_wp2_with fail
      refine (awake_any w2 (HG.out.keep HB2.out)).mono ?_
      rintro e w3 ⟨rfl, hB3⟩
      have HB3 := Lib.hid (HB2.out.trans (hB3.mono HB2.out.size))
      clear hB3
      go_wp2_with fail
      by_cases hfew : FewV L F
      · refine (few_yes A L ca F w3 ((HV.out.keep HB3.out).up HB3.out.size) hfew).mono ?_
        rintro e x1 ⟨rfl, rfl⟩
        go_wp2_with fail
        refine (awake_any w3 (HG.out.keep HB3.out)).mono ?_
        rintro e w4 ⟨rfl, hB4⟩
        have HB4 := Lib.hid (HB3.out.trans (hB4.mono HB3.out.size))
        clear hB4
        go_wp2_with fail
        go_ret
        exact ⟨rfl, HB4.out⟩
      · refine (few_no A L ca F w3 ((HV.out.keep HB3.out).up HB3.out.size) hfew).mono ?_
        rintro e x1 ⟨rfl, rfl⟩
        go_wp2_with fail
        refine (awake_any w3 (HG.out.keep HB3.out)).mono ?_
        rintro e w4 ⟨rfl, hB4⟩
        have HB4 := Lib.hid (HB3.out.trans (hB4.mono HB3.out.size))
        clear hB4
        go_wp2_with fail
        go_ret
        exact ⟨rfl, HB4.out⟩
end Go.Proofs.YtoaaeamogpdcgaaDoor
