/-
  SeqlockWhole answers true.
-/
import Derived.Test.YtoaaeamogpdcgaaDoorStW
namespace Go.Proofs.YtoaaeamogpdcgaaDoor
open Go.RowKit

/-- Readers one behind the other. -/
def WRel (H np : Nat) (g b B : Nat) (A : Option Addr) (ca : Nat) (cf : Cfg) (w : World) (rp le dn i : Value) (wr : World) : Prop :=
  ∃ (k R : Nat) (s : Wr) (f : Nat → Int) (r : Rd) (bb : Nat), k ≤ np ∧ k ≤ 300 ∧ rp = .pointer (some ⟨R, 0, none⟩) ∧ le = .int .i64 bb ∧ dn = .bool (decide (r.k.ph = 3)) ∧ i = .int .i64 k ∧ St H wr ⟨g, b, 60, B, R, A, ca⟩ cf (k + 1) s f r bb ∧ r.tr ≤ k ∧ Below H w wr
/-- A new reader in the place of an old one. -/
theorem St.anew {H : Nat} {w w' : World} {q : Sb} {cf : Cfg} {C : Nat} {s : Wr} {f : Nat → Int} {r : Rd} {b : Nat} (h : St H w q cf C s f r b) (hR : ReaderAt w' w.heap.size ((rd0 cf.at' cf.n).k.ph : Nat) (rd0 cf.at' cf.n)) (hB : Below w.heap.size w w') :
    St H w' ⟨q.g, q.b, q.n, q.B, w.heap.size, q.A, q.ca⟩ cf C s f (rd0 cf.at' cf.n) b := by
  have hk := h.keep hB
  obtain ⟨c, _, _, hm⟩ := h.sq.mem
  have h1 := hm.ltg
  have h2 := hm.row.lt
  have h3 := h.sq.wr.k.lt
  have h4 := h.sq.hs
  have h5 := h.sq.ne
  have h6 := h.sq.lo
  refine ⟨⟨hk.sq.mem, hk.sq.wr, hR, hk.sq.gok, hk.sq.wf, hk.sq.vf, ⟨h6.1, h6.2.1, h6.2.2.1, h4, h6.2.2.2.2⟩, ⟨h5.1, h5.2.1, by show q.g ≠ w.heap.size; omega, by show q.b ≠ w.heap.size; omega, by show q.B ≠ w.heap.size; omega⟩, fun x o e => ?_, hk.sq.n1⟩, h.wi, rinv0 cf q.n h.ok s f b h.ri.bw, h.ok⟩
  have h7 := h.sq.of x o e
  refine ⟨h7.1, h7.2.1, h7.2.2.1, ?_⟩
  show x ≠ w.heap.size
  by_cases hl : 0 < s.L * s.k.n
  · obtain ⟨b', o', e', hc⟩ := h.sq.wr.us 0 hl
    rw [e] at e'
    injection e' with e'
    injection e' with e1
    subst e1
    have := cell_lt hc
    simp at this
    omega
  · have h8 := h.wi.en
    have h9 := h.wi.eL
    have := h.ok.n1
    have := h.ok.L1
    rw [h8, h9] at hl
    exact absurd (Nat.mul_pos (by omega) (by omega)) hl
set_option maxHeartbeats 8000000 in
set_option maxRecDepth 100000 in
theorem walk_whole (x : Int) (A : Option Addr) (L ca : Nat) (F : Nat → Ver) (P : Option Addr) (np cp : Nat) (pk : Nat → Int) (w : World) (hG : GOk w) (hx : 0 ≤ x ∧ x < 4294967296) (hV : VersN w.heap.size w A L F) (hwf : ∀ i, i < L → Wf (F i).n (F i).v) (hL2 : L ≤ 2000000) (hbk : ∀ n, (∀ i, i < L → (F i).n = n) → L * n ≤ 2000000) (hP : ArgN .u8 w.heap.size w P np pk) (hpk : ∀ i, i < np → 0 ≤ pk i ∧ pk i < 256) (_ : np ≤ 1000000000000000) :
    Calls Tryd.prog 4 #[.int .u32 x, .slice A L ca, .slice P np cp] w fun e w' => e = .returned (.bool true) ∧ Below w.heap.size w w' := by
  have h6 := six_of hG
  have HG := Lib.hid hG
  have HN := Lib.hid (new_one 60 (by omega) (by omega) 60 rfl w)
  have HV := Lib.hid hV
  have HWF := Lib.hid hwf
  have HBK := Lib.hid hbk
  have HC0 := Lib.hid (andNot_even x hx)
  have HP := Lib.hid hP
  have HPK := Lib.hid hpk
  clear hG hV hwf hbk hx hP hpk
  by_cases hL0 : L = 0
  · subst hL0
    go_enter Tryd.func4, Tryd.ntmps4
    go_wp2_with fail
    with_reducible refine HN.out.mono ?_
    rintro e w1 ⟨g, b, rfl, _, _, _, hB1⟩
    have HB1 := Lib.hid hB1
    clear hB1 HN
    go_wp2_with fail
    refine (neww_nil 0 A ca (fun _ => 0) w1).mono ?_
    rintro e w2 ⟨rfl, _, hB2, _⟩
    have HB2 := Lib.hid (HB1.out.trans (hB2.mono HB1.out.size))
    clear hB2
    go_wp2_with fail
    refine (awake_any w2 (HG.out.keep HB2.out)).mono ?_
    rintro e w3 ⟨rfl, hB3⟩
    have HB3 := Lib.hid (HB2.out.trans (hB3.mono HB2.out.size))
    clear hB3
    go_wp2_with fail
    refine (few_yes A 0 ca F w3 ((HV.out.keep HB3.out).up HB3.out.size) ⟨by omega, fun i hi => absurd hi (by omega)⟩).mono ?_
    rintro e x1 ⟨rfl, rfl⟩
    go_wp2_with fail
    refine (awake_any w3 (HG.out.keep HB3.out)).mono ?_
    rintro e w4 ⟨rfl, hB4⟩
    have HB4 := Lib.hid (HB3.out.trans (hB4.mono HB3.out.size))
    clear hB4
    go_wp2_with fail
    go_ret
    exact ⟨rfl, HB4.out⟩
  · have hLz : ((L : Int) == 0) = false := beq_false_of_ne (by omega)
    have hLp : (0 : Int) < L := by omega
    go_enter Tryd.func4, Tryd.ntmps4
    go_wp2_with fail
    with_reducible refine HN.out.mono ?_
    rintro e w1 ⟨g, b, rfl, hM1, hg1, hb1, hB1⟩
    have HM1 := Lib.hid hM1
    have HI := Lib.hid (And.intro hg1 hb1)
    have HB1 := Lib.hid hB1
    clear hM1 hg1 hb1 hB1 HN
    go_wp2_with fail
    refine (neww_any 0 A L ca F w1 ((HV.out.keep HB1.out).up HB1.out.size) (by omega) (fun h => HBK.out _ fun i hi => (h i hi).2) hL2 (by omega)).mono ?_
    rintro e w2 ⟨hB2, h2⟩
    have HB2 := Lib.hid (HB1.out.trans (hB2.mono HB1.out.size))
    rcases h2 with ⟨hok, B, G, cap, rfl, hB, hG1, hG2, hB', hW⟩ | ⟨_, rfl⟩
    · have HM2 := Lib.hid (HM1.out.keep hB2)
      have HLT := Lib.hid (And.intro HM1.out.ltg HM1.out.row.lt)
      have HOK := Lib.hid hok
      have HW2 := Lib.hid hW
      have HO2 := Lib.hid (And.intro hG1 (And.intro hG2 hB'))
      clear hB2 hok hB hG1 hG2 hB' hW HM1
      go_wp2_with fail
      refine (awake_any w2 (HG.out.keep HB2.out)).mono ?_
      rintro e w3 ⟨rfl, hB3⟩
      have HB3 := Lib.hid (HB2.out.trans (hB3.mono HB2.out.size))
      go_wp2_with fail
      by_cases hfew : FewV L F
      · refine (few_yes A L ca F w3 ((HV.out.keep HB3.out).up HB3.out.size) hfew).mono ?_
        rintro e x1 ⟨rfl, rfl⟩
        have HFEW := Lib.hid hfew
        clear hfew
        obtain ⟨vb, vo, rfl⟩ := HV.out.head (i := 0) (by omega)
        have hv0 := (HV.out.keep HB3.out).cell (i := 0) (by omega)
        rw [Nat.add_zero] at hv0
        have hok0 := HOK.out 0 (by omega)
        obtain ⟨n, hn⟩ : ∃ n, n = (F 0).n := ⟨_, rfl⟩
        rw [← hn] at hv0
        have hn1 : 1 ≤ n ∧ n ≤ 32 := by rw [hn]; exact hok0.1
        have HNN : Hid (∀ i, i < L → (F i).n = n) := Lib.hid fun i hi => by rw [hn]; exact (HOK.out i hi).2
        have HW3 : Hid (WriterAt w3 B ((wr0 0 n L (flatV n F)).k.ph : Nat) (some ⟨G, 0, none⟩) cap (wr0 0 n L (flatV n F))) := Lib.hid (by rw [hn]; exact HW2.out.keep hB3)
        have HM3 := Lib.hid (HM2.out.keep hB3)
        have HO3 : Hid (g < G ∧ b < G ∧ G < B ∧ B < w3.heap.size) := Lib.hid (by have := HLT.out; have := HO2.out; have := hB3.size; omega)
        have HN1 := Lib.hid hn1
        clear hok0 hn hn1 hB3 HM2 HW2 HO2
        have ho : Cfg.Ok ⟨0, n, L, F, bits .andNot .u32 x 1⟩ 60 := ⟨HN1.out.1, by have := HN1.out.2; show 0 + n < 60; omega, by show 1 ≤ L; omega, by have := HFEW.out.1; show L ≤ 1000000; omega, HC0.out⟩
        have HOO := Lib.hid ho
        have hVF : Wf (L * n) (flatV n F) := flat_wf HN1.out.1 fun i hi => by have := HWF.out i hi; rw [HNN.out i hi] at this; exact this
        have HVF := Lib.hid hVF
        clear ho hVF
        go_wp2_with fail
        refine (newr_yes 0 n n w3 rfl HN1.out.1 HN1.out.2 (by omega)).mono ?_
        rintro e w4 ⟨rfl, hR, hB4, _⟩
        have HB4 := Lib.hid (HB3.out.trans (hB4.mono HB3.out.size))
        have HM4 := Lib.hid (HM3.out.keep hB4)
        have HW4 := Lib.hid (HW3.out.keep hB4)
        obtain ⟨R0, hRR⟩ : ∃ R, R = w3.heap.size := ⟨_, rfl⟩
        have HR4 : Hid (ReaderAt w4 R0 ((rd0 0 n).k.ph : Nat) (rd0 0 n)) := Lib.hid (by rw [hRR]; exact hR)
        have HO4 : Hid (g < G ∧ b < G ∧ G < B ∧ B < R0) := Lib.hid (by rw [hRR]; exact HO3.out)
        rw [← hRR]
        clear hR hB4 HM3 HW3 HO3 hRR hv0
        go_wp2_with fail
        refine (st_new HM4.out HW4.out HR4.out (HG.out.keep HB4.out) HVF.out h6 ⟨HI.out.1, HI.out.2, HO4.out.1, HO4.out.2.1, HO4.out.2.2.1, HO4.out.2.2.2⟩ HOO.out 0 rfl).mono ?_
        rintro e w5 ⟨rfl, hS5, hB5⟩
        have HS5 := Lib.hid hS5
        have HB5 := Lib.hid (HB4.out.trans hB5)
        clear hS5 hB5 HM4 HW4 HR4
        go_wp2_with fail
        go_loopw [12, 14, 15, 16] (fun rp le dn i wr => WRel w.heap.size np g b B (some ⟨G, 0, none⟩) cap ⟨0, n, L, F, bits .andNot .u32 x 1⟩ w rp le dn i wr) (fun _ _ _ i _ => np - (intOf i).toNat)
        case atStart => exact ⟨0, R0, _, _, _, 0, Nat.zero_le _, by omega, rfl, rfl, rfl, rfl, HS5.out, Nat.zero_le _, HB5.out⟩
        case round =>
          obtain ⟨k, R, s, f, r, bb, hk, hk3, rfl, rfl, rfl, rfl, hS, htr, hB⟩ := hrel
          have HS := Lib.hid hS
          have HB := Lib.hid hB
          clear hS hB
          by_cases hlt : k < np ∧ k < 300
          · obtain ⟨hl1, hl2⟩ := hlt
            have hl3 : (k : Int) < np := by omega
            have hl4 : (k : Int) < 300 := by omega
            obtain ⟨pb, po, rfl⟩ := HP.out.head hl1
            have cp1 := (HP.out.keep HB.out).cell hl1
            have hb := u8_and1 _ (HPK.out k hl1)
            by_cases hpk : pk k % 2 = 0
            · rw [hpk] at hb
              clear hpk
              go_wp2_with fail
              refine (st_write HS.out (by omega)).mono ?_
              rintro e w6 ⟨rfl, hS6, hB6⟩
              have HS6 := Lib.hid hS6
              have HB6 := Lib.hid (HB.out.trans hB6)
              clear hS6 hB6
              go_wp2_with fail
              go_roundw
              case rel => exact ⟨k + 1, R, _, _, r, bb, by omega, by omega, rfl, rfl, rfl, by go_num, HS6.out, by omega, HB6.out⟩
              case measure => simp [intOf]; omega
            · have hpk1 : pk k % 2 = 1 := by omega
              rw [hpk1] at hb
              clear hpk hpk1
              go_wp2_with fail
              refine (sq_tries HS.out.sq _ rfl).mono ?_
              rintro e x1 ⟨rfl, rfl⟩
              by_cases hdn : r.k.ph = 3
              · rw [decide_eq_true hdn]
                have HDN := Lib.hid hdn
                clear hdn
                go_wp2_with fail
                refine (newr_yes 0 n n _ rfl HN1.out.1 HN1.out.2 (by omega)).mono ?_
                rintro e w6 ⟨rfl, hR6, hB6, _⟩
                obtain ⟨R6, hRR6⟩ : ∃ R6, R6 = wr.heap.size := ⟨_, rfl⟩
                have HS6 : Hid (St w.heap.size w6 ⟨g, b, 60, B, R6, some ⟨G, 0, none⟩, cap⟩ ⟨0, n, L, F, bits .andNot .u32 x 1⟩ (k + 1) s f (rd0 0 n) bb) := Lib.hid (by rw [hRR6]; exact St.anew HS.out hR6 hB6)
                rw [← hRR6]
                have HB6 := Lib.hid (HB.out.trans (hB6.mono HB.out.size))
                have HTRK : Hid ((rd0 0 n).tr ≤ k) := Lib.hid (Nat.zero_le _)
                clear hR6 hB6 hRR6
                go_wp2_with fail
                have hp3 : Hid (decide (3 ≤ ((rd0 0 n).step 60 f).k.ph) = decide (((rd0 0 n).step 60 f).k.ph = 3)) := by
                  have h2 : ((rd0 0 n).step 60 f).k.ph ≤ 3 := by
                    rcases HS6.out.ri.read HS6.out.wi HS6.out.ok with ⟨_, h⟩ | ⟨_, _, h, _⟩ <;> exact h.p3
                  exact Lib.hid (decide_eq_decide.2 (by omega))
                obtain ⟨d, hd⟩ : ∃ d, decide (3 ≤ ((rd0 0 n).step 60 f).k.ph) = d := ⟨_, rfl⟩
                obtain ⟨r', hr'⟩ : ∃ r', (rd0 0 n).step 60 f = r' := ⟨_, rfl⟩
                have hrd := st_read HS6.out (by omega) (by have := HTRK.out; omega) d hd
                have hrd2 : Hid _ := Lib.hid hrd
                clear hrd
                go_wp2_with fail
                refine hrd2.out.mono ?_
                rintro e w7 ⟨rfl, hB7, b2, hS7, hcase⟩
                have HB7 := Lib.hid (HB6.out.trans hB7)
                have hcase : (r'.tr = (rd0 0 n).tr ∧ b2 = bb) ∨ ((rd0 0 n).k.ph = 0 ∧ r'.tr = (rd0 0 n).tr + 1 ∧ b2 = s.wr ∧ r'.k.ph = 1) := by rw [← hr']; exact hcase
                have hS7 : St w.heap.size w7 ⟨g, b, 60, B, R6, some ⟨G, 0, none⟩, cap⟩ ⟨0, n, L, F, bits .andNot .u32 x 1⟩ (k + 1 + 1) s f r' b2 := by rw [← hr']; exact hS7
                have HS7 := Lib.hid hS7
                have HD : Hid (decide (r'.k.ph = 3) = d) := Lib.hid (by rw [← hr', ← hp3.out]; exact hd)
                have HTR7 : Hid (r'.tr ≤ k + 1) := Lib.hid (by have := HTRK.out; rcases hcase with h | h <;> omega)
                clear hB7 hS7 hd hp3 hrd2 hr'
                go_wp2_with fail
                refine (sq_tries HS7.out.sq _ rfl).mono ?_
                rintro e x2 ⟨rfl, rfl⟩
                rcases hcase with ⟨ht, rfl⟩ | ⟨hr0, ht, rfl, hr1⟩
                · rw [ht]
                  have HT := Lib.hid ht
                  clear ht
                  go_wp2_with fail
                  cases d with
                  | true =>
                    have h3 : r'.k.ph = 3 := of_decide_eq_true HD.out
                    have hws := Lib.hid (HS7.out.ri.w3 h3)
                    have hen : (r').k.n = n := HS7.out.ri.en
                    have HBW := Lib.hid HS7.out.ri.bw
                    have HWL := Lib.hid HS7.out.wi.wl.1
                    have hsw : s.wr ≤ 10 := by have h5 : s.wr ≤ L := HWL.out; have := HFEW.out.1; omega
                    have hn32 : n ≤ 32 := HN1.out.2
                    refine (sq_got_yes HS7.out.sq h3).mono ?_
                    rintro e w9 ⟨dd, rfl, hrow, _, _, hB9⟩
                    rw [hen]
                    have HS9 := Lib.hid (HS7.out.keep hB9)
                    have HB9 := Lib.hid (HB7.out.trans (hB9.mono HB7.out.size))
                    have HROW := Lib.hid hrow
                    have HV9 := Lib.hid (HV.out.keep HB9.out)
                    clear hB9 h3 hrow hen
                    go_wp2_with fail
                    go_loopw [20, 21] (fun fo ko wr => ∃ (kk : Nat) (y : Bool), b2 ≤ kk ∧ kk ≤ s.wr + 1 ∧ ko = .int .i64 kk ∧ fo = .bool y ∧ (b2 < kk → y = true) ∧ Below w9.heap.size w9 wr) (fun _ ko _ => s.wr + 1 - (intOf ko).toNat)
                    case atStart => exact ⟨b2, false, Nat.le_refl _, by have := HBW.out; omega, rfl, rfl, fun h => absurd h (by omega), Below.refl _ _⟩
                    case round =>
                      obtain ⟨kk, y, hk1, hk2, rfl, rfl, hy, hB⟩ := hrel
                      have HY := Lib.hid hy
                      have HBk := Lib.hid hB
                      clear hy hB
                      by_cases hle : kk ≤ s.wr
                      · have hle' : (kk : Int) ≤ s.wr := by omega
                        go_wp2_with fail
                        refine (sq_written (HS9.out.keep HBk.out).sq _ rfl).mono ?_
                        rintro e y1 ⟨rfl, rfl⟩
                        go_wp2_with fail
                        go_loopw [22, 23] (fun sm jo wr => ∃ (jj : Nat) (y2 : Bool), jj ≤ n ∧ jo = .int .i64 jj ∧ sm = .bool y2 ∧ (kk = b2 → y2 = true) ∧ Below w9.heap.size w9 wr) (fun _ jo _ => n - (intOf jo).toNat)
                        case atStart => exact ⟨0, true, Nat.zero_le _, rfl, rfl, fun _ => rfl, HBk.out⟩
                        case round =>
                          obtain ⟨jj, y2, hj1, rfl, rfl, hy2, hB⟩ := hrel
                          have HY2 := Lib.hid hy2
                          have HBj := Lib.hid hB
                          by_cases hjl : jj < n
                          · have hjl' : (jj : Int) < n := by omega
                            have hj0 : (0 : Int) ≤ jj := by omega
                            have hcell := kept (HROW.out.cell (i := jj) (by have := HN1.out.2; omega)) hB
                            have hver := fun W (hW : Below w9.heap.size w9 W) => version_any (some ⟨vb, vo, none⟩) L ca kk jj F W ((HV9.out.keep (hW.mono HB9.out.size)).up (Nat.le_trans HB9.out.size hW.size)) (by have := HWL.out; have h5 : s.wr ≤ L := this; omega) (by have := HFEW.out.1; omega) (fun h0 => by rw [HNN.out (kk - 1) (by have := HWL.out; have h5 : s.wr ≤ L := this; omega)]; exact hjl) (by have := HN1.out.2; omega)
                            have HVER := Lib.hid hver
                            clear hy2 hB hver
                            cases y2 with
                            | false =>
                              go_wp2_with fail
                              go_quiet (fail)
                              go_wp2_with fail
                              go_roundw
                              case rel => exact ⟨jj + 1, false, by omega, by go_num, rfl, HY2.out, below_drewN HBj.out _⟩
                              case measure => simp [intOf]; omega
                            | true =>
                              go_wp2_with fail
                              go_quiet (first | (go_at_call 26; exact Calls.quiet_of_same ((HVER.out _ (below_drewN HBj.out _)).mono fun e w' h => ⟨h.1, h.2.symm⟩)))
                              go_wp2_with fail
                              go_roundw
                              case rel => exact ⟨jj + 1, _, by omega, by go_num, rfl, fun hkb => by rw [hkb, hws.out jj hjl]; exact beq_self_eq_true _, below_drewN HBj.out _⟩
                              case measure => simp [intOf]; omega
                          · clear hy2 hB
                            cases y with
                            | false =>
                              go_wp2_with fail
                              go_roundw
                              case rel => exact ⟨kk + 1, y2, by omega, by omega, by go_num, rfl, fun hlt2 => by
                                rcases Nat.lt_or_ge b2 kk with h | h
                                · exact absurd (HY.out h) (by decide)
                                · exact HY2.out (by omega), HBj.out⟩
                              case measure => simp [intOf]; omega
                            | true =>
                              go_wp2_with fail
                              go_roundw
                              case rel => exact ⟨kk + 1, true, by omega, by omega, by go_num, rfl, fun _ => rfl, HBj.out⟩
                              case measure => simp [intOf]; omega
                      · have hle' : ¬ ((kk : Int) ≤ s.wr) := by omega
                        have hyt := HY.out (by have := HBW.out; omega)
                        subst hyt
                        go_wp2_with fail
                        refine (sq_written (HS9.out.keep HBk.out).sq _ rfl).mono ?_
                        rintro e y1 ⟨rfl, rfl⟩
                        go_wp2_with fail
                        go_roundw
                        case rel => exact ⟨k + 1, R6, s, f, r', _, by omega, by omega, rfl, rfl, by rw [HD.out], by go_num, HS9.out.keep HBk.out, HTR7.out, HB9.out.trans (HBk.out.mono HB9.out.size)⟩
                        case measure => simp [intOf]; omega
                  | false =>
                    have h3 : r'.k.ph ≠ 3 := of_decide_eq_false HD.out
                    refine (sq_got_no HS7.out.sq h3).mono ?_
                    rintro e x3 ⟨rfl, rfl⟩
                    have HN3 := Lib.hid h3
                    clear h3
                    go_wp2_with fail
                    go_roundw
                    case rel => exact ⟨k + 1, R6, s, f, r', _, by omega, by omega, rfl, rfl, by rw [HD.out], by go_num, HS7.out, HTR7.out, HB7.out⟩
                    case measure => simp [intOf]; omega
                · have hd0 : d = false := by rw [← HD.out, hr1]; rfl
                  subst hd0
                  have hrt : (r'.tr : Int) = ((rd0 0 n).tr : Int) + 1 := by omega
                  have hgt : ((rd0 0 n).tr : Int) < r'.tr := by omega
                  have HR1 := Lib.hid hr1
                  clear hrt hr0 hr1 ht
                  go_wp2_with fail
                  refine (sq_written HS7.out.sq _ rfl).mono ?_
                  rintro e x4 ⟨rfl, rfl⟩
                  go_wp2_with fail
                  refine (sq_got_no HS7.out.sq (by rw [HR1.out]; omega)).mono ?_
                  rintro e x5 ⟨rfl, rfl⟩
                  go_wp2_with fail
                  go_roundw
                  case rel => exact ⟨k + 1, R6, s, f, r', s.wr, by omega, by omega, rfl, rfl, by rw [HD.out], by go_num, HS7.out, HTR7.out, HB7.out⟩
                  case measure => simp [intOf]; omega
              · rw [decide_eq_false hdn]
                have HDN := Lib.hid hdn
                have HTRK := Lib.hid htr
                clear hdn
                have hp3 : Hid (decide (3 ≤ ((r).step 60 f).k.ph) = decide (((r).step 60 f).k.ph = 3)) := by
                  have h2 : ((r).step 60 f).k.ph ≤ 3 := by
                    rcases HS.out.ri.read HS.out.wi HS.out.ok with ⟨_, h⟩ | ⟨_, _, h, _⟩ <;> exact h.p3
                  exact Lib.hid (decide_eq_decide.2 (by omega))
                obtain ⟨d, hd⟩ : ∃ d, decide (3 ≤ ((r).step 60 f).k.ph) = d := ⟨_, rfl⟩
                obtain ⟨r', hr'⟩ : ∃ r', (r).step 60 f = r' := ⟨_, rfl⟩
                have hrd := st_read HS.out (by omega) (by have := HTRK.out; omega) d hd
                have hrd2 : Hid _ := Lib.hid hrd
                clear hrd
                go_wp2_with fail
                refine hrd2.out.mono ?_
                rintro e w7 ⟨rfl, hB7, b2, hS7, hcase⟩
                have HB7 := Lib.hid (HB.out.trans hB7)
                have hcase : (r'.tr = (r).tr ∧ b2 = bb) ∨ ((r).k.ph = 0 ∧ r'.tr = (r).tr + 1 ∧ b2 = s.wr ∧ r'.k.ph = 1) := by rw [← hr']; exact hcase
                have hS7 : St w.heap.size w7 ⟨g, b, 60, B, R, some ⟨G, 0, none⟩, cap⟩ ⟨0, n, L, F, bits .andNot .u32 x 1⟩ (k + 1 + 1) s f r' b2 := by rw [← hr']; exact hS7
                have HS7 := Lib.hid hS7
                have HD : Hid (decide (r'.k.ph = 3) = d) := Lib.hid (by rw [← hr', ← hp3.out]; exact hd)
                have HTR7 : Hid (r'.tr ≤ k + 1) := Lib.hid (by have := HTRK.out; rcases hcase with h | h <;> omega)
                clear hB7 hS7 hd hp3 hrd2 hr'
                go_wp2_with fail
                refine (sq_tries HS7.out.sq _ rfl).mono ?_
                rintro e x2 ⟨rfl, rfl⟩
                rcases hcase with ⟨ht, rfl⟩ | ⟨hr0, ht, rfl, hr1⟩
                · rw [ht]
                  have HT := Lib.hid ht
                  clear ht
                  go_wp2_with fail
                  cases d with
                  | true =>
                    have h3 : r'.k.ph = 3 := of_decide_eq_true HD.out
                    have hws := Lib.hid (HS7.out.ri.w3 h3)
                    have hen : (r').k.n = n := HS7.out.ri.en
                    have HBW := Lib.hid HS7.out.ri.bw
                    have HWL := Lib.hid HS7.out.wi.wl.1
                    have hsw : s.wr ≤ 10 := by have h5 : s.wr ≤ L := HWL.out; have := HFEW.out.1; omega
                    have hn32 : n ≤ 32 := HN1.out.2
                    refine (sq_got_yes HS7.out.sq h3).mono ?_
                    rintro e w9 ⟨dd, rfl, hrow, _, _, hB9⟩
                    rw [hen]
                    have HS9 := Lib.hid (HS7.out.keep hB9)
                    have HB9 := Lib.hid (HB7.out.trans (hB9.mono HB7.out.size))
                    have HROW := Lib.hid hrow
                    have HV9 := Lib.hid (HV.out.keep HB9.out)
                    clear hB9 h3 hrow hen
                    go_wp2_with fail
                    go_loopw [20, 21] (fun fo ko wr => ∃ (kk : Nat) (y : Bool), b2 ≤ kk ∧ kk ≤ s.wr + 1 ∧ ko = .int .i64 kk ∧ fo = .bool y ∧ (b2 < kk → y = true) ∧ Below w9.heap.size w9 wr) (fun _ ko _ => s.wr + 1 - (intOf ko).toNat)
                    case atStart => exact ⟨b2, false, Nat.le_refl _, by have := HBW.out; omega, rfl, rfl, fun h => absurd h (by omega), Below.refl _ _⟩
                    case round =>
                      obtain ⟨kk, y, hk1, hk2, rfl, rfl, hy, hB⟩ := hrel
                      have HY := Lib.hid hy
                      have HBk := Lib.hid hB
                      clear hy hB
                      by_cases hle : kk ≤ s.wr
                      · have hle' : (kk : Int) ≤ s.wr := by omega
                        go_wp2_with fail
                        refine (sq_written (HS9.out.keep HBk.out).sq _ rfl).mono ?_
                        rintro e y1 ⟨rfl, rfl⟩
                        go_wp2_with fail
                        go_loopw [22, 23] (fun sm jo wr => ∃ (jj : Nat) (y2 : Bool), jj ≤ n ∧ jo = .int .i64 jj ∧ sm = .bool y2 ∧ (kk = b2 → y2 = true) ∧ Below w9.heap.size w9 wr) (fun _ jo _ => n - (intOf jo).toNat)
                        case atStart => exact ⟨0, true, Nat.zero_le _, rfl, rfl, fun _ => rfl, HBk.out⟩
                        case round =>
                          obtain ⟨jj, y2, hj1, rfl, rfl, hy2, hB⟩ := hrel
                          have HY2 := Lib.hid hy2
                          have HBj := Lib.hid hB
                          by_cases hjl : jj < n
                          · have hjl' : (jj : Int) < n := by omega
                            have hj0 : (0 : Int) ≤ jj := by omega
                            have hcell := kept (HROW.out.cell (i := jj) (by have := HN1.out.2; omega)) hB
                            have hver := fun W (hW : Below w9.heap.size w9 W) => version_any (some ⟨vb, vo, none⟩) L ca kk jj F W ((HV9.out.keep (hW.mono HB9.out.size)).up (Nat.le_trans HB9.out.size hW.size)) (by have := HWL.out; have h5 : s.wr ≤ L := this; omega) (by have := HFEW.out.1; omega) (fun h0 => by rw [HNN.out (kk - 1) (by have := HWL.out; have h5 : s.wr ≤ L := this; omega)]; exact hjl) (by have := HN1.out.2; omega)
                            have HVER := Lib.hid hver
                            clear hy2 hB hver
                            cases y2 with
                            | false =>
                              go_wp2_with fail
                              go_quiet (fail)
                              go_wp2_with fail
                              go_roundw
                              case rel => exact ⟨jj + 1, false, by omega, by go_num, rfl, HY2.out, below_drewN HBj.out _⟩
                              case measure => simp [intOf]; omega
                            | true =>
                              go_wp2_with fail
                              go_quiet (first | (go_at_call 26; exact Calls.quiet_of_same ((HVER.out _ (below_drewN HBj.out _)).mono fun e w' h => ⟨h.1, h.2.symm⟩)))
                              go_wp2_with fail
                              go_roundw
                              case rel => exact ⟨jj + 1, _, by omega, by go_num, rfl, fun hkb => by rw [hkb, hws.out jj hjl]; exact beq_self_eq_true _, below_drewN HBj.out _⟩
                              case measure => simp [intOf]; omega
                          · clear hy2 hB
                            cases y with
                            | false =>
                              go_wp2_with fail
                              go_roundw
                              case rel => exact ⟨kk + 1, y2, by omega, by omega, by go_num, rfl, fun hlt2 => by
                                rcases Nat.lt_or_ge b2 kk with h | h
                                · exact absurd (HY.out h) (by decide)
                                · exact HY2.out (by omega), HBj.out⟩
                              case measure => simp [intOf]; omega
                            | true =>
                              go_wp2_with fail
                              go_roundw
                              case rel => exact ⟨kk + 1, true, by omega, by omega, by go_num, rfl, fun _ => rfl, HBj.out⟩
                              case measure => simp [intOf]; omega
                      · have hle' : ¬ ((kk : Int) ≤ s.wr) := by omega
                        have hyt := HY.out (by have := HBW.out; omega)
                        subst hyt
                        go_wp2_with fail
                        refine (sq_written (HS9.out.keep HBk.out).sq _ rfl).mono ?_
                        rintro e y1 ⟨rfl, rfl⟩
                        go_wp2_with fail
                        go_roundw
                        case rel => exact ⟨k + 1, R, s, f, r', _, by omega, by omega, rfl, rfl, by rw [HD.out], by go_num, HS9.out.keep HBk.out, HTR7.out, HB9.out.trans (HBk.out.mono HB9.out.size)⟩
                        case measure => simp [intOf]; omega
                  | false =>
                    have h3 : r'.k.ph ≠ 3 := of_decide_eq_false HD.out
                    refine (sq_got_no HS7.out.sq h3).mono ?_
                    rintro e x3 ⟨rfl, rfl⟩
                    have HN3 := Lib.hid h3
                    clear h3
                    go_wp2_with fail
                    go_roundw
                    case rel => exact ⟨k + 1, R, s, f, r', _, by omega, by omega, rfl, rfl, by rw [HD.out], by go_num, HS7.out, HTR7.out, HB7.out⟩
                    case measure => simp [intOf]; omega
                · have hd0 : d = false := by rw [← HD.out, hr1]; rfl
                  subst hd0
                  have hrt : (r'.tr : Int) = ((r).tr : Int) + 1 := by omega
                  have hgt : ((r).tr : Int) < r'.tr := by omega
                  have HR1 := Lib.hid hr1
                  clear hrt hr0 hr1 ht
                  go_wp2_with fail
                  refine (sq_written HS7.out.sq _ rfl).mono ?_
                  rintro e x4 ⟨rfl, rfl⟩
                  go_wp2_with fail
                  refine (sq_got_no HS7.out.sq (by rw [HR1.out]; omega)).mono ?_
                  rintro e x5 ⟨rfl, rfl⟩
                  go_wp2_with fail
                  go_roundw
                  case rel => exact ⟨k + 1, R, s, f, r', s.wr, by omega, by omega, rfl, rfl, by rw [HD.out], by go_num, HS7.out, HTR7.out, HB7.out⟩
                  case measure => simp [intOf]; omega
          · have hge : (np : Int) ≤ k ∨ (300 : Int) ≤ k := by omega
            rcases hge with hge | hge
            · go_wp2_with fail
              go_ret
              exact ⟨rfl, HB.out⟩
            · by_cases hge2 : (np : Int) ≤ k
              · go_wp2_with fail
                go_ret
                exact ⟨rfl, HB.out⟩
              · go_wp2_with fail
                go_ret
                exact ⟨rfl, HB.out⟩
      · refine (few_no A L ca F w3 ((HV.out.keep HB3.out).up HB3.out.size) hfew).mono ?_
        rintro e x1 ⟨rfl, rfl⟩
        clear hB3
        go_wp2_with fail
        refine (awake_any w3 (HG.out.keep HB3.out)).mono ?_
        rintro e w4 ⟨rfl, hB4⟩
        have HB4 := Lib.hid (HB3.out.trans (hB4.mono HB3.out.size))
        clear hB4
        go_wp2_with fail
        go_ret
        exact ⟨rfl, HB4.out⟩
    · clear hB2 HM1
      go_wp2_with fail
      refine (awake_any w2 (HG.out.keep HB2.out)).mono ?_
      rintro e w3 ⟨rfl, hB3⟩
      have HB3 := Lib.hid (HB2.out.trans (hB3.mono HB2.out.size))
      clear hB3
      go_wp2_with fail
      by_cases hfew : FewV L F
      · refine (few_yes A L ca F w3 ((HV.out.keep HB3.out).up HB3.out.size) hfew).mono ?_
        rintro e x1 ⟨rfl, rfl⟩
        go_wp2_with fail
        refine (awake_any w3 (HG.out.keep HB3.out)).mono ?_
        rintro e w4 ⟨rfl, hB4⟩
        have HB4 := Lib.hid (HB3.out.trans (hB4.mono HB3.out.size))
        clear hB4
        go_wp2_with fail
        go_ret
        exact ⟨rfl, HB4.out⟩
      · refine (few_no A L ca F w3 ((HV.out.keep HB3.out).up HB3.out.size) hfew).mono ?_
        rintro e x1 ⟨rfl, rfl⟩
        go_wp2_with fail
        refine (awake_any w3 (HG.out.keep HB3.out)).mono ?_
        rintro e w4 ⟨rfl, hB4⟩
        have HB4 := Lib.hid (HB3.out.trans (hB4.mono HB3.out.size))
        clear hB4
        go_wp2_with fail
        go_ret
        exact ⟨rfl, HB4.out⟩
end Go.Proofs.YtoaaeamogpdcgaaDoor
