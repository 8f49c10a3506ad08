/-
  SeqlockCalm answers true.
-/
import Derived.Test.YtoaaeamogpdcgaaDoorCalmA
namespace Go.Proofs.YtoaaeamogpdcgaaDoor
open Go.RowKit

theorem sq_loadE {H : Nat} {w : World} {q : Sb} {f : Nat → Int} {C : Nat} {s : Wr} {r : Rd} (h : Sq H w q f C s r) (hC : C ≤ 1000000) (i : Nat) (a : Int) (ha : a = i) (hi : i < q.n) :
    Calls Tryd.prog 27 #[.pointer (some ⟨q.g, 0, none⟩), .int .i64 a] w fun e w' => e = .returned (.tuple #[.int .u32 (f i), .int .i64 0]) ∧ Else q.g q.b w w' := by
  obtain ⟨c, c0, c1, hm⟩ := h.mem
  subst ha
  exact (load_yes i q.g q.b q.n f c w h.gok hm h.n1 hi (by omega)).mono fun e w' ⟨he, _, hE⟩ => ⟨he, hE⟩
theorem mw_store {H : Nat} {w : World} {g b n B : Nat} {A : Option Addr} {ca : Nat} {f : Nat → Int} {C : Nat} {s : Wr} (h : Mw H w g b n B A ca f C s) (hC : C ≤ 1000000) (i : Nat) (a v : Int) (ha : a = i) (hi : i < n) (hv : 0 ≤ v ∧ v < 4294967296) :
    Calls Tryd.prog 15 #[.pointer (some ⟨g, 0, none⟩), .int .i64 a, .int .u32 v] w fun e w' => e = .returned (.int .i64 0) ∧ Mw H w' g b n B A ca (upd f i v) (C + 1) s ∧ Below H w w' := by
  obtain ⟨c, c0, c1, hm⟩ := h.mem
  subst ha
  refine (store_yes v i g b n f c w h.gok hm h.n1 hi (by omega)).mono ?_
  rintro e w' ⟨he, hm', hE⟩
  have hC' := Chg.of_else hE
  refine ⟨he, ⟨⟨c + 1, by omega, by omega, hm'⟩, h.wr.chg hC' (fun hk => ?_) (fun b o e hs => ?_), hC'.six (fun k hk => by have := h.lo; omega) h.gok, wf_upd h.wf i v hv, h.vf, h.lo, h.ne, h.of, h.n1⟩, hC'.below (fun k hk => by have := h.lo; omega) h.hs⟩
  · have := h.ne; omega
  · have := h.of b o e; omega
set_option maxHeartbeats 8000000 in
set_option maxRecDepth 100000 in
theorem walk_calm (x : Int) (A : Option Addr) (L ca : Nat) (F : Nat → Ver) (z : Int) (w : World) (hG : GOk w) (hx : 0 ≤ x ∧ x < 4294967296) (hV : VersN w.heap.size w A L F) (hwf : ∀ i, i < L → Wf (F i).n (F i).v) (hL2 : L ≤ 2000000) (hbk : ∀ n, (∀ i, i < L → (F i).n = n) → L * n ≤ 2000000)  :
    Calls Tryd.prog 5 #[.int .u32 x, .slice A L ca, .int .u8 z] w fun e w' => e = .returned (.bool true) ∧ Below w.heap.size w w' := by
  have h6 := six_of hG
  have HG := Lib.hid hG
  have HN := Lib.hid (new_one 60 (by omega) (by omega) 60 rfl w)
  have HV := Lib.hid hV
  have HWF := Lib.hid hwf
  have HBK := Lib.hid hbk
  have HC0 := Lib.hid (andNot_even x hx)
  clear hG hV hwf hbk hx
  by_cases hL0 : L = 0
  · subst hL0
    go_enter Tryd.func5, Tryd.ntmps5
    go_wp2_with fail
    with_reducible refine HN.out.mono ?_
    rintro e w1 ⟨g, b, rfl, _, _, _, hB1⟩
    have HB1 := Lib.hid hB1
    clear hB1 HN
    go_wp2_with fail
    refine (neww_nil 3 A ca (fun _ => 0) w1).mono ?_
    rintro e w2 ⟨rfl, _, hB2, _⟩
    have HB2 := Lib.hid (HB1.out.trans (hB2.mono HB1.out.size))
    clear hB2
    go_wp2_with fail
    refine (awake_any w2 (HG.out.keep HB2.out)).mono ?_
    rintro e w3 ⟨rfl, hB3⟩
    have HB3 := Lib.hid (HB2.out.trans (hB3.mono HB2.out.size))
    clear hB3
    go_wp2_with fail
    refine (few_yes A 0 ca F w3 ((HV.out.keep HB3.out).up HB3.out.size) ⟨by omega, fun i hi => absurd hi (by omega)⟩).mono ?_
    rintro e x1 ⟨rfl, rfl⟩
    go_wp2_with fail
    refine (awake_any w3 (HG.out.keep HB3.out)).mono ?_
    rintro e w4 ⟨rfl, hB4⟩
    have HB4 := Lib.hid (HB3.out.trans (hB4.mono HB3.out.size))
    clear hB4
    go_wp2_with fail
    go_ret
    exact ⟨rfl, HB4.out⟩
  · have hLz : ((L : Int) == 0) = false := beq_false_of_ne (by omega)
    have hLp : (0 : Int) < L := by omega
    go_enter Tryd.func5, Tryd.ntmps5
    go_wp2_with fail
    with_reducible refine HN.out.mono ?_
    rintro e w1 ⟨g, b, rfl, hM1, hg1, hb1, hB1⟩
    have HM1 := Lib.hid hM1
    have HI := Lib.hid (And.intro hg1 hb1)
    have HB1 := Lib.hid hB1
    clear hM1 hg1 hb1 hB1 HN
    go_wp2_with fail
    refine (neww_any 3 A L ca F w1 ((HV.out.keep HB1.out).up HB1.out.size) (by omega) (fun h => HBK.out _ fun i hi => (h i hi).2) hL2 (by omega)).mono ?_
    rintro e w2 ⟨hB2, h2⟩
    have HB2 := Lib.hid (HB1.out.trans (hB2.mono HB1.out.size))
    rcases h2 with ⟨hok, B, G, cap, rfl, hB, hG1, hG2, hB', hW⟩ | ⟨_, rfl⟩
    · have HM2 := Lib.hid (HM1.out.keep hB2)
      have HLT := Lib.hid (And.intro HM1.out.ltg HM1.out.row.lt)
      have HOK := Lib.hid hok
      have HW2 := Lib.hid hW
      have HO2 := Lib.hid (And.intro hG1 (And.intro hG2 hB'))
      clear hB2 hok hB hG1 hG2 hB' hW HM1
      go_wp2_with fail
      refine (awake_any w2 (HG.out.keep HB2.out)).mono ?_
      rintro e w3 ⟨rfl, hB3⟩
      have HB3 := Lib.hid (HB2.out.trans (hB3.mono HB2.out.size))
      go_wp2_with fail
      by_cases hfew : FewV L F
      · refine (few_yes A L ca F w3 ((HV.out.keep HB3.out).up HB3.out.size) hfew).mono ?_
        rintro e x1 ⟨rfl, rfl⟩
        have HFEW := Lib.hid hfew
        clear hfew
        obtain ⟨vb, vo, rfl⟩ := HV.out.head (i := 0) (by omega)
        have hv0 := (HV.out.keep HB3.out).cell (i := 0) (by omega)
        rw [Nat.add_zero] at hv0
        have hok0 := HOK.out 0 (by omega)
        obtain ⟨n, hn⟩ : ∃ n, n = (F 0).n := ⟨_, rfl⟩
        rw [← hn] at hv0
        have hn1 : 1 ≤ n ∧ n ≤ 32 := by rw [hn]; exact hok0.1
        have HNN : Hid (∀ i, i < L → (F i).n = n) := Lib.hid fun i hi => by rw [hn]; exact (HOK.out i hi).2
        have HW3 : Hid (WriterAt w3 B ((wr0 3 n L (flatV n F)).k.ph : Nat) (some ⟨G, 0, none⟩) cap (wr0 3 n L (flatV n F))) := Lib.hid (by rw [hn]; exact HW2.out.keep hB3)
        have HM3 := Lib.hid (HM2.out.keep hB3)
        have HO3 : Hid (g < G ∧ b < G ∧ G < B ∧ B < w3.heap.size) := Lib.hid (by have := HLT.out; have := HO2.out; have := hB3.size; omega)
        have HN1 := Lib.hid hn1
        clear hok0 hn hn1 hB3 HM2 HW2 HO2
        have ho : Cfg.Ok ⟨3, n, L, F, bits .andNot .u32 x 1⟩ 60 := ⟨HN1.out.1, by have := HN1.out.2; show 3 + n < 60; omega, by show 1 ≤ L; omega, by have := HFEW.out.1; show L ≤ 1000000; omega, HC0.out⟩
        have HOO := Lib.hid ho
        have hVF : Wf (L * n) (flatV n F) := flat_wf HN1.out.1 fun i hi => by have := HWF.out i hi; rw [HNN.out i hi] at this; exact this
        have HVF := Lib.hid hVF
        clear ho hVF
        go_wp2_with fail
        have hM0 : Hid (Mw w.heap.size w3 g b 60 B (some ⟨G, 0, none⟩) cap (fun _ => 0) 0 (wr0 3 n L (flatV n F))) := Lib.hid ⟨⟨0, Int.le_refl _, Int.le_refl _, HM3.out⟩, HW3.out, HG.out.keep HB3.out, fun _ _ => by decide, HVF.out, ⟨HI.out.1, HI.out.2, by have := HO3.out; have := HI.out; omega, h6⟩, by have := HO3.out; omega, fun xx o e => by
          injection e with e; injection e with e1 _
          have := HO3.out; omega, by omega⟩
        refine (mw_store hM0.out (by omega) 3 3 _ rfl (by omega) ⟨HC0.out.1, HC0.out.2.1⟩).mono ?_
        rintro e w4 ⟨rfl, hM4, hB4⟩
        have HM4 := Lib.hid hM4
        have HB4 := Lib.hid (HB3.out.trans hB4)
        have HWI : Hid (WInv ⟨3, n, L, F, bits .andNot .u32 x 1⟩ (wr0 3 n L (flatV n F)) (upd (fun _ => 0) 3 (bits .andNot .u32 x 1))) := Lib.hid (winv0 ⟨3, n, L, F, bits .andNot .u32 x 1⟩ 60 HOO.out _ (by show upd _ 3 _ 3 = _; rw [upd_same]) fun j _ => by show upd _ 3 _ (3 + 1 + j) = 0; rw [upd_other (by omega)])
        clear hM4 hB4 hM0 HM3 HW3
        have hTL : Hid (L * (n + 2) ≤ 340) := Lib.hid (Nat.le_trans (Nat.mul_le_mul HFEW.out.1 (show n + 2 ≤ 34 by have := HN1.out.2; omega)) (by omega))
        go_wp2_with fail
        go_loopw [12] (fun st wr => ∃ (k : Nat) (s : Wr) (f : Nat → Int), st = .int .i64 k ∧ k < L * (n + 2) ∧ s.tm = k ∧ s.k.ph < 3 ∧ Mw w.heap.size wr g b 60 B (some ⟨G, 0, none⟩) cap f (k + 1) s ∧ WInv ⟨3, n, L, F, bits .andNot .u32 x 1⟩ s f ∧ Below w.heap.size w wr) (fun st _ => L * (n + 2) - (intOf st).toNat)
        case atStart => exact ⟨0, _, _, rfl, Nat.mul_pos (by omega) (by omega), by show 0 * (n + 2) + 0 = 0; omega, by show 0 < 3; omega, HM4.out, HWI.out, HB4.out⟩
        case round =>
          obtain ⟨k, s, f, rfl, hk, htm, hp, hM, hwi, hB⟩ := hrel
          have HM := Lib.hid hM
          have HB := Lib.hid hB
          have hst := hwi.step HOO.out
          have hdn := hst.1.done
          have ht1 := hst.2.1 hp
          rw [htm] at ht1
          rw [ht1] at hdn
          have h3 := hst.1.p3
          have HW6 := Lib.hid hst.1
          have HT1 := Lib.hid ht1
          have hk340 : k ≤ 340 := by have := hTL.out; omega
          clear hM hB hst hwi
          by_cases hlast : (s.step 60).k.ph = 3
          · have hT : k + 1 = L * (n + 2) := hdn.2.1 hlast
            have HLAST := Lib.hid hlast
            have HTT := Lib.hid hT
            clear hdn ht1 h3
            go_wp2_with fail
            refine (mw_write HM.out (by omega) true (by rw [HLAST.out]; rfl)).mono ?_
            rintro e w6 ⟨rfl, hM6, hB6⟩
            have HM6 := Lib.hid hM6
            have HB6 := Lib.hid (HB.out.trans hB6)
            clear hM6 hB6 hlast hT
            go_wp2_with fail
            refine (newr_yes 3 n n w6 rfl HN1.out.1 HN1.out.2 (by omega)).mono ?_
            rintro e w7 ⟨rfl, hR, hB7, _⟩
            have hS7 := Mw.reader HM6.out HW6.out HOO.out hR hB7
            have HB7 := Lib.hid (HB6.out.trans (hB7.mono HB6.out.size))
            obtain ⟨R, hRR⟩ : ∃ R, R = w6.heap.size := ⟨_, rfl⟩
            rw [← hRR] at hS7 ⊢
            obtain ⟨s', hs'⟩ : ∃ s', s' = s.step 60 := ⟨_, rfl⟩
            obtain ⟨f', hf'⟩ : ∃ f', f' = s.word 60 f := ⟨_, rfl⟩
            have hl3 : s'.k.ph = 3 := by rw [hs']; exact HLAST.out
            rw [← hs', ← hf'] at hS7
            have HS7 := Lib.hid hS7
            have HL3 := Lib.hid hl3
            have hk1 : IntKind.i64.wrap ((k : Int) + 1) = (k : Int) + 1 := IntWalk.i64_in _ (by omega)
            have hn32 : n ≤ 32 := HN1.out.2
            have hn2 : IntKind.i64.wrap ((n : Int) + 2) = (n : Int) + 2 := IntWalk.i64_in _ (by omega)
            have hmul : IntKind.i64.wrap ((L : Int) * ((n : Int) + 2)) = (k : Int) + 1 := by
              have e : (L : Int) * ((n : Int) + 2) = ((L * (n + 2) : Nat) : Int) := by simp
              have := HTT.out
              rw [e, IntWalk.i64_in _ (by omega)]; omega
            clear hR hB7 hRR hS7 hs' hf' hl3
            go_wp2_with fail
            clear hmul hk1
            go_loopw [15] (fun i wr => ∃ (m : Nat) (r : Rd) (bb : Nat), i = .int .i64 m ∧ r.tm + 1 = m ∧ m ≤ n + 3 ∧ St w.heap.size wr ⟨g, b, 60, B, R, some ⟨G, 0, none⟩, cap⟩ ⟨3, n, L, F, bits .andNot .u32 x 1⟩ (k + 1 + 1 + m) s' f' r bb ∧ Calm ⟨3, n, L, F, bits .andNot .u32 x 1⟩ s' f' bb r ∧ Below w.heap.size w wr) (fun i _ => n + 3 - (intOf i).toNat)
            case atStart => exact ⟨1, _, 0, rfl, rfl, by omega, ⟨HS7.out.sq.more (by omega), HS7.out.wi, HS7.out.ri, HS7.out.ok⟩, ⟨.inr HL3.out, fun h => absurd rfl h, fun _ => rfl⟩, HB7.out⟩
            case round =>
              obtain ⟨m, r, bb, rfl, htm, hm, hS, hC, hB⟩ := hrel
              have HS := Lib.hid hS
              have HC := Lib.hid hC
              have HB := Lib.hid hB
              have HTM := Lib.hid htm
              have hrd := rtm_done hS.ri
              have HRD := Lib.hid hrd
              have htr : Hid (r.tr ≤ 1) := Lib.hid (by
                by_cases h0 : r.k.ph = 0
                · have := hC.c0 h0; omega
                · have := (hC.cn h0).2.2; omega)
              clear hS hC hB htm hrd
              by_cases hle : m ≤ n + 2
              · have hle' : (m : Int) ≤ (n : Int) + 2 := by omega
                have hp : Hid (r.k.ph < 3) := Lib.hid (by
                  have h1 := HS.out.ri.p3
                  have h2 := HRD.out.2
                  have h3 := HTM.out
                  have h4 : r.k.ph ≠ 3 := fun e => by have := h2.1 e; have h5 : r.tm = n + 2 := this; omega
                  omega)
                obtain ⟨d, hd⟩ : ∃ d, decide (3 ≤ (r.step 60 f').k.ph) = d := ⟨_, rfl⟩
                have hrun := st_read HS.out (by omega) (by have := htr.out; omega) d hd
                have hd2 : d = ((m : Int) == (n : Int) + 2) := by
                  have h1 : ∃ b', RInv ⟨3, n, L, F, bits .andNot .u32 x 1⟩ s' f' b' (r.step 60 f') ∧ ((r.step 60 f').tr = r.tr ∧ b' = bb ∨ r.k.ph = 0 ∧ (r.step 60 f').tr = r.tr + 1 ∧ b' = s'.wr ∧ (r.step 60 f').k.ph = 1) := by
                    rcases HS.out.ri.read HS.out.wi HS.out.ok with ⟨e, hr⟩ | ⟨e0, e, hr, e1⟩
                    · exact ⟨bb, hr, .inl ⟨e, rfl⟩⟩
                    · exact ⟨s'.wr, hr, .inr ⟨e0, e, rfl, e1⟩⟩
                  obtain ⟨b', hr, hcase⟩ := h1
                  have h2 := (calm_step HS.out HC.out hp.out hcase).2
                  have h2 : (r.step 60 f').tm = r.tm + 1 := h2
                  have h3 := rtm_done hr
                  have h3 : (r.step 60 f').tm ≤ n + 2 ∧ ((r.step 60 f').k.ph = 3 ↔ (r.step 60 f').tm = n + 2) := h3
                  have h4 := hr.p3
                  have h5 := HTM.out
                  rw [← hd]
                  by_cases e : m = n + 2
                  · rw [decide_eq_true (by have := h3.2.2 (by omega); omega)]
                    exact (beq_iff_eq.2 (by omega)).symm
                  · rw [decide_eq_false (fun h => e (by have := h3.2.1 (by omega); omega))]
                    exact (beq_false_of_ne (by omega)).symm
                have HRUN := Lib.hid hrun
                clear hrun hd
                go_wp2_with fail
                refine HRUN.out.mono ?_
                rintro e w8 ⟨rfl, hB8, b2, hS8, hcase⟩
                have HCS := Lib.hid (calm_step HS.out HC.out hp.out hcase)
                have HS8 := Lib.hid hS8
                have HB8 := Lib.hid (HB.out.trans hB8)
                clear hB8 hS8 hcase
                rw [hd2]
                clear hd2
                go_wp2_with fail
                go_roundw
                case rel => exact ⟨m + 1, _, b2, by go_num, by have h1 : (r.step 60 f').tm = r.tm + 1 := HCS.out.2; have := HTM.out; omega, by omega, HS8.out, HCS.out.1, HB8.out⟩
                case measure => simp [intOf]; omega
              · have hm3 : m = n + 3 := by omega
                have hle' : (n : Int) + 2 < m := by omega
                have h3 : r.k.ph = 3 := HRD.out.2.2 (by have := HTM.out; show r.tm = n + 2; omega)
                have hcn := HC.out.cn (by omega)
                have hL3 : s'.wr = L := HS.out.wi.wl.2.2 HL3.out
                have HWS : Hid (∀ j, j < n → r.ws j = verN F L j) := Lib.hid fun j hj => by have := HS.out.ri.w3 h3 j hj; rw [hcn.2.1, hL3] at this; exact this
                have HCN : Hid (f' 3 = (bits .andNot .u32 x 1 + ((2 * L : Nat) : Int)) % 4294967296) := Lib.hid (by
                  have h5 := HS.out.wi.cn
                  have h6 : s'.cnt = 2 * L := by unfold Wr.cnt; rw [HL3.out, hL3]; simp
                  rw [h6] at h5; exact h5)
                have HTR1 := Lib.hid hcn.2.2
                have hen : r.k.n = n := HS.out.ri.en
                have H3 := Lib.hid h3
                clear hm3 hcn hL3 h3 hn2
                go_wp2_with fail
                obtain ⟨H9, hH9⟩ : ∃ H9, H9 = wr.heap.size := ⟨_, rfl⟩
                have hLO : Hid (g < H9 ∧ b < H9 ∧ R < H9 ∧ w.heap.size ≤ H9 ∧ H9 = wr.heap.size) := Lib.hid (by
                  obtain ⟨c, _, _, hm⟩ := HS.out.sq.mem
                  have h1 := hm.ltg
                  have h2 := hm.row.lt
                  have h3 := HS.out.sq.rd.k.lt
                  have h4 := HS.out.sq.hs
                  rw [hH9]
                  exact ⟨h1, h2, h3, h4, rfl⟩)
                refine (sq_got_yes HS.out.sq H3.out).mono ?_
                rintro e w8 ⟨d1, rfl, hrow, hd1, hS8, hB8⟩
                rw [hen]
                have HS8 := Lib.hid hS8
                have HB8 := Lib.hid (HB.out.trans (hB8.mono HB.out.size))
                have HROW := Lib.hid hrow
                have HD1 : Hid (H9 ≤ d1) := Lib.hid (by rw [hH9]; exact hd1)
                have HR8 : Hid (ReaderAt w8 R (3 : Nat) r) := Lib.hid (by have := hS8.rd; rw [H3.out] at this; exact this)
                clear hrow hd1 hS8 hB8 hen hH9
                go_wp2_with fail
                refine (sq_loadE HS8.out (by have := hTL.out; have := HTT.out; omega) 3 3 rfl (show 3 < 60 by omega)).mono ?_
                rintro e w9 ⟨rfl, hE9⟩
                have hd1l : d1 < w8.heap.size := HROW.out.lt
                have HROW9 : Hid (w9.rowIs d1 75 32 fun i => .int .u32 (r.ws i)) := Lib.hid (HROW.out.of_block (hE9.block _ hd1l (by show d1 ≠ g; have := hLO.out; have := HD1.out; omega) (by show d1 ≠ b; have := hLO.out; have := HD1.out; omega)))
                have HR9 := Lib.hid (HR8.out.else hE9 (by show g ≠ R; exact HS8.out.ne.2.2.1) (by show b ≠ R; exact HS8.out.ne.2.2.2.1))
                have HB9 := Lib.hid (HB8.out.trans (hE9.below HS8.out.lo.1 HS8.out.lo.2.1 HB8.out.size))
                have HU9 : Hid (Us w9 (some ⟨d1, 0, none⟩) n r.ws) := Lib.hid fun j hj => ⟨d1, 0, rfl, by rw [Nat.zero_add]; exact HROW9.out.cell (by omega)⟩
                clear hE9 hd1l HROW HR8 HS8
                go_wp2_with (at_builtin; refine wpList_append_words rfl _ _ rfl HN1.out.1 (by omega) HU9.out w9.heap.size rfl (by rfl) (by rfl) ?_)
                intro G2 cap2 w10 hG1 hG2 hUs _ hB10
                have HROW10 : Hid (w10.rowIs d1 75 32 fun i => .int .u32 (r.ws i)) := Lib.hid (HROW9.out.of_block (hB10.block _ HROW9.out.lt))
                have HR10 := Lib.hid (HR9.out.keep hB10)
                have HB10 := Lib.hid (HB9.out.trans (hB10.mono HB9.out.size))
                have HU10 := Lib.hid hUs
                have HNE : Hid (G2 ≠ d1) := Lib.hid (by have := HROW9.out.lt; omega)
                clear hG1 hG2 hUs hB10 HROW9 HR9 HU9
                go_wp2_with fail
                go_loopw [21] (fun i wr2 => ∃ (j : Nat) (h : Nat → Int), i = .int .i64 j ∧ j ≤ n ∧ wr2.rowIs d1 75 32 (fun i => .int .u32 (h i)) ∧ Chg (fun k => k = d1) w10 wr2) (fun i _ => n - (intOf i).toNat)
                case atStart => exact ⟨0, r.ws, rfl, by omega, HROW10.out, Chg.refl _⟩
                case round =>
                  obtain ⟨j, h, rfl, hj, hrow, hC2⟩ := hrel
                  have HRW := Lib.hid hrow
                  have HC2 := Lib.hid hC2
                  by_cases hjl : j < n
                  · have hjl' : (j : Int) < n := by omega
                    have hcell := hrow.cell (i := j) (by omega)
                    have hfz := hrow.frozen j
                    clear hrow hC2
                    go_wp2_with fail
                    go_roundw
                    case rel => exact ⟨j + 1, fun i => if i = j then (h j + 1) % 4294967296 else h i, by go_num, by omega, (HRW.out.set j _).congr (fun i _ => by by_cases e : i = j <;> simp [e]), HC2.out.set (a := ⟨d1, j, none⟩) rfl _⟩
                    case measure => simp [intOf]; omega
                  · have hR11 := HR10.out.chg hC2 (by show ¬ R = d1; have := hLO.out; have := HD1.out; omega)
                    have HU11 := Lib.hid (HU10.out.chgS hC2 (fun x o e => by injection e with e; injection e with e1 _; rw [← e1]; exact HNE.out))
                    have HB11 := Lib.hid (HB10.out.trans (hC2.below (fun x hx => by rw [hx]; have := hLO.out; have := HD1.out; omega) HB10.out.size))
                    have HR11 := Lib.hid hR11
                    clear hrow hC2 hR11
                    go_wp2_with fail
                    refine (got_yes R r _ HR11.out).mono ?_
                    rintro e w12 ⟨d2, rfl, hrow2, _, hB12⟩
                    have hen : r.k.n = n := HS.out.ri.en
                    rw [hen]
                    have HU12 := Lib.hid (HU11.out.keep hB12)
                    have HB12 := Lib.hid (HB11.out.trans (hB12.mono HB11.out.size))
                    have HR12 := Lib.hid (HR11.out.keep hB12)
                    have HA12 : Hid (Us w12 (some ⟨d2, 0, none⟩) n r.ws) := Lib.hid fun i hi => ⟨d2, 0, rfl, by rw [Nat.zero_add]; exact hrow2.cell (by omega)⟩
                    obtain ⟨q, hq⟩ : ∃ q, L = q + 1 := ⟨L - 1, by omega⟩
                    have hqL : q < L := by omega
                    have hV12 := HV.out.keep HB12.out
                    have hvq := hV12.cell hqL
                    rw [HNN.out q hqL] at hvq
                    have HVU : Hid (Us w12 (F q).p n r.ws) := Lib.hid (by
                      have h1 := (hV12.ver hqL).us
                      rw [HNN.out q hqL] at h1
                      refine h1.congr fun i hi => ?_
                      rw [HWS.out i hi, hq]; rfl)
                    have hL1 : IntKind.i64.wrap ((L : Int) - 1) = q := by rw [IntWalk.i64_in _ (by have := HFEW.out.1; omega)]; omega
                    have hq0 : (0 : Int) ≤ q := by omega
                    have hqi : (q : Int) < L := by omega
                    have hL2' : IntKind.i64.wrap (2 * (L : Int)) = 2 * (L : Int) := IntWalk.i64_in _ (by have := HFEW.out.1; omega)
                    have HQ := Lib.hid hq
                    have HL10 : Hid (L ≤ 10) := Lib.hid HFEW.out.1
                    clear hrow2 hB12 hen hV12 hq hqL
                    go_wp2_with fail
                    refine (same_yes _ _ _ _ n r.ws _ HU12.out HVU.out (by omega)).mono ?_
                    rintro e w13 ⟨rfl, hB13⟩
                    have HB13 := Lib.hid (HB12.out.trans (hB13.mono HB12.out.size))
                    have HU13 := Lib.hid (HU12.out.keep hB13)
                    have HA13 := Lib.hid (HA12.out.keep hB13)
                    have HR13 := Lib.hid (HR12.out.keep hB13)
                    clear hB13
                    go_wp2_with fail
                    refine (same_yes _ _ _ _ n r.ws _ HA13.out HU13.out (by omega)).mono ?_
                    rintro e w14 ⟨rfl, hB14⟩
                    have HB14 := Lib.hid (HB13.out.trans (hB14.mono HB13.out.size))
                    have HR14 := Lib.hid (HR13.out.keep hB14)
                    clear hB14
                    go_wp2_with fail
                    refine (tries_any R r _ _ HR14.out).mono ?_
                    rintro e w15 ⟨rfl, hw15⟩
                    rw [HTR1.out]
                    have HW15 := Lib.hid hw15
                    clear hw15
                    go_wp2_with fail
                    go_ret
                    refine ⟨?_, by rw [HW15.out]; exact HB14.out⟩
                    have e : (f' 3 == (bits BinOp.andNot IntKind.u32 x 1 + 2 * (L : Int)) % 4294967296) = true := beq_iff_eq.2 (by rw [HCN.out]; simp)
                    show Ending.returned (.bool (f' 3 == (bits BinOp.andNot IntKind.u32 x 1 + 2 * (L : Int)) % 4294967296)) = _
                    rw [e]
          · have hT : ¬ k + 1 = L * (n + 2) := fun e => hlast (hdn.2.2 e)
            have hle : k + 1 ≤ L * (n + 2) := hdn.1
            have hlt : k + 1 < L * (n + 2) := by omega
            have hph : (s.step 60).k.ph < 3 := by omega
            clear hdn ht1 h3 hlast hT hle
            have HPH := Lib.hid hph
            clear hph
            go_wp2_with fail
            refine (mw_write HM.out (by omega) false (decide_eq_false (by have := HPH.out; omega))).mono ?_
            rintro e w6 ⟨rfl, hM6, hB6⟩
            have HM6 := Lib.hid hM6
            have HB6 := Lib.hid (HB.out.trans hB6)
            clear hM6 hB6
            have hs1 : IntKind.i64.wrap ((k : Int) + 1) = (k : Int) + 1 := IntWalk.i64_in _ (by omega)
            have hs2 : (k : Int) + 1 ≤ 1000 := by omega
            go_wp2_with fail
            go_roundw
            case rel => exact ⟨k + 1, _, _, by go_num, hlt, HT1.out, HPH.out, HM6.out, HW6.out, HB6.out⟩
            case measure => simp [intOf]; omega
      · refine (few_no A L ca F w3 ((HV.out.keep HB3.out).up HB3.out.size) hfew).mono ?_
        rintro e x1 ⟨rfl, rfl⟩
        clear hB3
        go_wp2_with fail
        refine (awake_any w3 (HG.out.keep HB3.out)).mono ?_
        rintro e w4 ⟨rfl, hB4⟩
        have HB4 := Lib.hid (HB3.out.trans (hB4.mono HB3.out.size))
        clear hB4
        go_wp2_with fail
        go_ret
        exact ⟨rfl, HB4.out⟩
    · clear hB2 HM1
      go_wp2_with fail
      refine (awake_any w2 (HG.out.keep HB2.out)).mono ?_
      rintro e w3 ⟨rfl, hB3⟩
      have HB3 := Lib.hid (HB2.out.trans (hB3.mono HB2.out.size))
      clear hB3
      go_wp2_with fail
      by_cases hfew : FewV L F
      · refine (few_yes A L ca F w3 ((HV.out.keep HB3.out).up HB3.out.size) hfew).mono ?_
        rintro e x1 ⟨rfl, rfl⟩
        go_wp2_with fail
        refine (awake_any w3 (HG.out.keep HB3.out)).mono ?_
        rintro e w4 ⟨rfl, hB4⟩
        have HB4 := Lib.hid (HB3.out.trans (hB4.mono HB3.out.size))
        clear hB4
        go_wp2_with fail
        go_ret
        exact ⟨rfl, HB4.out⟩
      · refine (few_no A L ca F w3 ((HV.out.keep HB3.out).up HB3.out.size) hfew).mono ?_
        rintro e x1 ⟨rfl, rfl⟩
        go_wp2_with fail
        refine (awake_any w3 (HG.out.keep HB3.out)).mono ?_
        rintro e w4 ⟨rfl, hB4⟩
        have HB4 := Lib.hid (HB3.out.trans (hB4.mono HB3.out.size))
        clear hB4
        go_wp2_with fail
        go_ret
        exact ⟨rfl, HB4.out⟩
end Go.Proofs.YtoaaeamogpdcgaaDoor
