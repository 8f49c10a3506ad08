/-
  The walk of BarrierPlays.
-/
import Derived.Test.YtcjhbmkpfclmfaaDoorPlaysB
namespace Go.Proofs.YtcjhbmkpfclmfaaDoor
open Go.RowKit

/-- The words at first. -/
def words4 (q0 q1 : Int) : Nat → Int := upd (upd (fun _ => 0) 0 q0) 1 q1
theorem us_first (w : World) (q0 q1 : Int) : Us (w.alloc (.cells #[.int .u32 q0, .int .u32 q1, .int .u32 0, .int .u32 0] 23)) (some ⟨w.heap.size, 0, none⟩) 4 (words4 q0 q1) := fun i hi => by
  refine ⟨w.heap.size, 0, rfl, ?_⟩
  have : i = 0 ∨ i = 1 ∨ i = 2 ∨ i = 3 := by omega
  rcases this with rfl | rfl | rfl | rfl
  · exact al_new _ _ _ _ _ rfl rfl
  · exact al_new _ _ _ _ _ rfl rfl
  · exact al_new _ _ _ _ _ rfl rfl
  · exact al_new _ _ _ _ _ rfl rfl
theorem words4_rng {q0 q1 : Int} (h0 : 0 ≤ q0 ∧ q0 < 4294967296) (h1 : 0 ≤ q1 ∧ q1 < 4294967296) : ∀ i, i < 4 → 0 ≤ words4 q0 q1 i ∧ words4 q0 q1 i < 4294967296 := fun i _ => by
  unfold words4 upd
  split
  · exact h1
  · split
    · exact h0
    · simp
theorem word_rng {t : Tk} {f : Nat → Int} (hf : ∀ i, i < 4 → 0 ≤ f i ∧ f i < 4294967296) : ∀ i, i < 4 → 0 ≤ upd f t.wh.toNat (t.word 4 (f t.wh.toNat)) i ∧ upd f t.wh.toNat (t.word 4 (f t.wh.toNat)) i < 4294967296 := fun i hi => by
  by_cases e : i = t.wh.toNat
  · subst e
    rw [upd_same]
    have := hf _ hi
    unfold Tk.word
    split
    · exact this
    · unfold Tk.puts
      split
      · unfold inc; omega
      · omega
      · unfold Tk.own; omega
      · exact this
  · rw [upd_other e]; exact hf i hi
set_option maxHeartbeats 16000000 in
set_option maxRecDepth 100000 in
theorem walk_plays (A P : Option Addr) (ca L cp : Nat) (l : List KindA) (q : Nat → Int) (q0 q1 : Int) (w : World) (hG : GOk w) (hA : KindsAt w A l) (hwf : ∀ y ∈ l, WfKind y) (hP : ArgN .i64 w.heap.size w P L q) (hq0 : 0 ≤ q0 ∧ q0 < 4294967296) (hq1 : 0 ≤ q1 ∧ q1 < 4294967296) (hn : l.length ≤ 1000000000000000) (_ : L ≤ 1000000000000000) :
    Calls Tryd.prog 3 #[.slice A l.length ca, .agg #[.int .u32 q0, .int .u32 q1], .slice P L cp] w fun e w' => e = .returned (.bool true) ∧ Below w.heap.size w w' := by
  have hB00 : Below w.heap.size w (w.alloc (.cells #[.int .u32 q0, .int .u32 q1] 24)) := (Below.refl _ _).alloc (Nat.le_refl _) _
  have hx0 : (w.alloc (.cells #[.int .u32 q0, .int .u32 q1] 24)).cell? ⟨w.heap.size, 0, none⟩ = some (.int .u32 q0) := al_new _ _ _ 0 _ rfl rfl
  have hx1 : (w.alloc (.cells #[.int .u32 q0, .int .u32 q1] 24)).cell? ⟨w.heap.size, 1, none⟩ = some (.int .u32 q1) := al_new _ _ _ 1 _ rfl rfl
  have HB0 := Lib.hid hB00
  have HZ0 : Hid ((w.alloc (.cells #[.int .u32 q0, .int .u32 q1] 24)).heap.size = w.heap.size + 1) := Lib.hid (by simp)
  have HG := Lib.hid (hG.keep hB00)
  have HQ01 := Lib.hid (words4_rng hq0 hq1)
  have H6 := Lib.hid (six_of hG)
  have HA := Lib.hid hA
  have HWF := Lib.hid hwf
  have HP := Lib.hid hP
  obtain ⟨n, hnn⟩ : ∃ n, n = l.length := ⟨_, rfl⟩
  rw [← hnn] at hn ⊢
  have HN := Lib.hid hnn
  clear hG hA hwf hP hnn hB00
  by_cases h6 : 9 < n
  · have h6i : (9 : Int) < (n : Int) := by omega
    clear hx0 hx1
    go_enter Tryd.func3, Tryd.ntmps3
    go_wp2_with fail
    generalize hW0 : (w.alloc (.cells #[.int .u32 q0, .int .u32 q1] 24)) = w0 at *
    clear hW0
    with_reducible refine (new_one 4 (by omega) (by omega) 4 rfl _).mono ?_
    rintro e w1 ⟨g1, b1, rfl, hM1, hg1, hb1, hB1⟩
    have HB1 := Lib.hid hB1
    clear hM1 hg1 hb1 hB1
    go_wp2_with fail
    with_reducible refine (awake_any _ (HG.out.keep HB1.out)).mono ?_
    rintro e w2 ⟨rfl, hB2⟩
    have HB2 := Lib.hid (below_two HB1.out hB2)
    clear hB2
    go_wp2_with fail
    with_reducible refine (awake_any _ (HG.out.keep HB2.out)).mono ?_
    rintro e w3 ⟨rfl, hB3⟩
    have HB3 := Lib.hid (below_two HB2.out hB3)
    clear hB3
    go_wp2_with fail
    go_ret
    exact ⟨rfl, HB0.out.trans (HB3.out.mono HB0.out.size)⟩
  have h6i : ¬ (9 : Int) < (n : Int) := by omega
  have h6' : n ≤ 9 := by omega
  clear h6
  go_enter Tryd.func3, Tryd.ntmps3
  go_wp2_with fail
  generalize hW0 : (w.alloc (.cells #[.int .u32 q0, .int .u32 q1] 24)) = w0 at *
  clear hW0
  with_reducible refine (new_one 4 (by omega) (by omega) 4 rfl _).mono ?_
  rintro e w1 ⟨g, b, rfl, hM1, hg1, hb1, hB1⟩
  have x0 := kept hx0 hB1
  have x1 := kept hx1 hB1
  have HM1 := Lib.hid hM1
  have HI := Lib.hid (And.intro hg1 hb1)
  have HB1 := Lib.hid hB1
  clear hM1 hg1 hb1 hB1 hx0 hx1
  go_wp2_with fail
  with_reducible refine (awake_any _ (HG.out.keep HB1.out)).mono ?_
  rintro e w2 ⟨rfl, hB2⟩
  have y0 := kept x0 hB2
  have y1 := kept x1 hB2
  have HM2 := Lib.hid (HM1.out.keep hB2)
  have HB2 := Lib.hid (below_two HB1.out hB2)
  clear hB2 x0 x1 HM1
  go_wp2_with fail
  with_reducible refine (store_at q0 0 g b 4 0 rfl _ 0 _ (HG.out.keep HB2.out) HM2.out (by omega) (by omega) (by omega)).mono ?_
  rintro e w3 ⟨rfl, hM3, hE3⟩
  have HM3 := Lib.hid hM3
  have HC3 := Lib.hid (Chg.of_else hE3)
  have HG3 := Lib.hid (HG.out.below (by have := HZ0.out; have := H6.out; omega) (HB2.out.trans (hE3.below HI.out.1 HI.out.2 HB2.out.size)))
  have HBe3 := Lib.hid (HB2.out.trans (hE3.below HI.out.1 HI.out.2 HB2.out.size))
  have z1 : w3.cell? ⟨w.heap.size, 1, none⟩ = some (.int .u32 q1) := HC3.out.cell y1 (by have := HZ0.out; have := HI.out; show ¬ (w.heap.size = g ∨ w.heap.size = b); omega)
  have z0 : w3.cell? ⟨w.heap.size, 0, none⟩ = some (.int .u32 q0) := HC3.out.cell y0 (by have := HZ0.out; have := HI.out; show ¬ (w.heap.size = g ∨ w.heap.size = b); omega)
  clear hM3 hE3 HM2 y0 y1
  go_wp2_with fail
  with_reducible refine (store_at q1 1 g b 4 1 rfl _ _ _ HG3.out HM3.out (by omega) (by omega) (by omega)).mono ?_
  rintro e w4 ⟨rfl, hM4, hE4⟩
  have x0 : w4.cell? ⟨w.heap.size, 0, none⟩ = some (.int .u32 q0) := (Chg.of_else hE4).cell z0 (by have := HZ0.out; have := HI.out; show ¬ (w.heap.size = g ∨ w.heap.size = b); omega)
  have x1 : w4.cell? ⟨w.heap.size, 1, none⟩ = some (.int .u32 q1) := (Chg.of_else hE4).cell z1 (by have := HZ0.out; have := HI.out; show ¬ (w.heap.size = g ∨ w.heap.size = b); omega)
  have HBs : Hid (Base w g b q0 q1 w4) := Lib.hid ⟨hM4, HG.out.below (by have := HZ0.out; have := H6.out; omega) (HBe3.out.trans (hE4.below HI.out.1 HI.out.2 HBe3.out.size)), HB0.out.trans ((HBe3.out.trans (hE4.below HI.out.1 HI.out.2 HBe3.out.size)).mono HB0.out.size), by have := HZ0.out; have := HI.out; have := H6.out; omega⟩
  clear hM4 hE4 HM3 HC3 HG3 HBe3 z0 z1
  go_wp2_with fail
  have HBt := Lib.hid (HBs.out.keep ((Below.refl w4.heap.size w4).alloc (Nat.le_refl _) (.cells #[.int .u32 q0, .int .u32 q1, .int .u32 0, .int .u32 0] 23)))
  have HUf := Lib.hid (us_first w4 q0 q1)
  have HU1 : Hid (w4.heap.size < (w4.alloc (.cells #[.int .u32 q0, .int .u32 q1, .int .u32 0, .int .u32 0] 23)).heap.size ∧ g < w4.heap.size ∧ b < w4.heap.size) := Lib.hid (by have := HBs.out.mem.ltg; have := HBs.out.mem.row.lt; simp; omega)
  have HZ5 : Hid ((w4.alloc (.cells #[.int .u32 q0, .int .u32 q1, .int .u32 0, .int .u32 0] 23)).heap.size = w4.heap.size + 1) := Lib.hid (by simp)
  generalize hW5 : (w4.alloc (.cells #[.int .u32 q0, .int .u32 q1, .int .u32 0, .int .u32 0] 23)) = w5 at *
  clear hW5 x0 x1
  go_loopw [10, 11, 12] (fun al wt i wr => PlayRel1 n w5 al wt i wr) (fun _ _ i _ => n - (intOf i).toNat)
  case atStart =>
    have hp := play1_nil w5 (fun _ => tk0 0 1 0) (fun _ => rZ)
    rw [HZ5.out] at hp
    exact ⟨0, 0, _, 0, _, 0, fun _ => 0, _, _, Nat.zero_le _, Nat.le_refl _, rfl, rfl, rfl, hp⟩
  case round =>
    obtain ⟨k, m, ga, cpa, gb, cpb, B, t, r, hk, hmk, rfl, rfl, rfl, hPl⟩ := hrel
    have HPl := Lib.hid hPl
    clear hPl
    by_cases hlt : k < n
    · have hkl : k < l.length := by rw [← HN.out]; exact hlt
      obtain ⟨bA, oA, rfl⟩ := HA.out.head hkl
      have hAr := Arr.keep HA.out (HBt.out.bel.trans (HPl.out.bel.mono HBt.out.bel.size))
      obtain ⟨⟨y0, y1, y2⟩, hy⟩ : ∃ y, y = l.getD k dK := ⟨_, rfl⟩
      have hw := HWF.out _ (getD_mem dK hkl)
      rw [← hy] at hw
      have z0 := hAr.at (j := 0) hkl rfl
      have z1 := hAr.at (j := 1) hkl rfl
      have z2 := hAr.at (j := 2) hkl rfl
      simp only [← hy, Nat.add_zero] at z0 z1 z2
      obtain ⟨⟨wa1, wa2⟩, ⟨wc1, wc2⟩, wt1, wt2⟩ := hw
      have hk0 : (0 : Int) ≤ (k : Int) := by omega
      have hk1 : (k : Int) < (n : Int) := by omega
      clear hy hAr hkl
      go_upto_region 12 with fail
      obtain ⟨far, hfar⟩ : ∃ far, far = decide (1000 < y0 ∨ y0 < -1000) := ⟨_, rfl⟩
      have HFar := Lib.hid hfar
      clear hfar
      go_cut [76] (fun bv wx => bv = .bool far ∧ wx = wr.alloc (.cells #[.int .i64 y0, .int .i64 y1, .int .i64 y2] 36))
      case first =>
        by_cases h1 : 1000 < y0
        · have hT2 := Lib.hid (show far = true by rw [HFar.out]; exact decide_eq_true (.inl h1))
          go_wp2_with fail
          go_meet
          case rel => exact ⟨by rw [hT2.out], rfl⟩
        · by_cases h2 : y0 < -1000
          · have hT2 := Lib.hid (show far = true by rw [HFar.out]; exact decide_eq_true (.inr h2))
            go_wp2_with fail
            go_meet
            case rel => exact ⟨by rw [hT2.out], rfl⟩
          · have hT2 := Lib.hid (show far = false by rw [HFar.out]; exact decide_eq_false (by omega))
            go_wp2_with fail
            go_meet
            case rel => exact ⟨by rw [hT2.out], rfl⟩
      obtain ⟨rfl, rfl⟩ := hcut
      go_upto_if 76 with fail
      go_cut [13] (fun pk wx => pk = .pointer (some ⟨wr.heap.size, 0, none⟩) ∧ wx = wr.alloc (.cells #[.int .i64 (nearA y0), .int .i64 y1, .int .i64 y2] 36))
      case first =>
        cases far
        · have h3 := of_decide_eq_false HFar.out.symm
          have hT2 := Lib.hid (show nearA y0 = y0 by unfold nearA; rw [if_neg (by omega), if_neg (by omega)])
          clear h3
          go_wp2_with fail
          go_meet
          case rel => exact ⟨rfl, by rw [hT2.out]⟩
        · have h3 := of_decide_eq_true HFar.out.symm
          have hT2 := Lib.hid (show nearA y0 = 0 by unfold nearA; split; rfl; rw [if_pos (by omega)])
          clear h3
          go_wp2_with fail
          go_meet
          case rel => exact ⟨rfl, by rw [hT2.out]⟩
      case rest =>
        obtain ⟨rfl, rfl⟩ := hcut
        have ha2 := nearA_rng y0
        obtain ⟨a2, hea⟩ : ∃ t, t = nearA y0 := ⟨_, rfl⟩
        rw [← hea] at ha2 ⊢
        have hkb := kbox_new wr a2 y1 y2
        have hzV : (wr.alloc (.cells #[.int .i64 a2, .int .i64 y1, .int .i64 y2] 36)).heap.size = wr.heap.size + 1 := by simp
        clear hea wa1 wa2
        by_cases hnn : ¬ (1 ≤ y1 ∧ y1 ≤ 8)
        · have HNB := Lib.hid (new_bad a2 y1 y2 (wr.alloc (.cells #[.int .i64 a2, .int .i64 y1, .int .i64 y2] 36)) hnn)
          have HKP := Lib.hid (play1_keep HPl.out hkb.bel)
          have hor : y1 < 1 ∨ (¬ y1 < 1 ∧ 8 < y1) := by omega
          have hc0 := hkb.c0
          have hc1 := hkb.c1
          have hc2 := hkb.c2
          clear hnn hzV hkb ha2 z0 z1 z2
          rcases hor with hy1 | ⟨hy1, hy2⟩
          · go_wp2_with fail
            with_reducible refine HNB.out.mono ?_
            rintro e V ⟨rfl, rfl⟩
            go_wp2_with fail
            go_roundw
            case rel => exact ⟨k + 1, m, ga, cpa, gb, cpb, B, t, r, by omega, by omega, by go_num, rfl, rfl, HKP.out⟩
            case measure => simp [intOf]; omega
          · go_wp2_with fail
            with_reducible refine HNB.out.mono ?_
            rintro e V ⟨rfl, rfl⟩
            go_wp2_with fail
            go_roundw
            case rel => exact ⟨k + 1, m, ga, cpa, gb, cpb, B, t, r, by omega, by omega, by go_num, rfl, rfl, HKP.out⟩
            case measure => simp [intOf]; omega
        · have hy1 : 1 ≤ y1 := by omega
          have hy2 : y1 ≤ 8 := by omega
          have HRRN := rr_new a2 y1 y2 ha2 ⟨hy1, hy2⟩
          obtain ⟨t3, het⟩ : ∃ t, t = clamp y2 := ⟨_, rfl⟩
          have hnew := new_ok a2 y1 y2 (wr.alloc (.cells #[.int .i64 a2, .int .i64 y1, .int .i64 y2] 36)) ha2 hy1 hy2
          simp only [NewP] at hnew
          have HRN := fun W => rnew_any a2 y1 y2 W
          rw [← het] at HRRN hnew
          simp only [← het, rV] at HRN
          have HRRN := Lib.hid HRRN
          have HRN := Lib.hid HRN
          have HNW := Lib.hid hnew
          have g1 : ¬ y1 < 1 := by omega
          have g2 : ¬ 8 < y1 := by omega
          clear het hnew hnn
          go_wp2_with fail
          with_reducible refine HNW.out.mono ?_
          rintro e V ⟨rfl, hTV, hBV, hsV⟩
          rw [hzV] at hTV hsV ⊢
          have m0 := kept hkb.c0 hBV
          have m1 := kept hkb.c1 hBV
          have m2 := kept hkb.c2 hBV
          have HBV := Lib.hid (hkb.bel.trans (hBV.mono hkb.bel.size))
          have HTV := Lib.hid hTV
          clear hkb hBV hTV hzV z0 z1 z2 ha2
          go_wp2_with fail
          have hga := HPl.out.lt
          have hg0 := HPl.out.bel.size
          have hgo := HPl.out.lo
          have hgn := HPl.out.ne
          have HROA := Lib.hid (ownsRow_same HPl.out.ra (HBV.out.block _ HPl.out.lt.1))
          have HROB := Lib.hid (show V.ownsRow w5.heap.size 41 7 (.slice (some ⟨gb, 0, none⟩) m cpb) m (flR (upd r m ⟨a2, y1, t3, 1, 0, 0, false⟩) m) by rw [flR_upd]; exact ownsRow_same HPl.out.rb (HBV.out.block _ HPl.out.lt.2))
          have hv3 : wr.heap.size < V.heap.size := by omega
          have HT : Hid (Chg (fun x => x = ga ∨ x = gb) V V) := Lib.hid (Chg.refl _)
          go_region_held3 (fun w' => w'.cell? ⟨wr.heap.size, 0, none⟩ = some (.int .i64 a2) ∧ w'.cell? ⟨wr.heap.size, 1, none⟩ = some (.int .i64 y1) ∧ w'.cell? ⟨wr.heap.size, 2, none⟩ = some (.int .i64 y2)) (go_keep)
            (first
            | (go_at_call 11
               with_reducible refine (HRN.out _).mono ?_
               rintro e wN ⟨rfl, hBN⟩
               have hCN := Chg.of_below (S := fun _ => False) hBN
               have HCN := Lib.hid hCN
               have hszN := hCN.size
               try simp at hszN
               replace m0 := hCN.cell (by first | exact m0 | exact al_cell m0 | exact al_cell (al_cell m0)) (by intro hh; first | exact hh | omega | (dsimp only at hh; omega))
               replace m1 := hCN.cell (by first | exact m1 | exact al_cell m1 | exact al_cell (al_cell m1)) (by intro hh; first | exact hh | omega | (dsimp only at hh; omega))
               replace m2 := hCN.cell (by first | exact m2 | exact al_cell m2 | exact al_cell (al_cell m2)) (by intro hh; first | exact hh | omega | (dsimp only at hh; omega))
               replace HT := Lib.hid ((HT.out.trans (Chg.of_below (by repeat (first | exact Below.refl _ _ | refine Below.drew ?_ | refine Below.alloc ?_ (by first | (simp; done) | (simp; omega) | omega) _)))).trans (hCN.mono fun _ e => e.elim))
               clear hCN hBN)
            | (with_reducible refine dst_is (some 119) rfl ?_
               refine step_app_pt (V := V) rfl _ _ rfl (pt (wr.heap.size + 1)) rfl HROA.out (by repeat (first | with_reducible rfl | with_reducible refine heap_drew_at ?_ | with_reducible refine heap_old ?_ (by first | (simp; done) | (simp; omega) | omega) | refine heap_chg HCB.out ?_ (by first | (simp; done) | (simp; omega) | omega) (by intro hh; first | exact hh | omega | (dsimp only at hh; omega)) | refine heap_chg HCN.out ?_ (by first | (simp; done) | (simp; omega) | omega) (by intro hh; first | exact hh | omega | (dsimp only at hh; omega)) | refine heap_chg HCA.out ?_ (by first | (simp; done) | (simp; omega) | omega) (by intro hh; first | exact hh | omega | (dsimp only at hh; omega)))) (by first | (simp; done) | (simp; omega) | omega) (by omega) (by rfl) _ (by rfl) (by repeat (first | with_reducible refine heap_drew_at ?_ | (apply heap_at; (first | rfl | (simp; done))) | with_reducible refine heap_past ?_ | refine heap_chg HCB.out ?_ (by first | (simp; done) | (simp; omega) | omega) (by intro hh; first | exact hh | omega | (dsimp only at hh; omega)) | refine heap_chg HCN.out ?_ (by first | (simp; done) | (simp; omega) | omega) (by intro hh; first | exact hh | omega | (dsimp only at hh; omega)) | refine heap_chg HCA.out ?_ (by first | (simp; done) | (simp; omega) | omega) (by intro hh; first | exact hh | omega | (dsimp only at hh; omega)))) ?_
               intro gA cA wA hRA hCA hgA hlA
               have HRA := Lib.hid hRA
               have HCA := Lib.hid hCA
               have HGA := Lib.hid hgA
               have HLA := Lib.hid hlA
               have hszA := hCA.size
               try simp at hszA
               replace m0 := hCA.cell (by first | exact m0 | exact al_cell m0 | exact al_cell (al_cell m0)) (by intro hh; first | exact hh | omega | (dsimp only at hh; omega))
               replace m1 := hCA.cell (by first | exact m1 | exact al_cell m1 | exact al_cell (al_cell m1)) (by intro hh; first | exact hh | omega | (dsimp only at hh; omega))
               replace m2 := hCA.cell (by first | exact m2 | exact al_cell m2 | exact al_cell (al_cell m2)) (by intro hh; first | exact hh | omega | (dsimp only at hh; omega))
               replace HT := Lib.hid ((HT.out.trans (Chg.of_below (by repeat (first | exact Below.refl _ _ | refine Below.drew ?_ | refine Below.alloc ?_ (by first | (simp; done) | (simp; omega) | omega) _)))).trans (hCA.mono fun _ e => .inl e))
               clear hRA hCA hgA hlA)
            | (with_reducible refine dst_is (some 129) rfl ?_
               refine step_app_want (V := V) rfl _ _ rfl ⟨a2, y1, t3, 1, 0, 0, false⟩ HROB.out (by repeat (first | with_reducible rfl | with_reducible refine heap_drew_at ?_ | with_reducible refine heap_old ?_ (by first | (simp; done) | (simp; omega) | omega) | refine heap_chg HCB.out ?_ (by first | (simp; done) | (simp; omega) | omega) (by intro hh; first | exact hh | omega | (dsimp only at hh; omega)) | refine heap_chg HCN.out ?_ (by first | (simp; done) | (simp; omega) | omega) (by intro hh; first | exact hh | omega | (dsimp only at hh; omega)) | refine heap_chg HCA.out ?_ (by first | (simp; done) | (simp; omega) | omega) (by intro hh; first | exact hh | omega | (dsimp only at hh; omega)))) (by first | (simp; done) | (simp; omega) | omega) (by omega) (by rw [upd_same]) (by rfl) _ (by rfl) (by repeat (first | with_reducible refine heap_drew_at ?_ | (apply heap_at; (first | rfl | (simp; done))) | with_reducible refine heap_past ?_ | refine heap_chg HCB.out ?_ (by first | (simp; done) | (simp; omega) | omega) (by intro hh; first | exact hh | omega | (dsimp only at hh; omega)) | refine heap_chg HCN.out ?_ (by first | (simp; done) | (simp; omega) | omega) (by intro hh; first | exact hh | omega | (dsimp only at hh; omega)) | refine heap_chg HCA.out ?_ (by first | (simp; done) | (simp; omega) | omega) (by intro hh; first | exact hh | omega | (dsimp only at hh; omega)))) ?_
               intro gB cB wB hRB hCB hgB hlB
               have HRB := Lib.hid hRB
               have HCB := Lib.hid hCB
               have HGB := Lib.hid hgB
               have HLB := Lib.hid hlB
               have hszB := hCB.size
               try simp at hszB
               replace m0 := hCB.cell (by first | exact m0 | exact al_cell m0 | exact al_cell (al_cell m0)) (by intro hh; first | exact hh | omega | (dsimp only at hh; omega))
               replace m1 := hCB.cell (by first | exact m1 | exact al_cell m1 | exact al_cell (al_cell m1)) (by intro hh; first | exact hh | omega | (dsimp only at hh; omega))
               replace m2 := hCB.cell (by first | exact m2 | exact al_cell m2 | exact al_cell (al_cell m2)) (by intro hh; first | exact hh | omega | (dsimp only at hh; omega))
               replace HT := Lib.hid ((HT.out.trans (Chg.of_below (by repeat (first | exact Below.refl _ _ | refine Below.drew ?_ | refine Below.alloc ?_ (by first | (simp; done) | (simp; omega) | omega) _)))).trans (hCB.mono fun _ e => .inr e))
               clear hRB hCB hgB hlB))
          all_goals
            go_wp2_with fail
            go_roundw
            case rel =>
              have hla := HLA.out
              have hlb := HLB.out
              have hga2 := HGA.out
              have hgb2 := HGB.out
              try simp at hga2
              try simp at hgb2
              first
                | exact ⟨k + 1, m + 1, _, _, _, _, _, _, _, by omega, by omega, by go_num, rfl, rfl, play1_next (V := V) HPl.out (Nat.le_succ _) HBV.out HTV.out HRRN.out (ownsRow_same HRA.out (by repeat (first | with_reducible rfl | with_reducible refine heap_drew_at ?_ | with_reducible refine heap_old ?_ (by first | (simp; done) | (simp; omega) | omega) | refine heap_chg HCB.out ?_ (by first | (simp; done) | (simp; omega) | omega) (by intro hh; first | exact hh | omega | (dsimp only at hh; omega)) | refine heap_chg HCN.out ?_ (by first | (simp; done) | (simp; omega) | omega) (by intro hh; first | exact hh | omega | (dsimp only at hh; omega)) | refine heap_chg HCA.out ?_ (by first | (simp; done) | (simp; omega) | omega) (by intro hh; first | exact hh | omega | (dsimp only at hh; omega))))) HRB.out HT.out (by omega) (by omega) (by omega) (by omega) hlb⟩
                | exact ⟨_, ⟨k + 1, m + 1, _, _, _, _, _, _, _, by omega, by omega, by go_num, rfl, rfl, play1_next (V := V) HPl.out (Nat.le_succ _) HBV.out HTV.out HRRN.out (ownsRow_same HRA.out (by repeat (first | with_reducible rfl | with_reducible refine heap_drew_at ?_ | with_reducible refine heap_old ?_ (by first | (simp; done) | (simp; omega) | omega) | refine heap_chg HCB.out ?_ (by first | (simp; done) | (simp; omega) | omega) (by intro hh; first | exact hh | omega | (dsimp only at hh; omega)) | refine heap_chg HCN.out ?_ (by first | (simp; done) | (simp; omega) | omega) (by intro hh; first | exact hh | omega | (dsimp only at hh; omega)) | refine heap_chg HCA.out ?_ (by first | (simp; done) | (simp; omega) | omega) (by intro hh; first | exact hh | omega | (dsimp only at hh; omega))))) HRB.out HT.out (by omega) (by omega) (by omega) (by omega) hlb⟩, rfl⟩
            case measure => simp [intOf]; omega
    · obtain rfl : k = n := by omega
      have HF := Lib.hid (fix_of HBt.out HPl.out)
      have hP0 : Play2 g b gb B m wr t (words4 q0 q1) r (words4 q0 q1) 2 (some ⟨w4.heap.size, 0, none⟩) wr :=
        ⟨HBt.out.mem.keep HPl.out.bel, HPl.out.tk, OwnT.of_row HPl.out.lt.2 HPl.out.rb, HUf.out.keep HPl.out.bel, fun x o e hx => by
          injection e with e
          injection e with e
          subst e
          have h1 := HU1.out
          have h2 := HPl.out.lo
          rcases hx with e | e | e | ⟨j, hj, e⟩
          · omega
          · omega
          · omega
          · have := HPl.out.dif j hj; omega, Chg.refl _⟩
      have HP0 := Lib.hid hP0
      have HRR0 := Lib.hid HPl.out.rr
      have hm9 : m ≤ 9 := by omega
      clear hP0 HPl HUf HU1 HZ5
      go_wp2_with fail
      go_loopw [9, 16] (fun lw i wr2 => PlayRel2 g b gb B m L wr lw i wr2) (fun _ i _ => 120 - (intOf i).toNat)
      case atStart => exact ⟨0, _, _, _, 2, _, 4, HQ01.out, Nat.zero_le _, by omega, rfl, rfl, by omega, HRR0.out, HP0.out⟩
      case round =>
        obtain ⟨k2, sl, f, r, c, U, cU, hfr, hk1, hk2, rfl, rfl, hc, hRR, hP2⟩ := hrel
        have HFR := Lib.hid hfr
        have HC := Lib.hid hc
        have HRR := Lib.hid hRR
        have HP2 := Lib.hid hP2
        have HBE := Lib.hid (hP2.below HF.out)
        clear hc hRR hP2 hfr
        by_cases hlt2 : k2 < L
        · by_cases hlt3 : k2 < 120
          · have hPw := HP.out.keep HBE.out
            obtain ⟨bq, oq, rfl⟩ := hPw.head hlt2
            have hcell := hPw.cell hlt2
            obtain ⟨y, hy⟩ : ∃ y, y = q k2 := ⟨_, rfl⟩
            rw [← hy] at hcell
            clear hy hPw
            by_cases hy0 : y < 0
            · go_wp2_with fail
              go_roundw
              case rel => exact ⟨k2 + 1, sl, f, r, c, U, cU, HFR.out, by omega, by omega, by go_num, rfl, by have := HC.out; omega, HRR.out, HP2.out⟩
              case measure => simp [intOf]; omega
            · by_cases hyn : (m : Int) ≤ y
              · go_wp2_with fail
                go_roundw
                case rel => exact ⟨k2 + 1, sl, f, r, c, U, cU, HFR.out, by omega, by omega, by go_num, rfl, by have := HC.out; omega, HRR.out, HP2.out⟩
                case measure => simp [intOf]; omega
              · obtain ⟨i, rfl⟩ : ∃ i : Nat, y = i := ⟨y.toNat, by omega⟩
                have hin : i < m := by omega
                have hi0 : (0 : Int) ≤ (i : Int) := by omega
                have hi1 : (i : Int) < (m : Int) := by omega
                obtain ⟨⟨ra, rc, rl, rn, rt, rv, rd⟩, hr⟩ : ∃ x, x = r i := ⟨_, rfl⟩
                have hRi := HRR.out i hin
                rw [← hr] at hRi
                have hdn := hRi.done
                have hO := HP2.out.own.2.1
                have k0 := hO i 0 hin (by omega)
                have k1 := hO i 1 hin (by omega)
                have k2' := hO i 2 hin (by omega)
                have k3 := hO i 3 hin (by omega)
                have k4 := hO i 4 hin (by omega)
                have k5 := hO i 5 hin (by omega)
                have k6 := hO i 6 hin (by omega)
                rw [← hr] at k0 k1 k2' k3 k4 k5 k6
                simp only [rC, Nat.add_zero, List.getElem?_cons_zero, List.getElem?_cons_succ] at k0 k1 k2' k3 k4 k5 k6
                have HRi := Lib.hid hRi
                simp only at hdn
                clear hRi hr hO
                have HDN := Lib.hid hdn
                clear hdn
                cases rd
                · have hRS := rstep_any (sl i) _ U cU f wr HRi.out HDN.out.symm HP2.out.us HFR.out
                  simp only [rV] at hRS
                  have HRS := Lib.hid hRS
                  clear hRS
                  go_wp2_with fail
                  with_reducible refine HRS.out.mono ?_
                  rintro e w7 ⟨⟨xa, xc, xl, xn, xt, xv, xd⟩, U7, d7, he, hR7, hU7, hB7, hA7⟩
                  simp only [rV] at he
                  subst he
                  have HR7 := Lib.hid hR7
                  have HPa := Lib.hid ((HP2.out.keep hB7).words hU7 (HP2.out.off.anew (HP2.out.lt HF.out) hA7))
                  clear hR7 hU7 hB7 hA7 k0 k1 k2' k3 k4 k5 k6 hcell
                  have hBx : Below w7.heap.size w7 (w7.alloc (.cells #[.int .i64 xa, .int .i64 xc, .int .i64 xl, .int .i64 xn, .int .i64 xt, .int .i64 xv, .bool xd] 41)) := (Below.refl _ _).alloc (Nat.le_refl _) _
                  have HPb := Lib.hid (HPa.out.keep hBx)
                  have HTH : Hid (World.there (w7.alloc (.cells #[.int .i64 xa, .int .i64 xc, .int .i64 xl, .int .i64 xn, .int .i64 xt, .int .i64 xv, .bool xd] 41)) gb (i * 7) #[Value.int .i64 xa, .int .i64 xc, .int .i64 xl, .int .i64 xn, .int .i64 xt, .int .i64 xv, .bool xd].size) := Lib.hid (HPb.out.own.there hin)
                  have HINF : Hid ((Tryd.prog.info? 41).map (·.size) = some #[Value.int .i64 xa, .int .i64 xc, .int .i64 xl, .int .i64 xn, .int .i64 xt, .int .i64 xv, .bool xd].size) := Lib.hid (by obtain ⟨i0, hi0, _, hz, _⟩ := info_parts info41; rw [hi0]; simp [hz])
                  have HONE : Hid (#[Value.int .i64 xa, .int .i64 xc, .int .i64 xl, .int .i64 xn, .int .i64 xt, .int .i64 xv, .bool xd].all (·.oneCell') = true) := Lib.hid (by simp [Value.oneCell'])
                  have hgl : gb < w7.heap.size := HPa.out.lt HF.out gb (.inr (.inr (.inl rfl)))
                  have hne : ¬ (w7.heap.size = gb) := by omega
                  have hPc := HPb.out.store HF.out hin ⟨xa, xc, xl, xn, xt, xv, xd⟩
                  have hCs := (HPb.out.own.store hin ⟨xa, xc, xl, xn, xt, xv, xd⟩).2
                  have b5 := hCs.cell (al_new w7 #[.int .i64 xa, .int .i64 xc, .int .i64 xl, .int .i64 xn, .int .i64 xt, .int .i64 xv, .bool xd] 41 5 _ rfl rfl) hne
                  have b4 := hCs.cell (al_new w7 #[.int .i64 xa, .int .i64 xc, .int .i64 xl, .int .i64 xn, .int .i64 xt, .int .i64 xv, .bool xd] 41 4 _ rfl rfl) hne
                  have b6 := hCs.cell (al_new w7 #[.int .i64 xa, .int .i64 xc, .int .i64 xl, .int .i64 xn, .int .i64 xt, .int .i64 xv, .bool xd] 41 6 _ rfl rfl) hne
                  simp only [rC] at hPc b4 b5 b6
                  have HPc := Lib.hid hPc
                  have HNB : Hid (¬ ST g b (B i) w7.heap.size) := Lib.hid (fun h => by
                    have h0 : own2 g b gb B m w7.heap.size := by
                      rcases h with e | e | e
                      · exact .inl e
                      · exact .inr (.inl e)
                      · exact .inr (.inr (.inr ⟨i, hin, e⟩))
                    have := HPa.out.lt HF.out _ h0
                    omega)
                  have HNG : Hid (¬ ST g b (B i) ga) := Lib.hid (fun h => HF.out.gan (by
                    rcases h with e | e | e
                    · exact .inl e
                    · exact .inr (.inl e)
                    · exact .inr (.inr (.inr ⟨i, hin, e⟩))))
                  have hpt := hPc.ptr HF.out hin
                  clear hBx hCs hPc hgl hne
                  go_wp2_with (with_reducible refine wpList_store_mid rfl 41 (.tmp 172) (.tmp 170) rfl gb (i * 7) #[.int .i64 xa, .int .i64 xc, .int .i64 xl, .int .i64 xn, .int .i64 xt, .int .i64 xv, .bool xd] rfl rfl HTH.out HINF.out HONE.out ?_)
                  generalize hW8 : ((w7.alloc (.cells #[.int .i64 xa, .int .i64 xc, .int .i64 xl, .int .i64 xn, .int .i64 xt, .int .i64 xv, .bool xd] 41)).setCells gb (i * 7) [.int .i64 xa, .int .i64 xc, .int .i64 xl, .int .i64 xn, .int .i64 xt, .int .i64 xv, .bool xd]) = w8 at *
                  clear hW8 HTH HINF HONE HPa HPb
                  have hsd := HF.out.d2 i hin
                  have hST := fun W (hB : Below w8.heap.size w8 W) => step_any (B i) g b 4 (sl i) f c W HDN.out.symm ((HPc.out.tk i hin).keep hB) (fun e => hsd.1 e.symm) (fun e => hsd.2.1 e.symm) ((HPc.out.gok HF.out).keep hB) (HPc.out.mem.keep hB) (by omega) (by have := HC.out; omega)
                  unfold StepP at hST
                  obtain ⟨t7, ht7⟩ : ∃ t, t = (sl i).next 4 (f (sl i).wh.toNat) := ⟨_, rfl⟩
                  obtain ⟨f7, hf7⟩ : ∃ t, t = upd f (sl i).wh.toNat ((sl i).word 4 (f (sl i).wh.toNat)) := ⟨_, rfl⟩
                  rw [← ht7] at HR7
                  rw [← hf7] at HPc
                  simp only [← ht7, ← hf7] at hST
                  have hR7 := HR7.out
                  have e1 := hR7.cm
                  have e2 := hR7.ps
                  have e3 := hR7.done
                  simp only at e1 e2 e3
                  simp only [← e3] at hST
                  have HST := Lib.hid hST
                  have HCm := Lib.hid (fun W (hT : TakerAt W (B i) t7) => came_any (B i) W t7 hT)
                  have HPs := Lib.hid (fun W (hT : TakerAt W (B i) t7) => passed_any (B i) W t7 hT)
                  rw [← e1] at HCm
                  rw [← e2] at HPs
                  have HFR7 : Hid (∀ i, i < 4 → 0 ≤ f7 i ∧ f7 i < 4294967296) := Lib.hid (by rw [hf7]; exact word_rng HFR.out)
                  have hxx : (xd != xd) = false := by simp
                  clear hST hR7 e1 e2 e3 hsd ht7 hf7
                  all_goals
                    go_region_held3 (fun w' => w'.cell? ⟨ga, i, none⟩ = some (.pointer (some ⟨B i, 0, none⟩)) ∧ w'.cell? ⟨w7.heap.size, 4, none⟩ = some (.int .i64 xt) ∧ w'.cell? ⟨w7.heap.size, 5, none⟩ = some (.int .i64 xv) ∧ w'.cell? ⟨w7.heap.size, 6, none⟩ = some (.bool xd)) (go_keep)
                      (first
                      | (go_at_call 13
                         with_reducible refine (HST.out _ (by repeat (first | exact Below.refl _ _ | refine Below.drew ?_))).mono ?_
                         rintro e wS ⟨rfl, ⟨c7, hc1, hc2, hM⟩, hT, hC⟩
                         have HPd := Lib.hid ((HPc.out.keep (by repeat (first | exact Below.refl _ _ | refine Below.drew ?_))).step HF.out hin hC hM hT)
                         have HC7 := Lib.hid (And.intro hc1 hc2)
                         replace hpt := hC.cell hpt HNG.out
                         replace b5 := hC.cell b5 HNB.out
                         replace b4 := hC.cell b4 HNB.out
                         replace b6 := hC.cell b6 HNB.out
                         clear hM hT hC hc1 hc2)
                      | (go_at_call 15
                         with_reducible refine (words_any g b 4 _ _ _ (HPd.out.mem.keep (by repeat (first | exact Below.refl _ _ | refine Below.drew ?_))) (by omega)).mono ?_
                         rintro e wW ⟨dW, rfl, hO, _, hB⟩
                         have HUW := Lib.hid (Us.of_row hO)
                         have HPe := Lib.hid ((HPd.out.keep (by repeat (first | exact Below.refl _ _ | refine Below.drew ?_))).keep hB)
                         replace hpt := kept hpt hB
                         replace b5 := kept b5 hB
                         replace b4 := kept b4 hB
                         replace b6 := kept b6 hB
                         clear hO hB)
                      | (go_at_call 14
                         with_reducible refine (same_yes _ _ 4 _ 4 _ _ (HUW.out.keep (by repeat (first | exact Below.refl _ _ | refine Below.drew ?_))) (HPe.out.us.keep (by repeat (first | exact Below.refl _ _ | refine Below.drew ?_))) (by omega)).mono ?_
                         rintro e wX ⟨rfl, hB⟩
                         have HPf := Lib.hid ((HPe.out.keep (by repeat (first | exact Below.refl _ _ | refine Below.drew ?_))).keep hB)
                         replace hpt := kept hpt hB
                         replace b5 := kept b5 hB
                         replace b4 := kept b4 hB
                         replace b6 := kept b6 hB
                         have hTk := HPf.out.tk i hin
                         rw [upd_same] at hTk
                         have HTk := Lib.hid hTk
                         clear hB hTk)
                      | (go_at_call 16
                         with_reducible refine (HCm.out _ (HTk.out.keep (by repeat (first | exact Below.refl _ _ | refine Below.drew ?_)))).mono ?_
                         rintro e wY ⟨rfl, rfl⟩)
                      | (go_at_call 17
                         with_reducible refine (HPs.out _ (HTk.out.keep (by repeat (first | exact Below.refl _ _ | refine Below.drew ?_)))).mono ?_
                         rintro e wY ⟨rfl, rfl⟩))
                  all_goals
                    go_wp2_with fail
                    go_roundw
                    case rel => exact ⟨k2 + 1, _, _, _, c7, U7, d7, HFR7.out, by omega, by omega, by go_num, rfl, by have := HC.out; have := HC7.out; omega, rr_upd HRR.out HR7.out, HPf.out.keep (by repeat (first | exact Below.refl _ _ | refine Below.drew ?_))⟩
                    case measure => simp [intOf]; omega
                · go_wp2_with fail
                  go_roundw
                  case rel => exact ⟨k2 + 1, sl, f, r, c, U, cU, HFR.out, by omega, by omega, by go_num, rfl, by have := HC.out; omega, HRR.out, HP2.out⟩
                  case measure => simp [intOf]; omega
          · have hk100 : ¬ (k2 : Int) < 120 := by omega
            go_wp2_with fail
            go_ret
            exact ⟨rfl, HBE.out⟩
        · have hkL : ¬ (k2 : Int) < L := by omega
          go_wp2_with fail
          go_ret
          exact ⟨rfl, HBE.out⟩
end Go.Proofs.YtcjhbmkpfclmfaaDoor
