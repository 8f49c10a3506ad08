/-
  SlotWhole answers true.
-/
import Derived.Test.YtggpljhlfhhcaaaDoorWholeA
import Derived.Deep.DeepCutAuto
namespace Go.Proofs.YtggpljhlfhhcaaaDoor
open Go.RowKit

theorem text_none {x : ByteArray} (hx : x.size = 0) : (x.toList == []) = true := by
  rw [ByteArray.toList_eq]
  have : x.data.toList = [] := List.length_eq_zero_iff.1 (by rw [Array.length_toList]; exact hx)
  rw [this]; rfl
theorem text_some {x : ByteArray} (hx : ¬ x.size = 0) : (x.toList == []) = false := by
  rw [ByteArray.toList_eq, beq_eq_false_iff_ne]
  intro h
  exact hx (by have := congrArg List.length h; rw [Array.length_toList] at this; exact this)
/-- The outer loop's relation. -/
def WhR (H n2 : Nat) (M : Nat → ByteArray) (T : Nat → Int) (g b : Nat) (w0 : World) (iv av lv dv gv wv tv : Value) (wr : World) : Prop :=
  ∃ (k a l : Nat) (d : Bool) (K R X Y cx cy : Nat) (f : Nat → Int) (r : Rd), k ≤ 8 ∧ a ≤ 200 ∧ iv = .int .i64 k ∧ av = .int .i64 a ∧ lv = .int .i64 l ∧ dv = .bool d ∧ gv = .pointer (some ⟨K, 0, none⟩) ∧ wv = .slice (some ⟨X, 0, none⟩) (k + 1) cx ∧ tv = .slice (some ⟨Y, 0, none⟩) (k + 1) cy ∧ Wh H n2 M T g b k a l d K R X Y cx cy f r w0 wr
/-- The inner loop's. -/
def WiR (H n2 : Nat) (M : Nat → ByteArray) (T : Nat → Int) (g b k X Y cx cy a0 P B ca G : Nat) (w0 : World) (av lv dv gv : Value) (wr : World) : Prop :=
  ∃ (a l : Nat) (d : Bool) (K R : Nat) (f : Nat → Int) (r : Rd) (s : Wr), a ≤ 200 ∧ av = .int .i64 a ∧ lv = .int .i64 l ∧ dv = .bool d ∧ gv = .pointer (some ⟨K, 0, none⟩) ∧ Wi H n2 M T g b k a l d K R X Y cx cy f r a0 P B ca G s w0 wr
set_option maxHeartbeats 4000000 in
set_option maxRecDepth 100000 in
theorem walk_whole (A0 : Option Addr) (L : List ByteArray) (c0 : Nat) (A1 : Option Addr) (tl : List Int) (c1 : Nat) (A2 : Option Addr) (pl : List Int) (c2 : Nat) (w : World) (hG : GOk w) (hL : MsgsP w A0 L) (ht : NumsP .u32 4294967296 w A1 tl) (hp : NumsP .u8 256 w A2 pl) :
    Calls Tryd.prog 4 #[.slice A0 L.length c0, .slice A1 tl.length c1, .slice A2 pl.length c2] w fun e w' => e = .returned (.bool true) ∧ Below w.heap.size w w' := by
  have h6 := six_of hG
  have HG := Lib.hid hG
  have HL := Lib.hid hL
  have HT := Lib.hid ht
  have HP := Lib.hid hp
  have HN := Lib.hid (new_one 5 (by omega) (by omega) 5 rfl w)
  obtain ⟨n0, hn0⟩ : ∃ n0, n0 = L.length := ⟨_, rfl⟩
  obtain ⟨n1, hn1⟩ : ∃ n1, n1 = tl.length := ⟨_, rfl⟩
  obtain ⟨n2, hn2⟩ : ∃ n2, n2 = pl.length := ⟨_, rfl⟩
  have HN0 := Lib.hid hn0
  have HN1 := Lib.hid hn1
  have HN2 := Lib.hid hn2
  have b0 : (n0 : Int) ≤ 9223372036854775807 := by have := hL.2.2; omega
  have b1 : (n1 : Int) ≤ 9223372036854775807 := by have := ht.2.2; omega
  have b2 : (n2 : Int) ≤ 9223372036854775807 := by have := hp.2.2; omega
  rw [← hn0, ← hn1, ← hn2]
  clear hG hL ht hp hn0 hn1 hn2
  go_enter Tryd.func4, Tryd.ntmps4
  go_wp2_with fail
  with_reducible refine HN.out.mono ?_
  rintro e w1 ⟨g, b, rfl, hM1, hg1, hb1, hB1⟩
  have HM1 := Lib.hid hM1
  have HI := Lib.hid (And.intro hg1 hb1)
  have HB1 := Lib.hid hB1
  clear hM1 hg1 hb1 hB1 HN
  go_wp2_with fail
  with_reducible refine (newget_yes 0 8 8 w1 rfl (by omega) (by omega) (by omega)).mono ?_
  rintro e w2 ⟨rfl, hR2, hK2, hB2, hz2⟩
  have HB2 := Lib.hid (HB1.out.trans (hB2.mono HB1.out.size))
  have HS2 : Hid (Sm w.heap.size w2 g b 5 (w1.heap.size + 1) w1.heap.size 8 (fun _ => 0) 0 (rd0 0 (2 + need 8))) := Lib.hid (sm_of (HM1.out.keep hB2) hR2 hK2 (HG.out.keep HB2.out) (fun _ _ => by show (0 : Int) ≤ 0 ∧ (0 : Int) < 4294967296; omega) (fun _ => by show (0 : Int) ≤ 0 ∧ (0 : Int) < 4294967296; omega) h6 (by have := HM1.out.ltg; have := HM1.out.row.lt; have := HI.out; omega) (by omega))
  clear hR2 hK2 hB2 hz2 HM1
  go_wp2_with fail
  with_reducible refine (awake_any w2 (HG.out.keep HB2.out)).mono ?_
  rintro e w3 ⟨rfl, hB3⟩
  have HB3 := Lib.hid (HB2.out.trans (hB3.mono HB2.out.size))
  have HS3 := Lib.hid (HS2.out.keep hB3)
  clear hB3 HS2
  go_wp2_with fail
  have HM := Lib.hid (msgW_size L)
  have HTK := Lib.hid (fun k (hk : k < 100) => tickW_rng HT.out.2.1 (k := k) hk)
  obtain ⟨M, hM⟩ : ∃ M, M = msgW L := ⟨_, rfl⟩
  obtain ⟨T, hT⟩ : ∃ T, T = tickW tl := ⟨_, rfl⟩
  have HMM := Lib.hid hM
  have HTT := Lib.hid hT
  rw [← hM] at HM
  rw [← hT] at HTK
  clear hM hT
  have HW0 := Lib.hid (wh_0 (n2 := n2) (M := M) (T := T) HS3.out HB3.out)
  clear HS3
  go_loopw [16, 11, 12, 13, 9, 14, 15] (fun iv av lv dv gv wv tv wr => WhR w.heap.size n2 M T g b w iv av lv dv gv wv tv wr) (fun iv _ _ _ _ _ _ _ => 8 - (intOf iv).toNat)
  case atStart => exact ⟨0, 0, 0, false, _, _, _, _, _, _, _, _, by omega, by omega, rfl, rfl, rfl, rfl, rfl, rfl, rfl, HW0.out⟩
  case round =>
    obtain ⟨k, a, l, d, K, R, X, Y, cx, cy, f, r, hk, ha, rfl, rfl, rfl, rfl, rfl, rfl, rfl, hW⟩ := hrel
    have HW := Lib.hid hW
    clear hW
    by_cases hlt : k < n0 ∧ k < 8
    · obtain ⟨hk1, hk2⟩ := hlt
      obtain ⟨A0b, A0o, rfl⟩ : ∃ x o, A0 = some ⟨x, o, none⟩ := by
        obtain ⟨x, o, e, _⟩ := HL.out.1 k (by rw [← HN0.out]; exact hk1)
        exact ⟨x, o, e⟩
      obtain ⟨sm, hsm⟩ : ∃ sm, sm = L.getD k ByteArray.empty := ⟨_, rfl⟩
      have HSM := Lib.hid hsm
      have cs : wr.cell? ⟨A0b, A0o + k, none⟩ = some (.string sm) := by
        obtain ⟨x, o, e, hb, hc⟩ := HL.out.1 k (by rw [← HN0.out]; exact hk1)
        injection e with e
        injection e with e1 e2
        subst e1 e2
        rw [HW.out.bel.cell (p := ⟨_, _, none⟩) hb, hc, hsm, List.getD_eq_getElem?_getD, List.getElem?_eq_getElem (by rw [← HN0.out]; exact hk1)]
        rfl
      have hk1' : (k : Int) < n0 := by omega
      have hk2' : (k : Int) < 8 := by omega
      have hk0 : (0 : Int) ≤ k := by omega
      have hku : IntKind.u32.wrap (k : Int) = k := by rw [IntKind.wrap_u32']; omega
      clear hsm
      go_upto_if 74 with fail
      go_cut [18] (fun tv wx => tv = .int .u32 (T k) ∧ wx = wr)
      case first => as_aux_lemma =>
        by_cases h1 : k < n1
        · obtain ⟨A1b, A1o, rfl⟩ : ∃ x o, A1 = some ⟨x, o, none⟩ := HT.out.1.head (i := k) (by rw [← HN1.out]; exact h1)
          have ct := kept (HT.out.1.cell (i := k) (by rw [← HN1.out]; exact h1)) (HW.out.bel)
          have h1' : (k : Int) < n1 := by omega
          have hTk : Hid (tl.getD k 0 = T k) := Lib.hid (by rw [HTT.out]; unfold tickW; rw [if_pos (by rw [← HN1.out]; exact h1)])
          go_wp2_with fail
          go_meet
          case rel => exact ⟨by rw [← hTk.out, List.getD_eq_getElem?_getD], rfl⟩
        · have h1' : ¬ ((k : Int) < n1) := by omega
          have hTk : Hid ((k : Int) = T k) := Lib.hid (by rw [HTT.out]; unfold tickW; rw [if_neg (by rw [← HN1.out]; exact h1)])
          go_wp2_with fail
          go_meet
          case rel => exact ⟨by rw [← hTk.out], rfl⟩
      case rest =>
        obtain ⟨rfl, hwc⟩ := hcut
        have hwc := hwc.symm
        subst hwc
        go_upto_if 81 with fail
        go_cut [17] (fun sv wx => sv = .string (if 8 < sm.size then sm.extract 0 8 else sm) ∧ wx = wr)
        case first => as_aux_lemma =>
          by_cases h1 : 8 < sm.size
          · have h1' : 8 < (sm.size : Int) := by omega
            go_wp2_with fail
            go_meet
            case rel => exact ⟨by rw [if_pos h1], rfl⟩
          · have h1' : ¬ 8 < (sm.size : Int) := by omega
            go_wp2_with fail
            go_meet
            case rel => exact ⟨by rw [if_neg h1], rfl⟩
        case rest =>
        obtain ⟨rfl, hwc⟩ := hcut
        have hwc := hwc.symm
        subst hwc
        go_upto_if 85 with fail
        go_cut [17] (fun sv wx => sv = .string (M k) ∧ wx = wr)
        case first => as_aux_lemma =>
          by_cases h1 : 8 < sm.size
          · have hMk : Hid (sm.extract 0 8 = M k) := Lib.hid (by rw [HMM.out]; unfold msgW; rw [← HSM.out, if_pos h1])
            have hnl := text_some (x := sm.extract 0 8) (by rw [ByteArray.size_extract]; omega)
            rw [if_pos h1]
            generalize sm.extract 0 8 = s8 at *
            have hnl2 : ¬ s8.toList = [] := by simpa using hnl
            have hnl3 : s8.toList.isEmpty = false := by simpa using hnl
            rw [hnl3]
            go_wp2_with fail
            go_meet
            case rel => exact ⟨by rw [← hMk.out], rfl⟩
          · rw [if_neg h1]
            by_cases h2 : sm.size = 0
            · have hMk : Hid (⟨#[101]⟩ = M k) := Lib.hid (by rw [HMM.out]; unfold msgW; rw [← HSM.out, if_neg h1, if_pos h2])
              have hnl := text_none h2
              have hnl2 : sm.toList = [] := by simpa using hnl
              have hnl3 : sm.toList.isEmpty = true := by simpa using hnl
              rw [hnl3]
              go_wp2_with fail
              go_meet
              case rel => exact ⟨by rw [← hMk.out], rfl⟩
            · have hMk : Hid (sm = M k) := Lib.hid (by rw [HMM.out]; unfold msgW; rw [← HSM.out, if_neg h1, if_neg h2])
              have hnl := text_some h2
              have hnl2 : ¬ sm.toList = [] := by simpa using hnl
              have hnl3 : sm.toList.isEmpty = false := by simpa using hnl
              rw [hnl3]
              go_wp2_with fail
              go_meet
              case rel => exact ⟨by rw [← hMk.out], rfl⟩
        case rest =>
        obtain ⟨rfl, hwc⟩ := hcut
        have hwc := hwc.symm
        subst hwc
        go_wp2_with fail
        with_reducible refine (newput_yes 0 8 8 (M k) (T k) wr rfl (by omega) (by omega) (HM.out k).1 (HM.out k).2 (HTK.out k (by omega)) (by omega)).mono ?_
        rintro e w4 ⟨hB4, P, B, G, ca, rfl, hG1, hG2, hP1, hP2, hWa, hPu⟩
        have HB4 := Lib.hid hB4
        have HX4 := Lib.hid (And.intro hG1 (And.intro hG2 (And.intro hP1 hP2)))
        have HWA := Lib.hid hWa
        have HPU := Lib.hid hPu
        have HWS := Lib.hid (HW.out.was.keep hB4)
        have HS4 := Lib.hid (Nat.le_trans HW.out.sm.hs hB4.size)
        clear hB4 hG1 hG2 hP1 hP2 hWa hPu cs hk1'
        go_wp2_with (at_builtin; refine wpList_app rfl (.tmp 98) (.tmp 100) 23 9 (.string ⟨#[]⟩) 16 rfl Tryd.underlying23 info9 rfl (by decide) HWS.out.s (by rw [wasL_len]; omega) rfl rfl rfl ?_)
        intro X' cx' wa hg1 hc1 he1 hl1
        rw [wasL_len] at hg1
        have HA1 := Lib.hid (And.intro hg1 (And.intro hc1 (And.intro he1 hl1)))
        have HWT := Lib.hid (HWS.out.t.chg hc1 (fun x hx he => by
          injection hx with hx
          injection he with he
          have h1 : Y = x := hx
          have h2 : X = x := he
          have := HWS.out.lo
          omega))
        simp only [wasL_len]
        clear hg1 hc1 he1 hl1
        go_wp2_with (at_builtin; refine wpList_app rfl (.tmp 102) (.tmp 104) 22 32 (.int .u32 0) 4 rfl Tryd.underlying22 info32 rfl (by decide) HWT.out (by rw [whenL_len]; omega) rfl rfl rfl ?_)
        intro Y' cy' wb hg2 hc2 he2 hl2
        rw [whenL_len] at hg2
        simp only [whenL_len]
        obtain ⟨q1, q2, q3, q4⟩ := HWS.out.push HA1.out.1 HA1.out.2.1 HA1.out.2.2.1 HA1.out.2.2.2 hg2 hc2 he2 HS4.out
        have HWI := Lib.hid (HW.out.begin HB4.out HX4.out.1 HX4.out.2.1 HX4.out.2.2.1 HX4.out.2.2.2 HWA.out HPU.out (HM.out k).2 (HTK.out k (by omega)) q1 q2 q3 q4)
        clear hg2 hc2 he2 hl2 q1 q2 q3 q4 HA1 HWT HWA HPU HWS
        go_wp2_with fail
        go_loopw [11, 12, 13, 9] (fun av lv dv gv wr => WiR w.heap.size n2 M T g b k X' Y' cx' cy' a P B ca G w av lv dv gv wr) (fun av _ _ _ _ => 200 - (intOf av).toNat)
        case atStart => exact ⟨a, l, d, K, R, f, r, _, ha, rfl, rfl, rfl, rfl, HWI.out⟩
        case round =>
          obtain ⟨a1, l1, d1, K1, R1, f1, r1, s1, ha1, rfl, rfl, rfl, rfl, hW⟩ := hrel
          have HV := Lib.hid hW
          have pc := hW.pt.pt.c0
          have gc := hW.sm.gt.c0
          clear hW
          by_cases hs0 : s1.wr = 0
          · by_cases hc : a1 < n2 ∧ a1 < 200
            · have HC := Lib.hid hc
              obtain ⟨hc1, hc2⟩ := hc
              have hc1' : (a1 : Int) < n2 := by omega
              have hc2' : (a1 : Int) < 200 := by omega
              have ha0 : (0 : Int) ≤ a1 := by omega
              have he1 : IntKind.i64.wrap ((a1 : Int) + 1) = (a1 : Int) + 1 := IntWalk.i64_in _ (by omega)
              have he2 : IntKind.i64.wrap ((a1 : Int) + 1 - 1) = (a1 : Int) := by rw [IntWalk.i64_in _ (by omega)]; omega
              obtain ⟨A2b, A2o, rfl⟩ : ∃ x o, A2 = some ⟨x, o, none⟩ := HP.out.1.head (i := a1) (by rw [← HN2.out]; exact hc1)
              obtain ⟨y, hy⟩ : ∃ y, y = pl.getD a1 0 := ⟨_, rfl⟩
              have cp := HP.out.1.cell (i := a1) (by rw [← HN2.out]; exact hc1)
              have cp := kept cp HV.out.bel
              rw [← hy] at cp
              have hyr : 0 ≤ y ∧ y < 256 := by rw [hy]; exact HP.out.2.1 a1
              obtain ⟨q, hq⟩ : ∃ q, q = bits .and .u8 y 1 := ⟨_, rfl⟩
              have hqe := hq.symm
              clear hq hy hyr
              by_cases hq0 : q = 0
              · subst hq0
                obtain ⟨dd, hst⟩ := wi_write HV.out HC.out (by omega) hs0
                have HST := Lib.hid hst
                have hz0 : (s1.wr : Int) = 0 := by omega
                clear hst hs0
                go_wp2_with fail
                with_reducible refine (sl_written HV.out.pt 0 hz0).mono ?_
                rintro e x5 ⟨rfl, rfl⟩
                go_wp2_with fail
                with_reducible refine HST.out.mono ?_
                rintro e w5 ⟨rfl, hW5⟩
                have HW5 := Lib.hid hW5
                clear hW5 pc gc cp
                go_wp2_with fail
                go_roundw
                case rel => exact ⟨a1 + 1, l1, d1, K1, R1, _, r1, _, by omega, by go_num, rfl, rfl, rfl, HW5.out⟩
                case measure => simp [intOf]; omega
              · have hqb : (q == 0) = false := by simpa using hq0
                cases d1
                · as_aux_lemma =>
                  go_wp2_with fail
                  with_reducible refine (sl_written HV.out.pt 0 (by omega)).mono ?_
                  rintro e x5 ⟨rfl, rfl⟩
                  obtain ⟨f2, r2, hst⟩ := wi_read HV.out HC.out hs0
                  have hz0 : (s1.wr : Int) = 0 := by omega
                  have gc := HV.out.sm.gt.c0
                  by_cases h3 : r2.k.ph = 3
                  · rw [decide_eq_true h3] at hst
                    have HST := Lib.hid hst
                    clear hst
                    go_wp2_with fail
                    with_reducible refine (sm_tries HV.out.sm _ rfl).mono ?_
                    rintro e x6 ⟨rfl, rfl⟩
                    go_wp2_with fail
                    with_reducible refine HST.out.mono ?_
                    rintro e w6 ⟨rfl, hc6⟩
                    rcases hc6 with ⟨htr, hW6⟩ | ⟨_, hph, _⟩
                    · have hms := wi_said hW6 (by have := hW6.le; have := HV.out.le; have := HC.out; omega) h3 (fun k => (HM.out k).2) hs0
                      have HW6 := Lib.hid hW6
                      have HMS := Lib.hid hms.1
                      have hlk := hms.2
                      have gc6 := hW6.sm.gt.c0
                      have HTR := Lib.hid htr
                      obtain ⟨ti, hti⟩ : ∃ ti : Int, ti = (r1.tr : Nat) := ⟨_, rfl⟩
                      have HTI := Lib.hid hti
                      rw [← hti]
                      clear hti
                      have hirr : ¬ (ti < ti) := by omega
                      clear hW6 hms gc pc htr
                      go_wp2_with fail
                      with_reducible refine (sm_tries HW6.out.sm ti (by rw [HTR.out, HTI.out])).mono ?_
                      rintro e x7 ⟨rfl, rfl⟩
                      go_wp2_with fail
                      with_reducible refine HMS.out.mono ?_
                      rintro e w7 ⟨rfl, hB7⟩
                      have HW7 := Lib.hid (HW6.out.keep hB7)
                      clear hB7 gc6
                      obtain ⟨sx, hsx⟩ : ∃ sx, sx = wasM M l1 := ⟨_, rfl⟩
                      obtain ⟨tx, htx⟩ : ∃ tx, tx = whenT T l1 := ⟨_, rfl⟩
                      have HSX := Lib.hid hsx
                      have HTX := Lib.hid htx
                      rw [← hsx, ← htx]
                      clear hsx htx
                      go_wp2_with fail
                      go_loop [25, 26] (fun fv jv => ∃ j : Nat, l1 ≤ j ∧ j ≤ k + 1 + 1 ∧ fv = .bool (decide (l1 < j)) ∧ jv = .int .i64 j) (fun _ jv => k + 1 + 1 - (intOf jv).toNat)
                      case atStart => exact ⟨l1, Nat.le_refl _, by omega, by rw [decide_eq_false (by omega)], rfl⟩
                      case round =>
                        obtain ⟨j, hj1, hj2, rfl, rfl⟩ := hrel
                        by_cases hj : j < k + 1 + 1
                        · have hj' : (j : Int) < ((k + 1 + 1 : Nat) : Int) := by omega
                          have hj0 : (0 : Int) ≤ j := by omega
                          by_cases he : l1 < j
                          · rw [decide_eq_true he]
                            go_wp2_with fail
                            go_round
                            case rel => exact ⟨j + 1, by omega, by omega, by rw [decide_eq_true (by omega)], by go_num⟩
                            case measure => simp [intOf]; omega
                          · obtain rfl : j = l1 := by omega
                            have cw := HW7.out.was.was hj
                            have ct := HW7.out.was.when hj
                            rw [← HSX.out] at cw
                            rw [← HTX.out] at ct
                            rw [decide_eq_false he]
                            go_wp2_with fail
                            go_round
                            case rel => exact ⟨j + 1, by omega, by omega, by rw [decide_eq_true (by omega)], by go_num⟩
                            case measure => simp [intOf]; omega
                        · obtain rfl : j = k + 1 + 1 := by omega
                          have hlt : l1 < k + 1 + 1 := by omega
                          rw [decide_eq_true hlt]
                          go_wp2_with fail
                          go_roundw
                          case rel => exact ⟨a1 + 1, l1, true, K1, R1, f2, r2, s1, by omega, by go_num, rfl, rfl, rfl, HW7.out⟩
                          case measure => simp [intOf]; omega
                    · omega
                  · rw [decide_eq_false h3] at hst
                    have HST := Lib.hid hst
                    clear hst
                    go_wp2_with fail
                    with_reducible refine (sm_tries HV.out.sm _ rfl).mono ?_
                    rintro e x6 ⟨rfl, rfl⟩
                    go_wp2_with fail
                    with_reducible refine HST.out.mono ?_
                    rintro e w6 ⟨rfl, hc6⟩
                    rcases hc6 with ⟨htr, hW6⟩ | ⟨htr, _, hW6⟩
                    · have HW6 := Lib.hid hW6
                      have gc6 := hW6.sm.gt.c0
                      have HTR := Lib.hid htr
                      have H3 := Lib.hid h3
                      obtain ⟨ti, hti⟩ : ∃ ti : Int, ti = (r1.tr : Nat) := ⟨_, rfl⟩
                      have HTI := Lib.hid hti
                      rw [← hti]
                      clear hti
                      have hirr : ¬ (ti < ti) := by omega
                      clear hW6 gc pc htr h3
                      go_wp2_with fail
                      with_reducible refine (sm_tries HW6.out.sm ti (by rw [HTR.out, HTI.out])).mono ?_
                      rintro e x7 ⟨rfl, rfl⟩
                      go_wp2_with fail
                      with_reducible refine (sm_message_no HW6.out.sm H3.out).mono ?_
                      rintro e x8 ⟨rfl, rfl⟩
                      go_wp2_with fail
                      go_roundw
                      case rel => exact ⟨a1 + 1, l1, false, K1, R1, f2, r2, s1, by omega, by go_num, rfl, rfl, rfl, HW6.out⟩
                      case measure => simp [intOf]; omega
                    · have HW6 := Lib.hid hW6
                      have gc6 := hW6.sm.gt.c0
                      have pc6 := hW6.pt.pt.c0
                      have HTR := Lib.hid htr
                      have H3 := Lib.hid h3
                      obtain ⟨ti, hti⟩ : ∃ ti : Int, ti = (r1.tr : Nat) := ⟨_, rfl⟩
                      have HTI := Lib.hid hti
                      rw [← hti]
                      clear hti
                      have hirr : ti < ti + 1 := by omega
                      have htr2 : (r2.tr : Int) = ti + 1 := by have h1 := HTR.out; have h2 := HTI.out; omega
                      have hkk : IntKind.i64.wrap ((k : Int) + 0) = k := by rw [IntWalk.i64_in _ (by omega)]; omega
                      clear hW6 gc pc htr h3
                      go_wp2_with fail
                      with_reducible refine (sm_tries HW6.out.sm (ti + 1) htr2).mono ?_
                      rintro e x7 ⟨rfl, rfl⟩
                      go_wp2_with fail
                      with_reducible refine (sl_written HW6.out.pt 0 hz0).mono ?_
                      rintro e x8 ⟨rfl, rfl⟩
                      go_wp2_with fail
                      with_reducible refine (sm_message_no HW6.out.sm H3.out).mono ?_
                      rintro e x9 ⟨rfl, rfl⟩
                      go_wp2_with fail
                      go_roundw
                      case rel => exact ⟨a1 + 1, k, false, K1, R1, f2, r2, s1, by omega, by go_num, rfl, rfl, rfl, HW6.out⟩
                      case measure => simp [intOf]; omega

                · as_aux_lemma =>
                  go_wp2_with fail
                  with_reducible refine (sl_written HV.out.pt 0 (by omega)).mono ?_
                  rintro e x5 ⟨rfl, rfl⟩
                  go_wp2_with fail
                  with_reducible refine (newget_yes 0 8 8 wr rfl (by omega) (by omega) (by omega)).mono ?_
                  rintro e wn ⟨rfl, hRn, hKn, hBn, _⟩
                  have HVn := Lib.hid (HV.out.anew hBn hRn hKn)
                  have pc := HVn.out.pt.pt.c0
                  obtain ⟨R9, hR9⟩ : ∃ R9, R9 = wr.heap.size := ⟨_, rfl⟩
                  obtain ⟨r9, hr9⟩ : ∃ r9, r9 = rd0 0 (2 + need 8) := ⟨_, rfl⟩
                  rw [← hR9, ← hr9] at HVn
                  rw [← hR9]
                  have HV := HVn
                  clear hRn hKn hBn HVn hR9 hr9 gc cp
                  obtain ⟨f2, r2, hst⟩ := wi_read HV.out HC.out hs0
                  have hz0 : (s1.wr : Int) = 0 := by omega
                  have gc := HV.out.sm.gt.c0
                  by_cases h3 : r2.k.ph = 3
                  · rw [decide_eq_true h3] at hst
                    have HST := Lib.hid hst
                    clear hst
                    go_wp2_with fail
                    with_reducible refine (sm_tries HV.out.sm _ rfl).mono ?_
                    rintro e x6 ⟨rfl, rfl⟩
                    go_wp2_with fail
                    with_reducible refine HST.out.mono ?_
                    rintro e w6 ⟨rfl, hc6⟩
                    rcases hc6 with ⟨htr, hW6⟩ | ⟨_, hph, _⟩
                    · have hms := wi_said hW6 (by have := hW6.le; have := HV.out.le; have := HC.out; omega) h3 (fun k => (HM.out k).2) hs0
                      have HW6 := Lib.hid hW6
                      have HMS := Lib.hid hms.1
                      have hlk := hms.2
                      have gc6 := hW6.sm.gt.c0
                      have HTR := Lib.hid htr
                      obtain ⟨ti, hti⟩ : ∃ ti : Int, ti = (r9.tr : Nat) := ⟨_, rfl⟩
                      have HTI := Lib.hid hti
                      rw [← hti]
                      clear hti
                      have hirr : ¬ (ti < ti) := by omega
                      clear hW6 hms gc pc htr
                      go_wp2_with fail
                      with_reducible refine (sm_tries HW6.out.sm ti (by rw [HTR.out, HTI.out])).mono ?_
                      rintro e x7 ⟨rfl, rfl⟩
                      go_wp2_with fail
                      with_reducible refine HMS.out.mono ?_
                      rintro e w7 ⟨rfl, hB7⟩
                      have HW7 := Lib.hid (HW6.out.keep hB7)
                      clear hB7 gc6
                      obtain ⟨sx, hsx⟩ : ∃ sx, sx = wasM M l1 := ⟨_, rfl⟩
                      obtain ⟨tx, htx⟩ : ∃ tx, tx = whenT T l1 := ⟨_, rfl⟩
                      have HSX := Lib.hid hsx
                      have HTX := Lib.hid htx
                      rw [← hsx, ← htx]
                      clear hsx htx
                      go_wp2_with fail
                      go_loop [25, 26] (fun fv jv => ∃ j : Nat, l1 ≤ j ∧ j ≤ k + 1 + 1 ∧ fv = .bool (decide (l1 < j)) ∧ jv = .int .i64 j) (fun _ jv => k + 1 + 1 - (intOf jv).toNat)
                      case atStart => exact ⟨l1, Nat.le_refl _, by omega, by rw [decide_eq_false (by omega)], rfl⟩
                      case round =>
                        obtain ⟨j, hj1, hj2, rfl, rfl⟩ := hrel
                        by_cases hj : j < k + 1 + 1
                        · have hj' : (j : Int) < ((k + 1 + 1 : Nat) : Int) := by omega
                          have hj0 : (0 : Int) ≤ j := by omega
                          by_cases he : l1 < j
                          · rw [decide_eq_true he]
                            go_wp2_with fail
                            go_round
                            case rel => exact ⟨j + 1, by omega, by omega, by rw [decide_eq_true (by omega)], by go_num⟩
                            case measure => simp [intOf]; omega
                          · obtain rfl : j = l1 := by omega
                            have cw := HW7.out.was.was hj
                            have ct := HW7.out.was.when hj
                            rw [← HSX.out] at cw
                            rw [← HTX.out] at ct
                            rw [decide_eq_false he]
                            go_wp2_with fail
                            go_round
                            case rel => exact ⟨j + 1, by omega, by omega, by rw [decide_eq_true (by omega)], by go_num⟩
                            case measure => simp [intOf]; omega
                        · obtain rfl : j = k + 1 + 1 := by omega
                          have hlt : l1 < k + 1 + 1 := by omega
                          rw [decide_eq_true hlt]
                          go_wp2_with fail
                          go_roundw
                          case rel => exact ⟨a1 + 1, l1, true, (R9 + 1), R9, f2, r2, s1, by omega, by go_num, rfl, rfl, rfl, HW7.out⟩
                          case measure => simp [intOf]; omega
                    · omega
                  · rw [decide_eq_false h3] at hst
                    have HST := Lib.hid hst
                    clear hst
                    go_wp2_with fail
                    with_reducible refine (sm_tries HV.out.sm _ rfl).mono ?_
                    rintro e x6 ⟨rfl, rfl⟩
                    go_wp2_with fail
                    with_reducible refine HST.out.mono ?_
                    rintro e w6 ⟨rfl, hc6⟩
                    rcases hc6 with ⟨htr, hW6⟩ | ⟨htr, _, hW6⟩
                    · have HW6 := Lib.hid hW6
                      have gc6 := hW6.sm.gt.c0
                      have HTR := Lib.hid htr
                      have H3 := Lib.hid h3
                      obtain ⟨ti, hti⟩ : ∃ ti : Int, ti = (r9.tr : Nat) := ⟨_, rfl⟩
                      have HTI := Lib.hid hti
                      rw [← hti]
                      clear hti
                      have hirr : ¬ (ti < ti) := by omega
                      clear hW6 gc pc htr h3
                      go_wp2_with fail
                      with_reducible refine (sm_tries HW6.out.sm ti (by rw [HTR.out, HTI.out])).mono ?_
                      rintro e x7 ⟨rfl, rfl⟩
                      go_wp2_with fail
                      with_reducible refine (sm_message_no HW6.out.sm H3.out).mono ?_
                      rintro e x8 ⟨rfl, rfl⟩
                      go_wp2_with fail
                      go_roundw
                      case rel => exact ⟨a1 + 1, l1, false, (R9 + 1), R9, f2, r2, s1, by omega, by go_num, rfl, rfl, rfl, HW6.out⟩
                      case measure => simp [intOf]; omega
                    · have HW6 := Lib.hid hW6
                      have gc6 := hW6.sm.gt.c0
                      have pc6 := hW6.pt.pt.c0
                      have HTR := Lib.hid htr
                      have H3 := Lib.hid h3
                      obtain ⟨ti, hti⟩ : ∃ ti : Int, ti = (r9.tr : Nat) := ⟨_, rfl⟩
                      have HTI := Lib.hid hti
                      rw [← hti]
                      clear hti
                      have hirr : ti < ti + 1 := by omega
                      have htr2 : (r2.tr : Int) = ti + 1 := by have h1 := HTR.out; have h2 := HTI.out; omega
                      have hkk : IntKind.i64.wrap ((k : Int) + 0) = k := by rw [IntWalk.i64_in _ (by omega)]; omega
                      clear hW6 gc pc htr h3
                      go_wp2_with fail
                      with_reducible refine (sm_tries HW6.out.sm (ti + 1) htr2).mono ?_
                      rintro e x7 ⟨rfl, rfl⟩
                      go_wp2_with fail
                      with_reducible refine (sl_written HW6.out.pt 0 hz0).mono ?_
                      rintro e x8 ⟨rfl, rfl⟩
                      go_wp2_with fail
                      with_reducible refine (sm_message_no HW6.out.sm H3.out).mono ?_
                      rintro e x9 ⟨rfl, rfl⟩
                      go_wp2_with fail
                      go_roundw
                      case rel => exact ⟨a1 + 1, k, false, (R9 + 1), R9, f2, r2, s1, by omega, by go_num, rfl, rfl, rfl, HW6.out⟩
                      case measure => simp [intOf]; omega

            · have HO := Lib.hid (HV.out.out (.inr hc))
              have hz0 : (s1.wr : Int) = 0 := by omega
              by_cases hc1 : a1 < n2
              · have hc1' : (a1 : Int) < n2 := by omega
                have hc2' : ¬ ((a1 : Int) < 200) := by omega
                clear hc hs0 gc
                go_wp2_with fail
                with_reducible refine (sl_written HV.out.pt 0 hz0).mono ?_
                rintro e x5 ⟨rfl, rfl⟩
                go_wp2_with fail
                go_roundw
                case rel => exact ⟨k + 1, a1, l1, d1, K1, R1, X', Y', cx', cy', f1, r1, by omega, ha1, by go_num, rfl, rfl, rfl, rfl, rfl, rfl, HO.out⟩
                case measure => simp [intOf]; omega
              · have hc1' : ¬ ((a1 : Int) < n2) := by omega
                clear hc hs0 gc
                go_wp2_with fail
                with_reducible refine (sl_written HV.out.pt 0 hz0).mono ?_
                rintro e x5 ⟨rfl, rfl⟩
                go_wp2_with fail
                go_roundw
                case rel => exact ⟨k + 1, a1, l1, d1, K1, R1, X', Y', cx', cy', f1, r1, by omega, ha1, by go_num, rfl, rfl, rfl, rfl, rfl, rfl, HO.out⟩
                case measure => simp [intOf]; omega
          · have HO := Lib.hid (HV.out.out (.inl hs0))
            have hzb : ((s1.wr : Int) == 0) = false := by
              apply beq_false_of_ne
              omega
            clear gc
            go_wp2_with fail
            with_reducible refine (sl_written HV.out.pt _ rfl).mono ?_
            rintro e x5 ⟨rfl, rfl⟩
            go_wp2_with fail
            go_roundw
            case rel => exact ⟨k + 1, a1, l1, d1, K1, R1, X', Y', cx', cy', f1, r1, by omega, ha1, by go_num, rfl, rfl, rfl, rfl, rfl, rfl, HO.out⟩
            case measure => simp [intOf]; omega
    · have HBE := Lib.hid HW.out.bel
      by_cases h1 : k < n0
      · have h1' : (k : Int) < n0 := by omega
        have h2' : ¬ ((k : Int) < 8) := by omega
        go_wp2_with fail
        go_ret
        exact ⟨rfl, HBE.out⟩
      · have h1' : ¬ ((k : Int) < n0) := by omega
        go_wp2_with fail
        go_ret
        exact ⟨rfl, HBE.out⟩
end Go.Proofs.YtggpljhlfhhcaaaDoor
