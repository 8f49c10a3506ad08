/-
  Refused when full, empty when empty.
-/
import Derived.Test.YtnmobalgghggnaaDoorFullP
namespace Go.Proofs.YtnmobalgghggnaaDoor
open Go.RowKit

theorem ab0_run {wl w : World} {g B C : Nat} {h : Int} {pl sz : Nat} {L : List ByteArray} {f : Nat → Int} (hF : Fix h pl sz L) (hS : SysR wl 80 g B C (sd0 0 pl sz L) (rv0 0 pl sz 40) f 1000 w) (h0 : f 0 = h) (h1 : f 1 = h) : RunA wl g B C h pl sz L (ab0 L) 1000 w :=
  ⟨_, _, _, hS, inv_0 h0 h1 hF.hh hF.four⟩
theorem bool_row {w : World} {d : Nat} {l : List Bool} {x : Bool} (h : RowL w d 4 ((l ++ [x]).map Value.bool)) : w.cell? ⟨d, l.length, none⟩ = some (.bool x) := by
  have := RowL.cell h (i := l.length) (by simp)
  simpa using this
theorem str_row {w : World} {d : Nat} {l : List ByteArray} {x : ByteArray} (h : RowL w d 9 ((l ++ [x]).map Value.string)) : w.cell? ⟨d, l.length, none⟩ = some (.string x) := by
  have := RowL.cell h (i := l.length) (by simp)
  simpa using this
section
variable {wl w w' : World} {g B C : Nat} {h : Int} {pl sz : Nat} {L : List ByteArray} {a : Ab} {K : Int}
theorem checks_ok (hR : RunA wl g B C h pl sz L a K w) (hp : 1 ≤ pl ∧ pl ≤ 8) {co : Nat} (hco : (a.out L).length ≤ co) : ¬ ((a.out L).length : Int) < a.inn.length ∧ ¬ (pl : Int) < (a.out L).length - a.inn.length ∧ (a.inn.length : Int) ≤ co ∧ (a.out L).length ≤ 100000 ∧ IntKind.i64.wrap (((a.out L).length : Int) - a.inn.length) = ((a.out L).length : Int) - a.inn.length := by
  have h1 := hR.ht
  have e1 : a.H = a.inn.length := rfl
  have e2 : a.T L = (a.out L).length := rfl
  have h2 := inK_le a.got a.got.length
  have h3 := hR.got_le
  have e3 : a.inn.length = (inK a.got a.got.length).length := rfl
  rw [e1, e2] at h1
  exact ⟨by omega, by omega, by omega, by omega, IntWalk.i64_in _ (by omega)⟩
end
set_option maxHeartbeats 8000000 in
set_option maxRecDepth 100000 in
theorem walk_full (h t p z : Int) (A1 A2 : Option Addr) (n1 c1 n2 c2 : Nat) (L0 : List ByteArray) (q : Nat → Int) (w : World) (hG : GOk w) (hh : 0 ≤ h ∧ h < 4294967296) (hp : 0 ≤ p ∧ p < 256) (hz : 0 ≤ z ∧ z < 256) (hL : Strs w.heap.size w A1 L0) (hn : n1 = L0.length) (hb : ∀ i, i < L0.length → (L0.getD i ByteArray.empty).size ≤ 9223372036854775807) (hn1 : n1 ≤ 9223372036854775807) (hA2 : ArgN .u8 w.heap.size w A2 n2 q) (_ : n2 ≤ 9223372036854775807) :
    Calls Tryd.prog 6 #[.agg (playC h t A1 n1 c1 A2 n2 c2).toArray, .int .u8 p, .int .u8 z] w fun e w' => e = .returned (.bool true) ∧ Below w.heap.size w w' := by
  have hBO := fun W (hB : Below w.heap.size w W) (hs : w.heap.size ≤ W.heap.size) => both_any h t p z A1 A2 n1 c1 n2 c2 L0 W (hG.below (six_of hG) hB) hh hp hz ((hL.keep hB).up hs) hn hb hn1
  have hF : Fix h (plN p) (1 + (z % 32).toNat) (msgs (1 + (z % 32).toNat) L0 (min n1 20)) := ⟨plN_four p, by omega, msgs_good _ _ _ (by omega), by rw [msgs_len]; omega, hh⟩
  generalize msgs (1 + (z % 32).toNat) L0 (min n1 20) = L at *
  generalize 1 + (z % 32).toNat = sz at *
  generalize plN p = pl at *
  simp only [playC] at *
  have HBO := Lib.hid hBO
  have HF := Lib.hid hF
  have HG := Lib.hid hG
  have HA2 := Lib.hid hA2
  have hpl := hF.four.le
  have HPL := Lib.hid hpl
  clear hBO hF hG hA2 hL hb hh hp hz hn hn1 hpl
  go_enter Tryd.func6, Tryd.ntmps6
  go_wp2_with fail
  have hB1 : Below w.heap.size w (w.alloc (.cells #[.int .u32 h, .int .u32 t, .slice A1 n1 c1, .slice A2 n2 c2] 43)) := (Below.refl _ _).alloc (Nat.le_refl _) _
  have k3 : (w.alloc (.cells #[.int .u32 h, .int .u32 t, .slice A1 n1 c1, .slice A2 n2 c2] 43)).cell? ⟨w.heap.size, 3, none⟩ = some (.slice A2 n2 c2) := al_new _ _ _ _ _ rfl rfl
  obtain ⟨w1, hw1⟩ : ∃ w1, w1 = w.alloc (.cells #[.int .u32 h, .int .u32 t, .slice A1 n1 c1, .slice A2 n2 c2] 43) := ⟨_, rfl⟩
  have hs1 : w1.heap.size = w.heap.size + 1 := by rw [hw1]; simp
  rw [← hw1] at hB1 k3 ⊢
  have HB1 := Lib.hid hB1
  have HK3 := Lib.hid k3
  have HS1 := Lib.hid hs1
  clear hw1 hB1 k3 hs1
  with_reducible refine (HBO.out w1 HB1.out HB1.out.size).mono ?_
  rintro e w2 ⟨wl, g, B, C, A, c, f, rfl, hBl, hSt, hSy, hf0, hf1⟩
  have HBl := Lib.hid hBl
  have HSt := Lib.hid hSt
  have HR2 := Lib.hid (ab0_run HF.out hSy hf0 hf1)
  have HB2 := Lib.hid (HB1.out.trans ((hBl.trans (hSy.bel.mono hBl.size)).mono HB1.out.size))
  clear hBl hSt hSy hf0 hf1
  go_wp2_with fail
  with_reducible refine (awake_any w2 (HG.out.below (six_of HG.out) HB2.out)).mono ?_
  rintro e w3 ⟨rfl, hB3⟩
  have HR3 := Lib.hid (HR2.out.keep hB3)
  clear hB3
  go_wp2_with fail
  go_loopw [12, 13, 14, 15, 16] (fun x1 y1 x2 y2 i wr => ∃ (k : Nat) (a : Ab) (b1 f1 b2 f2 : Bool), k ≤ n2 ∧ k ≤ 250 ∧ i = .int .i64 k ∧ x1 = .bool b1 ∧ y1 = .bool f1 ∧ x2 = .bool b2 ∧ y2 = .bool f2 ∧ RunA wl g B C h pl sz L a (1000 + k) wr ∧ NotedS L pl a b1 f1 ∧ NotedR a b2 f2) (fun _ _ _ _ i _ => 250 - (intOf i).toNat)
  case atStart => exact ⟨0, _, _, _, _, _, Nat.zero_le _, Nat.zero_le _, rfl, rfl, rfl, rfl, rfl, HR3.out, noted_s0, noted_r0⟩
  case round =>
    obtain ⟨k, a, b1, f1, b2, f2, hk, hk2, rfl, rfl, rfl, rfl, rfl, hR, hNS, hNR⟩ := hrel
    have HR4 := Lib.hid hR
    have HNS := Lib.hid hNS
    have HNR := Lib.hid hNR
    have HSEEN := Lib.hid (hR.seen HF.out)
    have HBW := Lib.hid (HB1.out.trans ((HBl.out.trans (hR.bel.mono HBl.out.size)).mono HB1.out.size))
    have HB1W := Lib.hid (HBl.out.trans (hR.bel.mono HBl.out.size))
    have k3 := kept HK3.out HB1W.out
    clear hR hNS hNR
    by_cases hkn : (k : Int) < n2
    · by_cases hk250 : (k : Int) < 250
      · have hkN : k < n2 := by omega
        clear hk hk2
        go_wp2_with fail
        with_reducible refine (ra_sent HR4.out).mono ?_
        rintro e w5 ⟨d5, rfl, hd5, hl5, hB5⟩
        have HD5 := Lib.hid hd5
        have HR5 := Lib.hid (HR4.out.keep hB5)
        clear hd5 hl5 hB5
        go_wp2_with fail
        with_reducible refine (ra_got HR5.out).mono ?_
        rintro e w6 ⟨d6, rfl, hd6, hl6, hB6⟩
        have HD6 := Lib.hid hd6
        have HR6 := Lib.hid (HR5.out.keep hB6)
        have HD56 := Lib.hid (RowL.keep HD5.out hB6)
        clear hd6 hl6 hB6
        go_wp2_with fail
        with_reducible refine (ra_passed HR6.out HSt.out HF.out.few HD56.out HD6.out rfl (by first | rfl | rw [List.length_map]) (by first | rfl | rw [List.length_map])).mono ?_
        rintro e w7 ⟨Ao, co, Ai, ci, rfl, ho, hi, hco, hB7⟩
        have HR7 := Lib.hid (HR6.out.keep hB7)
        obtain ⟨g1, g2, g3, g4, g5⟩ := checks_ok HR7.out (HPL.out) hco
        clear ho hi hB7 g1 g2 g3 hco
        obtain ⟨nO, hnO⟩ : ∃ nO, nO = (Ab.out L a).length := ⟨_, rfl⟩
        obtain ⟨nI, hnI⟩ : ∃ nI, nI = a.inn.length := ⟨_, rfl⟩
        rw [← hnO, ← hnI] at g5
        rw [← hnO] at g4 ⊢
        rw [← hnI] at ⊢
        have HNO := Lib.hid hnO
        have HNI := Lib.hid hnI
        have HB1X := Lib.hid (HBl.out.trans (HR7.out.bel.mono HBl.out.size))
        have HBX := Lib.hid (HB1.out.trans (HB1X.out.mono HB1.out.size))
        have k3 := kept HK3.out HB1X.out
        obtain ⟨b2', o2', rfl⟩ := HA2.out.head hkN
        have e0 := (HA2.out.keep HBX.out).cell hkN
        generalize q k = x at *
        obtain ⟨y, hy⟩ : ∃ y, bits .and .u8 x 1 = y := ⟨_, rfl⟩
        clear hnO hnI
        by_cases hy0 : y = 0

        · have hb0 : (y == 0) = true := by simpa using hy0
          clear hy0
          go_wp2_with fail
          with_reducible refine (ra_sent HR7.out).mono ?_
          rintro e w8 ⟨d8, rfl, hd8, hl8, hB8⟩
          have HR8 := Lib.hid (HR7.out.keep hB8)
          clear hd8 hl8 hB8
          obtain ⟨ns, hns⟩ : ∃ ns, ns = a.sent.length := ⟨_, rfl⟩
          have hmn : (List.map Value.bool a.sent).length = ns := by rw [List.length_map, hns]
          have HNN := Lib.hid hns
          clear hns k3 e0 hb0
          have HST := Lib.hid (ra_s HF.out HR8.out (by omega))
          cases b1
          · obtain ⟨f', hf'⟩ : ∃ f' : Bool, f' = f1 := ⟨_, rfl⟩
            have HN := Lib.hid (noted_s HSEEN.out HNS.out (f' := f') (fun h => by cases h) (fun _ => hf'))
            subst hf'
            go_wp2_with fail
            with_reducible refine HST.out.mono ?_
            rintro e w9 ⟨rfl, hR9⟩
            have HR9 := Lib.hid hR9
            clear hR9 HST
            rcases HN.out with ⟨e1, n1⟩ | ⟨e1, n1⟩
            · have HE1 := Lib.hid e1
              have HN1 := Lib.hid n1
              clear e1 n1
              go_wp2_with fail
              with_reducible refine (ra_sent HR9.out).mono ?_
              rintro e w10 ⟨d10, rfl, hd10, hl10, hB10⟩
              have HR10 := Lib.hid (HR9.out.keep hB10)
              have hln : (List.map Value.bool (a.stepS L pl).sent).length = ns := by rw [List.length_map, HE1.out, HNN.out]
              clear hd10 hl10 hB10
              have hnn : ¬ (ns : Int) < ns := by omega
              go_wp2_with fail
              go_roundw
              case rel => exact ⟨k + 1, _, false, _, _, _, by omega, by omega, by go_num, rfl, rfl, rfl, rfl, by rw [show (1000 : Int) + ((k + 1 : Nat) : Int) = 1000 + k + 1 by omega]; exact HR10.out, HN1.out, HNR.out.other⟩
              case measure => simp [intOf]; omega

            · have HE1 := Lib.hid e1
              have HN1 := Lib.hid n1
              clear e1 n1
              go_wp2_with fail
              with_reducible refine (ra_sent HR9.out).mono ?_
              rintro e w10 ⟨d10, rfl, hd10, hl10, hB10⟩
              have HR10 := Lib.hid (HR9.out.keep hB10)
              have hln : (List.map Value.bool (a.stepS L pl).sent).length = ns + 1 := by rw [List.length_map, HE1.out, List.length_append, HNN.out]; rfl
              have e9 := bool_row (w := w10) (HE1.out ▸ hd10)
              rw [← HNN.out] at e9
              clear hd10 hl10 hB10
              have hnn : (ns : Int) < ((ns + 1 : Nat) : Int) := by omega
              have hnn2 : (0 : Int) ≤ ns := by omega
              cases f'
              all_goals
                go_wp2_with fail

                go_roundw
                case rel => exact ⟨k + 1, _, true, _, _, _, by omega, by omega, by go_num, rfl, rfl, rfl, rfl, by rw [show (1000 : Int) + ((k + 1 : Nat) : Int) = 1000 + k + 1 by omega]; exact HR10.out, HN1.out, HNR.out.other⟩
                case measure => simp [intOf]; omega


          · obtain ⟨f', hf'⟩ : ∃ f' : Bool, ((nO : Int) - nI == (pl : Int)) = f' := ⟨_, rfl⟩
            have HN := Lib.hid (noted_s HSEEN.out HNS.out (f' := f') (fun _ => by rw [← hf', HNO.out, HNI.out]; rfl) (fun h => by cases h))
            go_wp2_with fail
            with_reducible refine HST.out.mono ?_
            rintro e w9 ⟨rfl, hR9⟩
            have HR9 := Lib.hid hR9
            clear hR9 HST
            rcases HN.out with ⟨e1, n1⟩ | ⟨e1, n1⟩
            · have HE1 := Lib.hid e1
              have HN1 := Lib.hid n1
              clear e1 n1
              go_wp2_with fail
              with_reducible refine (ra_sent HR9.out).mono ?_
              rintro e w10 ⟨d10, rfl, hd10, hl10, hB10⟩
              have HR10 := Lib.hid (HR9.out.keep hB10)
              have hln : (List.map Value.bool (a.stepS L pl).sent).length = ns := by rw [List.length_map, HE1.out, HNN.out]
              clear hd10 hl10 hB10
              have hnn : ¬ (ns : Int) < ns := by omega
              go_wp2_with fail
              go_roundw
              case rel => exact ⟨k + 1, _, false, _, _, _, by omega, by omega, by go_num, rfl, rfl, rfl, rfl, by rw [show (1000 : Int) + ((k + 1 : Nat) : Int) = 1000 + k + 1 by omega]; exact HR10.out, HN1.out, HNR.out.other⟩
              case measure => simp [intOf]; omega

            · have HE1 := Lib.hid e1
              have HN1 := Lib.hid n1
              clear e1 n1
              go_wp2_with fail
              with_reducible refine (ra_sent HR9.out).mono ?_
              rintro e w10 ⟨d10, rfl, hd10, hl10, hB10⟩
              have HR10 := Lib.hid (HR9.out.keep hB10)
              have hln : (List.map Value.bool (a.stepS L pl).sent).length = ns + 1 := by rw [List.length_map, HE1.out, List.length_append, HNN.out]; rfl
              have e9 := bool_row (w := w10) (HE1.out ▸ hd10)
              rw [← HNN.out] at e9
              clear hd10 hl10 hB10
              have hnn : (ns : Int) < ((ns + 1 : Nat) : Int) := by omega
              have hnn2 : (0 : Int) ≤ ns := by omega
              cases f'
              all_goals
                go_wp2_with fail

                go_roundw
                case rel => exact ⟨k + 1, _, true, _, _, _, by omega, by omega, by go_num, rfl, rfl, rfl, rfl, by rw [show (1000 : Int) + ((k + 1 : Nat) : Int) = 1000 + k + 1 by omega]; exact HR10.out, HN1.out, HNR.out.other⟩
                case measure => simp [intOf]; omega



        · have hb0 : (y == 0) = false := by simpa using hy0
          clear hy0
          go_wp2_with fail
          with_reducible refine (ra_got HR7.out).mono ?_
          rintro e w8 ⟨d8, rfl, hd8, hl8, hB8⟩
          have HR8 := Lib.hid (HR7.out.keep hB8)
          clear hd8 hl8 hB8
          obtain ⟨ns, hns⟩ : ∃ ns, ns = a.got.length := ⟨_, rfl⟩
          have hmn : (List.map Value.string a.got).length = ns := by rw [List.length_map, hns]
          have HNN := Lib.hid hns
          clear hns k3 e0 hb0
          have HST := Lib.hid (ra_r HF.out HR8.out (by omega))
          cases b2
          · obtain ⟨f', hf'⟩ : ∃ f' : Bool, f' = f2 := ⟨_, rfl⟩
            have HN := Lib.hid (noted_r HSEEN.out HNR.out (f' := f') (fun h => by cases h) (fun _ => hf'))
            subst hf'
            go_wp2_with fail
            with_reducible refine HST.out.mono ?_
            rintro e w9 ⟨rfl, hR9⟩
            have HR9 := Lib.hid hR9
            clear hR9 HST
            rcases HN.out with ⟨e1, n1⟩ | ⟨m, e1, hm, n1⟩
            · have HE1 := Lib.hid e1
              have HN1 := Lib.hid n1
              clear e1 n1
              go_wp2_with fail
              with_reducible refine (ra_got HR9.out).mono ?_
              rintro e w10 ⟨d10, rfl, hd10, hl10, hB10⟩
              have HR10 := Lib.hid (HR9.out.keep hB10)
              have hln : (List.map Value.string (a.stepR L).got).length = ns := by rw [List.length_map, HE1.out, HNN.out]
              clear hd10 hl10 hB10
              have hnn : ¬ (ns : Int) < ns := by omega
              go_wp2_with fail
              go_roundw
              case rel => exact ⟨k + 1, _, _, _, false, _, by omega, by omega, by go_num, rfl, rfl, rfl, rfl, by rw [show (1000 : Int) + ((k + 1 : Nat) : Int) = 1000 + k + 1 by omega]; exact HR10.out, HNS.out.other, HN1.out⟩
              case measure => simp [intOf]; omega

            · have HE1 := Lib.hid e1
              have HN1 := Lib.hid n1
              clear e1 n1
              go_wp2_with fail
              with_reducible refine (ra_got HR9.out).mono ?_
              rintro e w10 ⟨d10, rfl, hd10, hl10, hB10⟩
              have HR10 := Lib.hid (HR9.out.keep hB10)
              have hln : (List.map Value.string (a.stepR L).got).length = ns + 1 := by rw [List.length_map, HE1.out, List.length_append, HNN.out]; rfl
              have e9 := str_row (w := w10) (HE1.out ▸ hd10)
              rw [← HNN.out] at e9
              clear hd10 hl10 hB10
              have hnn : (ns : Int) < ((ns + 1 : Nat) : Int) := by omega
              have hnn2 : (0 : Int) ≤ ns := by omega
              cases f'
              all_goals
                go_wp2_with fail

                go_roundw
                case rel => exact ⟨k + 1, _, _, _, true, _, by omega, by omega, by go_num, rfl, rfl, rfl, rfl, by rw [show (1000 : Int) + ((k + 1 : Nat) : Int) = 1000 + k + 1 by omega]; exact HR10.out, HNS.out.other, HN1.out⟩
                case measure => simp [intOf]; omega


          · obtain ⟨f', hf'⟩ : ∃ f' : Bool, ((nO : Int) == nI) = f' := ⟨_, rfl⟩
            have HN := Lib.hid (noted_r HSEEN.out HNR.out (f' := f') (fun _ => by rw [← hf', HNO.out, HNI.out]; rfl) (fun h => by cases h))
            go_wp2_with fail
            with_reducible refine HST.out.mono ?_
            rintro e w9 ⟨rfl, hR9⟩
            have HR9 := Lib.hid hR9
            clear hR9 HST
            rcases HN.out with ⟨e1, n1⟩ | ⟨m, e1, hm, n1⟩
            · have HE1 := Lib.hid e1
              have HN1 := Lib.hid n1
              clear e1 n1
              go_wp2_with fail
              with_reducible refine (ra_got HR9.out).mono ?_
              rintro e w10 ⟨d10, rfl, hd10, hl10, hB10⟩
              have HR10 := Lib.hid (HR9.out.keep hB10)
              have hln : (List.map Value.string (a.stepR L).got).length = ns := by rw [List.length_map, HE1.out, HNN.out]
              clear hd10 hl10 hB10
              have hnn : ¬ (ns : Int) < ns := by omega
              go_wp2_with fail
              go_roundw
              case rel => exact ⟨k + 1, _, _, _, false, _, by omega, by omega, by go_num, rfl, rfl, rfl, rfl, by rw [show (1000 : Int) + ((k + 1 : Nat) : Int) = 1000 + k + 1 by omega]; exact HR10.out, HNS.out.other, HN1.out⟩
              case measure => simp [intOf]; omega

            · have HE1 := Lib.hid e1
              have HN1 := Lib.hid n1
              clear e1 n1
              go_wp2_with fail
              with_reducible refine (ra_got HR9.out).mono ?_
              rintro e w10 ⟨d10, rfl, hd10, hl10, hB10⟩
              have HR10 := Lib.hid (HR9.out.keep hB10)
              have hln : (List.map Value.string (a.stepR L).got).length = ns + 1 := by rw [List.length_map, HE1.out, List.length_append, HNN.out]; rfl
              have e9 := str_row (w := w10) (HE1.out ▸ hd10)
              rw [← HNN.out] at e9
              clear hd10 hl10 hB10
              have hnn : (ns : Int) < ((ns + 1 : Nat) : Int) := by omega
              have hnn2 : (0 : Int) ≤ ns := by omega
              cases f'
              all_goals
                go_wp2_with fail

                go_roundw
                case rel => exact ⟨k + 1, _, _, _, true, _, by omega, by omega, by go_num, rfl, rfl, rfl, rfl, by rw [show (1000 : Int) + ((k + 1 : Nat) : Int) = 1000 + k + 1 by omega]; exact HR10.out, HNS.out.other, HN1.out⟩
                case measure => simp [intOf]; omega



      · go_wp2_with fail
        go_ret
        exact ⟨rfl, HBW.out⟩
    · go_wp2_with fail
      go_ret
      exact ⟨rfl, HBW.out⟩
end Go.Proofs.YtnmobalgghggnaaDoor
