/-
  Rings of other first indices answer the same.
-/
import Derived.Test.YtnmobalgghggnaaDoorDuo
namespace Go.Proofs.YtnmobalgghggnaaDoor
open Go.RowKit

set_option maxHeartbeats 8000000 in
set_option maxRecDepth 100000 in
theorem walk_same (h t o y z : Int) (A1 A2 : Option Addr) (n1 c1 n2 c2 : Nat) (L0 : List ByteArray) (q : Nat → Int) (w : World) (hG : GOk w) (hh : 0 ≤ h ∧ h < 4294967296) (ho : 0 ≤ o ∧ o < 4294967296) (hp : 0 ≤ y ∧ y < 256) (hz : 0 ≤ z ∧ z < 256) (hL : Strs w.heap.size w A1 L0) (hn : n1 = L0.length) (hb : ∀ i, i < L0.length → (L0.getD i ByteArray.empty).size ≤ 9223372036854775807) (hn1 : n1 ≤ 9223372036854775807) (hA2 : ArgN .u8 w.heap.size w A2 n2 q) (_ : n2 ≤ 9223372036854775807) :
    Calls Tryd.prog 7 #[.agg (playC h t A1 n1 c1 A2 n2 c2).toArray, .int .u32 o, .agg #[.int .u8 y, .int .u8 z]] w fun e w' => e = .returned (.bool true) ∧ Below w.heap.size w w' := by
  have hBO := fun (x : Int) (hx : 0 ≤ x ∧ x < 4294967296) W (hB : Below w.heap.size w W) (hs : w.heap.size ≤ W.heap.size) => both_any x t y z A1 A2 n1 c1 n2 c2 L0 W (hG.below (six_of hG) hB) hx hp hz ((hL.keep hB).up hs) hn hb hn1
  have hF : ∀ x : Int, 0 ≤ x ∧ x < 4294967296 → Fix x (plN y) (1 + (z % 32).toNat) (msgs (1 + (z % 32).toNat) L0 (min n1 20)) := fun x hx => ⟨plN_four y, by omega, msgs_good _ _ _ (by omega), by rw [msgs_len]; omega, hx⟩
  generalize msgs (1 + (z % 32).toNat) L0 (min n1 20) = L at *
  generalize 1 + (z % 32).toNat = sz at *
  generalize plN y = pl at *
  simp only [playC] at *
  have HBO := Lib.hid hBO
  have HF := Lib.hid (hF h hh)
  have HF2 := Lib.hid (hF o ho)
  have HG := Lib.hid hG
  have HA2 := Lib.hid hA2
  have HHO := Lib.hid (And.intro hh ho)
  clear hBO hF hG hA2 hL hb hh hp hz hn hn1 ho
  go_enter Tryd.func7, Tryd.ntmps7
  go_wp2_with fail
  obtain ⟨w1, hw1⟩ : ∃ w1, w1 = (w.alloc (.cells #[.int .u32 h, .int .u32 t, .slice A1 n1 c1, .slice A2 n2 c2] 43)).alloc (.cells #[.int .u8 y, .int .u8 z] 64) := ⟨_, rfl⟩
  have hB1 : Below w.heap.size w w1 := by rw [hw1]; exact ((Below.refl _ _).alloc (Nat.le_refl _) _).alloc (by simp) _
  have k1 : w1.cell? ⟨w.heap.size, 1, none⟩ = some (.int .u32 t) := by rw [hw1]; exact al_cell (al_new _ _ _ _ _ rfl rfl)
  have k2 : w1.cell? ⟨w.heap.size, 2, none⟩ = some (.slice A1 n1 c1) := by rw [hw1]; exact al_cell (al_new _ _ _ _ _ rfl rfl)
  have k3 : w1.cell? ⟨w.heap.size, 3, none⟩ = some (.slice A2 n2 c2) := by rw [hw1]; exact al_cell (al_new _ _ _ _ _ rfl rfl)
  have y0 : w1.cell? ⟨w.heap.size + 1, 0, none⟩ = some (.int .u8 y) := by rw [hw1]; exact al_new _ _ _ _ _ (by simp) rfl
  have y1 : w1.cell? ⟨w.heap.size + 1, 1, none⟩ = some (.int .u8 z) := by rw [hw1]; exact al_new _ _ _ _ _ (by simp) rfl
  have k0 : w1.cell? ⟨w.heap.size, 0, none⟩ = some (.int .u32 h) := by rw [hw1]; exact al_cell (al_new _ _ _ _ _ rfl rfl)
  have hs1 : w1.heap.size = w.heap.size + 2 := by rw [hw1]; simp
  have HFZ := Lib.hid (show w1.frozen? ⟨w.heap.size, 0, none⟩ = false from by rw [hw1, Below.frozen (B := w.heap.size + 1) ((Below.refl _ _).alloc (by simp) _) (p := ⟨w.heap.size, 0, none⟩) (by simp)]; exact frozen_new _ _ _ 0)
  rw [← hw1]
  have HB1 := Lib.hid hB1
  have HK := Lib.hid (And.intro k0 (And.intro k1 (And.intro k2 (And.intro k3 (And.intro y0 y1)))))
  have HS1 := Lib.hid hs1
  clear hw1 hB1 k0 k1 k2 k3 y0 y1 hs1
  with_reducible refine (HBO.out h HHO.out.1 w1 HB1.out HB1.out.size).mono ?_
  rintro e w2 ⟨wl, g, B, C, A, c, f, rfl, hBl, hSt, hSy, hf0, hf1⟩
  obtain ⟨o1, h1⟩ := one_of HF.out hSy hf0 hf1
  have HO1 := Lib.hid h1
  have HBl := Lib.hid hBl
  have HB2L := Lib.hid (hSy.bel.size)
  have HB2 := Lib.hid (hBl.trans (hSy.bel.mono hBl.size))
  obtain ⟨k0, k1, k2, k3, y0, y1⟩ := HK.out
  have k0 := kept k0 HB2.out
  have k1 := kept k1 HB2.out
  have k2 := kept k2 HB2.out
  have k3 := kept k3 HB2.out
  have y0 := kept y0 HB2.out
  have y1 := kept y1 HB2.out
  have fz : w2.frozen? ⟨w.heap.size, 0, none⟩ = false := by rw [HB2.out.frozen (p := ⟨w.heap.size, 0, none⟩) (by have := HS1.out; show w.heap.size < _; omega)]; exact HFZ.out
  clear hBl hSt hSy hf0 hf1 h1
  go_wp2_with fail
  obtain ⟨w3, hw3⟩ : ∃ w3, w3 = w2.setCell ⟨w.heap.size, 0, none⟩ (.int .u32 o) := ⟨_, rfl⟩
  have HB3 := Lib.hid (show Below w.heap.size w w3 from by rw [hw3]; exact (HB1.out.trans (HB2.out.mono HB1.out.size)).setCell (Nat.le_refl _) _)
  have HO3 := Lib.hid (show OneA _ o1 g B C h pl sz L (ab0 L) 1000 w3 from HO1.out.chg (X := fun k => k = w.heap.size) (by rw [hw3]; exact Chg.set (S := fun k => k = w.heap.size) (Chg.refl _) (a := ⟨w.heap.size, 0, none⟩) rfl _) (fun k hk e => by have := HO1.out.ge k hk; have := HBl.out.size; have := HS1.out; omega) (HG.out.below (six_of HG.out) HB3.out))
  have HK3 := Lib.hid (show w3.cell? ⟨w.heap.size, 3, none⟩ = some (.slice A2 n2 c2) from by rw [hw3, World.cell?_setCell_other _ _ _ _ (by simp)]; exact k3)
  have HS3 := Lib.hid (show w2.heap.size = w3.heap.size from by rw [hw3]; simp)
  rw [← hw3]
  clear hw3 k0 k1 k2 k3 y0 y1 fz HO1
  with_reducible refine (HBO.out o HHO.out.2 w3 HB3.out HB3.out.size).mono ?_
  rintro e w4 ⟨wl2, g', B', C', A', c', f', rfl, hBl2, hSt2, hSy2, hf02, hf12⟩
  obtain ⟨o2, h2⟩ := one_of HF2.out hSy2 hf02 hf12
  have HD := Lib.hid (duo_of HO3.out (hBl2.trans (hSy2.bel.mono hBl2.size)) h2 hBl2.size (by have := HS3.out; have := HB2L.out; omega))
  clear hBl2 hSt2 hSy2 hf02 hf12 h2 HO3
  go_wp2_with fail
  with_reducible refine (awake_any w4 (HG.out.below (six_of HG.out) (HB3.out.trans (HD.out.bel.mono (by have := HBl.out.size; have := HB1.out.size; omega))))).mono ?_
  rintro e w5 ⟨rfl, hB5⟩
  have HD5 := Lib.hid (HD.out.keep hB5)
  clear hB5 HD
  go_wp2_with fail
  go_loopw [17] (fun i wr => ∃ (k : Nat) (a : Ab), k ≤ n2 ∧ k ≤ 250 ∧ i = .int .i64 k ∧ Duo wl.heap.size w3 g B C g' B' C' h o pl sz L a a (1000 + (2 * k : Nat)) wr) (fun i _ => 250 - (intOf i).toNat)
  case atStart => exact ⟨0, _, Nat.zero_le _, Nat.zero_le _, rfl, HD5.out⟩
  case round =>
    obtain ⟨k, a, hk, hk2, rfl, hD⟩ := hrel
    have HD := Lib.hid hD
    have HBW := Lib.hid (HB3.out.trans (hD.bel.mono (by have := HBl.out.size; have := HB1.out.size; omega)))
    have k3 : wr.cell? ⟨w.heap.size, 3, none⟩ = some (.slice A2 n2 c2) := by rw [hD.bel.cell (p := ⟨w.heap.size, 3, none⟩) (by have := HBl.out.size; have := HS1.out; show w.heap.size < _; omega)]; exact HK3.out
    clear hD
    by_cases hkn : (k : Int) < n2
    · by_cases hk250 : (k : Int) < 250
      · have hkN : k < n2 := by omega
        obtain ⟨b2', o2', rfl⟩ := HA2.out.head hkN
        have e0 := (HA2.out.keep HBW.out).cell hkN
        generalize q k = x at *
        obtain ⟨y2, hy⟩ : ∃ y2, bits .and .u8 x 1 = y2 := ⟨_, rfl⟩
        by_cases hy0 : y2 = 0
        · have hb0 : (y2 == 0) = true := by simpa using hy0
          clear hy0
          have HST := Lib.hid (duo_s HF.out HD.out (by omega))
          go_wp2_with fail
          with_reducible refine HST.out.mono ?_
          rintro e w6 ⟨rfl, hD6⟩
          have HST2 := Lib.hid (duo_s HF2.out hD6.swap (by omega))
          obtain ⟨d, hd⟩ : ∃ d, d = decide (5 ≤ (a.stepS L pl).sp) := ⟨_, rfl⟩
          rw [← hd] at HST2 ⊢
          clear hd hD6 HST k3 e0 hb0
          go_wp2_with fail
          with_reducible refine HST2.out.mono ?_
          rintro e w7 ⟨rfl, hD7⟩
          have HD7 := Lib.hid hD7.swap
          clear hD7 HST2
          cases d
          all_goals
            go_wp2_with fail
            go_roundw
            case rel => exact ⟨k + 1, _, by omega, by omega, by go_num, by rw [show (1000 : Int) + ((2 * (k + 1) : Nat) : Int) = 1000 + (2 * k : Nat) + 1 + 1 by omega]; exact HD7.out⟩
            case measure => simp [intOf]; omega

        · have hb0 : (y2 == 0) = false := by simpa using hy0
          clear hy0
          have HST := Lib.hid (duo_r HF.out HD.out (by omega))
          go_wp2_with fail
          with_reducible refine HST.out.mono ?_
          rintro e w6 ⟨rfl, hD6⟩
          have HST2 := Lib.hid (duo_r HF2.out hD6.swap (by omega))
          obtain ⟨d, hd⟩ : ∃ d, d = decide (5 ≤ (a.stepR L).rp) := ⟨_, rfl⟩
          rw [← hd] at HST2 ⊢
          clear hd hD6 HST k3 e0 hb0
          go_wp2_with fail
          with_reducible refine HST2.out.mono ?_
          rintro e w7 ⟨rfl, hD7⟩
          have HD7 := Lib.hid hD7.swap
          clear hD7 HST2
          cases d
          all_goals
            go_wp2_with fail
            go_roundw
            case rel => exact ⟨k + 1, _, by omega, by omega, by go_num, by rw [show (1000 : Int) + ((2 * (k + 1) : Nat) : Int) = 1000 + (2 * k : Nat) + 1 + 1 by omega]; exact HD7.out⟩
            case measure => simp [intOf]; omega

      · have HDF := Lib.hid (HD.out.few HF.out.few)
        go_wp2_with fail
        with_reducible refine (duo_sent HD.out).mono ?_
        rintro e w6 ⟨d1, rfl, hd1, hl1, hB6⟩
        have HD1 := Lib.hid hd1
        have HD := Lib.hid (HD.out.keep hB6)
        clear hd1 hl1 hB6
        go_wp2_with fail
        with_reducible refine (duo_sent HD.out.swap).mono ?_
        rintro e w7 ⟨d2, rfl, hd2, hl2, hB7⟩
        have HS := Lib.hid (And.intro (RowL.keep HD1.out hB7).bools hd2.bools)
        have HD := Lib.hid (HD.out.keep hB7)
        clear hd2 hl2 hB7
        go_wp2_with fail
        with_reducible refine (sames_same _ _ a.sent _ _ _ _ _ HS.out.1 HS.out.2 (by first | rfl | rw [List.length_map]) (by have := HDF.out.1; omega)).mono ?_
        rintro e w8 ⟨rfl, m8, hw8⟩
        have HD := Lib.hid (HD.out.keep (Qt.below ⟨m8, hw8⟩))
        clear hw8
        go_wp2_with fail
        with_reducible refine (duo_got HD.out).mono ?_
        rintro e w9 ⟨d3, rfl, hd3, hl3, hB9⟩
        have HD3 := Lib.hid hd3
        have HD := Lib.hid (HD.out.keep hB9)
        clear hd3 hl3 hB9
        go_wp2_with fail
        with_reducible refine (duo_got HD.out.swap).mono ?_
        rintro e w10 ⟨d4, rfl, hd4, hl4, hB10⟩
        have HS2 := Lib.hid (And.intro (RowL.keep HD3.out hB10).strs hd4.strs)
        have HD := Lib.hid (HD.out.keep hB10)
        clear hd4 hl4 hB10
        go_wp2_with fail
        with_reducible refine (texts_same _ _ a.got _ _ _ _ _ HS2.out.1 HS2.out.2 (by first | rfl | rw [List.length_map]) (by have := HDF.out.2; omega)).mono ?_
        rintro e w11 ⟨rfl, m11, hw11⟩
        have HD := Lib.hid (HD.out.keep (Qt.below ⟨m11, hw11⟩))
        clear hw11
        go_wp2_with fail
        go_ret
        exact ⟨rfl, HB3.out.trans (HD.out.bel.mono (by have := HBl.out.size; have := HB1.out.size; omega))⟩

    · have HDF := Lib.hid (HD.out.few HF.out.few)
      go_wp2_with fail
      with_reducible refine (duo_sent HD.out).mono ?_
      rintro e w6 ⟨d1, rfl, hd1, hl1, hB6⟩
      have HD1 := Lib.hid hd1
      have HD := Lib.hid (HD.out.keep hB6)
      clear hd1 hl1 hB6
      go_wp2_with fail
      with_reducible refine (duo_sent HD.out.swap).mono ?_
      rintro e w7 ⟨d2, rfl, hd2, hl2, hB7⟩
      have HS := Lib.hid (And.intro (RowL.keep HD1.out hB7).bools hd2.bools)
      have HD := Lib.hid (HD.out.keep hB7)
      clear hd2 hl2 hB7
      go_wp2_with fail
      with_reducible refine (sames_same _ _ a.sent _ _ _ _ _ HS.out.1 HS.out.2 (by first | rfl | rw [List.length_map]) (by have := HDF.out.1; omega)).mono ?_
      rintro e w8 ⟨rfl, m8, hw8⟩
      have HD := Lib.hid (HD.out.keep (Qt.below ⟨m8, hw8⟩))
      clear hw8
      go_wp2_with fail
      with_reducible refine (duo_got HD.out).mono ?_
      rintro e w9 ⟨d3, rfl, hd3, hl3, hB9⟩
      have HD3 := Lib.hid hd3
      have HD := Lib.hid (HD.out.keep hB9)
      clear hd3 hl3 hB9
      go_wp2_with fail
      with_reducible refine (duo_got HD.out.swap).mono ?_
      rintro e w10 ⟨d4, rfl, hd4, hl4, hB10⟩
      have HS2 := Lib.hid (And.intro (RowL.keep HD3.out hB10).strs hd4.strs)
      have HD := Lib.hid (HD.out.keep hB10)
      clear hd4 hl4 hB10
      go_wp2_with fail
      with_reducible refine (texts_same _ _ a.got _ _ _ _ _ HS2.out.1 HS2.out.2 (by first | rfl | rw [List.length_map]) (by have := HDF.out.2; omega)).mono ?_
      rintro e w11 ⟨rfl, m11, hw11⟩
      have HD := Lib.hid (HD.out.keep (Qt.below ⟨m11, hw11⟩))
      clear hw11
      go_wp2_with fail
      go_ret
      exact ⟨rfl, HB3.out.trans (HD.out.bel.mono (by have := HBl.out.size; have := HB1.out.size; omega))⟩

end Go.Proofs.YtnmobalgghggnaaDoor
