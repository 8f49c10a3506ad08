/-
  What is sent is received.
-/
import Derived.Test.YtnmobalgghggnaaDoorLaw
namespace Go.Proofs.YtnmobalgghggnaaDoor
open Go.RowKit

theorem ab0_run {wl w : World} {g B C : Nat} {h : Int} {pl sz : Nat} {L : List ByteArray} {f : Nat → Int} (hF : Fix h pl sz L) (hS : SysR wl 80 g B C (sd0 0 pl sz L) (rv0 0 pl sz 40) f 1000 w) (h0 : f 0 = h) (h1 : f 1 = h) : RunA wl g B C h pl sz L (ab0 L) 1000 w :=
  ⟨_, _, _, hS, inv_0 h0 h1 hF.hh hF.four⟩
section
variable {wl w w' : World} {g B C : Nat} {h : Int} {pl sz : Nat} {L : List ByteArray} {a : Ab} {K : Int}
theorem checks_ok (hR : RunA wl g B C h pl sz L a K w) (hp : 1 ≤ pl ∧ pl ≤ 8) {co : Nat} (hco : (a.out L).length ≤ co) : ¬ ((a.out L).length : Int) < a.inn.length ∧ ¬ (pl : Int) < (a.out L).length - a.inn.length ∧ (a.inn.length : Int) ≤ co ∧ (a.out L).length ≤ 100000 ∧ IntKind.i64.wrap (((a.out L).length : Int) - a.inn.length) = ((a.out L).length : Int) - a.inn.length := by
  have h1 := hR.ht
  have e1 : a.H = a.inn.length := rfl
  have e2 : a.T L = (a.out L).length := rfl
  have h2 := inK_le a.got a.got.length
  have h3 := hR.got_le
  have e3 : a.inn.length = (inK a.got a.got.length).length := rfl
  rw [e1, e2] at h1
  exact ⟨by omega, by omega, by omega, by omega, IntWalk.i64_in _ (by omega)⟩
theorem texts_ok {Ao Ai : Option Addr} {co ci : Nat} (hR : RunA wl g B C h pl sz L a K w) (ho : Strs w.heap.size w Ao (a.out L)) (hi : Strs w.heap.size w Ai a.inn) : ∀ W, Qt w W → Calls Tryd.prog 24 #[.slice Ai a.inn.length ci, .slice Ao a.inn.length co] W fun e w' => e = .returned (.bool true) ∧ ∃ m, w' = W.drewN m := fun W hW => by
  have h2 := inK_le a.got a.got.length
  have h3 := hR.got_le
  have hO : Strs w.heap.size W Ao a.inn := by rw [hR.pre]; exact (ho.keep hW.below).take _
  exact texts_same Ai Ao a.inn _ ci co w.heap.size W (hi.keep hW.below) hO rfl (by
    have e3 : a.inn.length = (inK a.got a.got.length).length := rfl
    omega)
theorem texts_later {Ao Ai : Option Addr} {co ci : Nat} (hR : RunA wl g B C h pl sz L a K w) (ho : Strs w.heap.size w Ao (a.out L)) (hi : Strs w.heap.size w Ai a.inn) : ∀ W, Below w.heap.size w W → Calls Tryd.prog 24 #[.slice Ai a.inn.length ci, .slice Ao a.inn.length co] W fun e w' => e = .returned (.bool true) ∧ ∃ m, w' = W.drewN m := fun W hW => by
  have h2 := inK_le a.got a.got.length
  have h3 := hR.got_le
  have hO : Strs w.heap.size W Ao a.inn := by rw [hR.pre]; exact (ho.keep hW).take _
  exact texts_same Ai Ao a.inn _ ci co w.heap.size W (hi.keep hW) hO rfl (by
    have e3 : a.inn.length = (inK a.got a.got.length).length := rfl
    omega)
end
set_option maxHeartbeats 8000000 in
set_option maxRecDepth 100000 in
theorem walk_order (h t p z : Int) (A1 A2 : Option Addr) (n1 c1 n2 c2 : Nat) (L0 : List ByteArray) (q : Nat → Int) (w : World) (hG : GOk w) (hh : 0 ≤ h ∧ h < 4294967296) (hp : 0 ≤ p ∧ p < 256) (hz : 0 ≤ z ∧ z < 256) (hL : Strs w.heap.size w A1 L0) (hn : n1 = L0.length) (hb : ∀ i, i < L0.length → (L0.getD i ByteArray.empty).size ≤ 9223372036854775807) (hn1 : n1 ≤ 9223372036854775807) (hA2 : ArgN .u8 w.heap.size w A2 n2 q) (_ : n2 ≤ 9223372036854775807) :
    Calls Tryd.prog 5 #[.agg (playC h t A1 n1 c1 A2 n2 c2).toArray, .int .u8 p, .int .u8 z] w fun e w' => e = .returned (.bool true) ∧ Below w.heap.size w w' := by
  have hBO := fun W (hB : Below w.heap.size w W) (hs : w.heap.size ≤ W.heap.size) => both_any h t p z A1 A2 n1 c1 n2 c2 L0 W (hG.below (six_of hG) hB) hh hp hz ((hL.keep hB).up hs) hn hb hn1
  have hF : Fix h (plN p) (1 + (z % 32).toNat) (msgs (1 + (z % 32).toNat) L0 (min n1 20)) := ⟨plN_four p, by omega, msgs_good _ _ _ (by omega), by rw [msgs_len]; omega, hh⟩
  generalize msgs (1 + (z % 32).toNat) L0 (min n1 20) = L at *
  generalize 1 + (z % 32).toNat = sz at *
  generalize plN p = pl at *
  simp only [playC] at *
  have HBO := Lib.hid hBO
  have HF := Lib.hid hF
  have HG := Lib.hid hG
  have HA2 := Lib.hid hA2
  have hpl := hF.four.le
  have HPL := Lib.hid hpl
  clear hBO hF hG hA2 hL hb hh hp hz hn hn1 hpl
  go_enter Tryd.func5, Tryd.ntmps5
  go_wp2_with fail
  have hB1 : Below w.heap.size w (w.alloc (.cells #[.int .u32 h, .int .u32 t, .slice A1 n1 c1, .slice A2 n2 c2] 43)) := (Below.refl _ _).alloc (Nat.le_refl _) _
  have k3 : (w.alloc (.cells #[.int .u32 h, .int .u32 t, .slice A1 n1 c1, .slice A2 n2 c2] 43)).cell? ⟨w.heap.size, 3, none⟩ = some (.slice A2 n2 c2) := al_new _ _ _ _ _ rfl rfl
  obtain ⟨w1, hw1⟩ : ∃ w1, w1 = w.alloc (.cells #[.int .u32 h, .int .u32 t, .slice A1 n1 c1, .slice A2 n2 c2] 43) := ⟨_, rfl⟩
  have hs1 : w1.heap.size = w.heap.size + 1 := by rw [hw1]; simp
  rw [← hw1] at hB1 k3 ⊢
  have HB1 := Lib.hid hB1
  have HK3 := Lib.hid k3
  have HS1 := Lib.hid hs1
  clear hw1 hB1 k3 hs1
  with_reducible refine (HBO.out w1 HB1.out HB1.out.size).mono ?_
  rintro e w2 ⟨wl, g, B, C, A, c, f, rfl, hBl, hSt, hSy, hf0, hf1⟩
  have HBl := Lib.hid hBl
  have HSt := Lib.hid hSt
  have HR2 := Lib.hid (ab0_run HF.out hSy hf0 hf1)
  have HB2 := Lib.hid (HB1.out.trans ((hBl.trans (hSy.bel.mono hBl.size)).mono HB1.out.size))
  clear hBl hSt hSy hf0 hf1
  go_wp2_with fail
  with_reducible refine (awake_any w2 (HG.out.below (six_of HG.out) HB2.out)).mono ?_
  rintro e w3 ⟨rfl, hB3⟩
  have HR3 := Lib.hid (HR2.out.keep hB3)
  clear hB3
  go_wp2_with fail
  go_loopw [12] (fun i wr => ∃ (k : Nat) (a : Ab), k ≤ n2 ∧ k ≤ 250 ∧ i = .int .i64 k ∧ RunA wl g B C h pl sz L a (1000 + k) wr) (fun i _ => 250 - (intOf i).toNat)
  case atStart => exact ⟨0, _, Nat.zero_le _, Nat.zero_le _, rfl, HR3.out⟩
  case round =>
    obtain ⟨k, a, hk, hk2, rfl, hR⟩ := hrel
    have HR := Lib.hid hR
    have HBW := Lib.hid (HB1.out.trans ((HBl.out.trans (hR.bel.mono HBl.out.size)).mono HB1.out.size))
    have HB1W := Lib.hid (HBl.out.trans (hR.bel.mono HBl.out.size))
    have k3 := kept HK3.out HB1W.out
    clear hR
    by_cases hkn : (k : Int) < n2
    · by_cases hk250 : (k : Int) < 250
      · have hkN : k < n2 := by omega
        obtain ⟨b2, o2, rfl⟩ := HA2.out.head hkN
        have e0 := (HA2.out.keep HBW.out).cell hkN
        generalize q k = x at *
        obtain ⟨y, hy⟩ : ∃ y, bits .and .u8 x 1 = y := ⟨_, rfl⟩
        by_cases hy0 : y = 0
        · have hb0 : (y == 0) = true := by simpa using hy0
          clear hy0
          have HST := Lib.hid (ra_s HF.out HR.out (by omega))
          go_wp2_with fail
          with_reducible refine HST.out.mono ?_
          rintro e w4 ⟨rfl, hR4⟩
          have HR4 := Lib.hid hR4
          clear hR4 e0 k3 hb0
          go_wp2_with fail
          with_reducible refine (ra_sent HR4.out).mono ?_
          rintro e w5 ⟨d5, rfl, hd5, hl5, hB5⟩
          have HD5 := Lib.hid hd5
          have HR5 := Lib.hid (HR4.out.keep hB5)
          clear hd5 hl5 hB5
          go_wp2_with fail
          with_reducible refine (ra_got HR5.out).mono ?_
          rintro e w6 ⟨d6, rfl, hd6, hl6, hB6⟩
          have HD6 := Lib.hid hd6
          have HR6 := Lib.hid (HR5.out.keep hB6)
          have HD56 := Lib.hid (RowL.keep HD5.out hB6)
          clear hd6 hl6 hB6
          go_wp2_with fail
          with_reducible refine (ra_passed HR6.out HSt.out HF.out.few HD56.out HD6.out rfl (by first | rfl | rw [List.length_map]) (by first | rfl | rw [List.length_map])).mono ?_
          rintro e w7 ⟨Ao, co, Ai, ci, rfl, ho, hi, hco, hB7⟩
          have HR7 := Lib.hid (HR6.out.keep hB7)
          obtain ⟨g1, g2, g3, g4, g5⟩ := checks_ok HR7.out (HPL.out) hco
          have HTX := Lib.hid (texts_ok HR7.out ho hi (ci := ci) (co := co))
          clear ho hi hB7
          obtain ⟨nO, hnO⟩ : ∃ nO, nO = (Ab.out L (a.stepS L pl)).length := ⟨_, rfl⟩
          obtain ⟨nI, hnI⟩ : ∃ nI, nI = (a.stepS L pl).inn.length := ⟨_, rfl⟩
          rw [← hnO, ← hnI] at g1 g2 g5
          rw [← hnO] at g4 hco ⊢
          rw [← hnI] at g3 HTX ⊢
          clear hnO hnI
          go_wp2_with fail
          with_reducible refine (HTX.out _ (Qt.refl _)).mono ?_
          rintro e w8 ⟨rfl, m8, hw8⟩
          have HR8 := Lib.hid (show RunA wl g B C h pl sz L (a.stepS L pl) (1000 + (k : Int) + 1) w8 from by subst hw8; exact HR7.out.keep (Qt.below ⟨m8, rfl⟩))
          clear hw8
          go_wp2_with fail
          go_roundw
          case rel => exact ⟨k + 1, _, by omega, by omega, by go_num, by rw [show (1000 : Int) + ((k + 1 : Nat) : Int) = 1000 + k + 1 by omega]; exact HR8.out⟩
          case measure => simp [intOf]; omega
        · have hb0 : (y == 0) = false := by simpa using hy0
          clear hy0
          have HST := Lib.hid (ra_r HF.out HR.out (by omega))
          go_wp2_with fail
          with_reducible refine HST.out.mono ?_
          rintro e w4 ⟨rfl, hR4⟩
          have HR4 := Lib.hid hR4
          clear hR4 e0 k3 hb0
          go_wp2_with fail
          with_reducible refine (ra_sent HR4.out).mono ?_
          rintro e w5 ⟨d5, rfl, hd5, hl5, hB5⟩
          have HD5 := Lib.hid hd5
          have HR5 := Lib.hid (HR4.out.keep hB5)
          clear hd5 hl5 hB5
          go_wp2_with fail
          with_reducible refine (ra_got HR5.out).mono ?_
          rintro e w6 ⟨d6, rfl, hd6, hl6, hB6⟩
          have HD6 := Lib.hid hd6
          have HR6 := Lib.hid (HR5.out.keep hB6)
          have HD56 := Lib.hid (RowL.keep HD5.out hB6)
          clear hd6 hl6 hB6
          go_wp2_with fail
          with_reducible refine (ra_passed HR6.out HSt.out HF.out.few HD56.out HD6.out rfl (by first | rfl | rw [List.length_map]) (by first | rfl | rw [List.length_map])).mono ?_
          rintro e w7 ⟨Ao, co, Ai, ci, rfl, ho, hi, hco, hB7⟩
          have HR7 := Lib.hid (HR6.out.keep hB7)
          obtain ⟨g1, g2, g3, g4, g5⟩ := checks_ok HR7.out (HPL.out) hco
          have HTX := Lib.hid (texts_ok HR7.out ho hi (ci := ci) (co := co))
          clear ho hi hB7
          obtain ⟨nO, hnO⟩ : ∃ nO, nO = (Ab.out L (a.stepR L)).length := ⟨_, rfl⟩
          obtain ⟨nI, hnI⟩ : ∃ nI, nI = (a.stepR L).inn.length := ⟨_, rfl⟩
          rw [← hnO, ← hnI] at g1 g2 g5
          rw [← hnO] at g4 hco ⊢
          rw [← hnI] at g3 HTX ⊢
          clear hnO hnI
          go_wp2_with fail
          with_reducible refine (HTX.out _ (Qt.refl _)).mono ?_
          rintro e w8 ⟨rfl, m8, hw8⟩
          have HR8 := Lib.hid (show RunA wl g B C h pl sz L (a.stepR L) (1000 + (k : Int) + 1) w8 from by subst hw8; exact HR7.out.keep (Qt.below ⟨m8, rfl⟩))
          clear hw8
          go_wp2_with fail
          go_roundw
          case rel => exact ⟨k + 1, _, by omega, by omega, by go_num, by rw [show (1000 : Int) + ((k + 1 : Nat) : Int) = 1000 + k + 1 by omega]; exact HR8.out⟩
          case measure => simp [intOf]; omega
      · skip
        go_wp2_with fail
        go_loopw [15] (fun i wr2 => ∃ (j : Nat) (a1 : Ab), j ≤ 1000 ∧ i = .int .i64 j ∧ RunA wl g B C h pl sz L a1 (2000 + j) wr2) (fun i _ => 1000 - (intOf i).toNat)
        case atStart => exact ⟨0, a, Nat.zero_le _, rfl, HR.out.more (by omega)⟩
        case round =>
          obtain ⟨j, a0, hj, rfl, hR0⟩ := hrel
          have HR0 := Lib.hid hR0
          clear hR0
          by_cases hj1 : (j : Int) < 1000
          · have HST := Lib.hid (ra_r HF.out HR0.out (by omega))
            by_cases h5 : 5 ≤ (a0.stepR L).rp
            · rw [decide_eq_true h5] at HST
              go_wp2_with fail
              with_reducible refine HST.out.mono ?_
              rintro e w4 ⟨rfl, hR4⟩
              have HR4 := Lib.hid hR4
              clear hR4 HST h5
              obtain ⟨a1, ha1⟩ : ∃ a1, a1 = a0.stepR L := ⟨_, rfl⟩
              rw [← ha1] at HR4
              clear ha1
              have HG4 := Lib.hid HR4.out.got_le
              have HBE := Lib.hid (HBl.out.trans (HR4.out.bel.mono HBl.out.size))
              go_wp2_with fail
              with_reducible refine (ra_sent HR4.out).mono ?_
              rintro e w5 ⟨d5, rfl, hd5, hl5, hB5⟩
              have HD5 := Lib.hid hd5
              have HR5 := Lib.hid (HR4.out.keep hB5)
              clear hd5 hl5 hB5
              go_wp2_with fail
              with_reducible refine (ra_got HR5.out).mono ?_
              rintro e w6 ⟨d6, rfl, hd6, hl6, hB6⟩
              have HD6 := Lib.hid hd6
              have HR6 := Lib.hid (HR5.out.keep hB6)
              have HD56 := Lib.hid (RowL.keep HD5.out hB6)
              clear hd6 hl6 hB6
              go_wp2_with fail
              with_reducible refine (ra_passed HR6.out HSt.out HF.out.few HD56.out HD6.out rfl (by first | rfl | rw [List.length_map]) (by first | rfl | rw [List.length_map])).mono ?_
              rintro e w7 ⟨Ao, co, Ai, ci, rfl, ho, hi, hco, hB7⟩
              have HR7 := Lib.hid (HR6.out.keep hB7)
              obtain ⟨g1, g2, g3, g4, g5⟩ := checks_ok HR7.out (HPL.out) hco
              have HTX2F := Lib.hid (texts_later HR7.out ho hi (ci := ci) (co := co))
              clear ho hi hB7
              obtain ⟨nO, hnO⟩ : ∃ nO, nO = (Ab.out L (a1)).length := ⟨_, rfl⟩
              obtain ⟨nI, hnI⟩ : ∃ nI, nI = (a1).inn.length := ⟨_, rfl⟩
              rw [← hnO, ← hnI] at g1 g2 g5
              rw [← hnO] at g4 hco ⊢
              rw [← hnI] at g3 HTX2F ⊢
              clear hnO hnI
              go_wp2_with fail
              with_reducible refine (ra_got HR7.out).mono ?_
              rintro e w8 ⟨d8, rfl, hd8, hl8, hB8⟩
              have HR8 := Lib.hid (HR7.out.keep hB8)
              have HTX2 := Lib.hid (HTX2F.out _ hB8)
              clear hd8 hl8 hB8
              obtain ⟨ng, hng⟩ : ∃ ng, ng = a1.got.length := ⟨_, rfl⟩
              have hmg : (List.map Value.string a1.got).length = ng := by rw [List.length_map, hng]
              clear hng
              by_cases hg40 : (ng : Int) < 40
              · go_wp2_with fail
                go_ret
                exact ⟨rfl, HB1.out.trans ((HBl.out.trans (HR8.out.bel.mono HBl.out.size)).mono HB1.out.size)⟩
              · go_wp2_with fail
                with_reducible refine HTX2.out.mono ?_
                rintro e w9 ⟨rfl, m9, hw9⟩
                have HR9 := Lib.hid (show RunA wl g B C h pl sz L a1 _ w9 from by subst hw9; exact HR8.out.keep (Qt.below ⟨m9, rfl⟩))
                clear hw9
                go_wp2_with fail
                go_ret
                exact ⟨rfl, HB1.out.trans ((HBl.out.trans (HR9.out.bel.mono HBl.out.size)).mono HB1.out.size)⟩

            · rw [decide_eq_false h5] at HST
              go_wp2_with fail
              with_reducible refine HST.out.mono ?_
              rintro e w4 ⟨rfl, hR4⟩
              have HR4 := Lib.hid hR4
              clear hR4 HST h5
              go_wp2_with fail
              go_roundw
              case rel => exact ⟨j + 1, _, by omega, by go_num, by rw [show (2000 : Int) + ((j + 1 : Nat) : Int) = 2000 + j + 1 by omega]; exact HR4.out⟩
              case measure => simp [intOf]; omega
          · obtain ⟨a1, ha1⟩ : ∃ a1, a1 = a0 := ⟨_, rfl⟩
            have HR4 := Lib.hid HR0.out
            rw [← ha1] at HR4
            clear ha1
            have HG4 := Lib.hid HR4.out.got_le
            have HBE := Lib.hid (HBl.out.trans (HR4.out.bel.mono HBl.out.size))
            go_wp2_with fail
            with_reducible refine (ra_sent HR4.out).mono ?_
            rintro e w5 ⟨d5, rfl, hd5, hl5, hB5⟩
            have HD5 := Lib.hid hd5
            have HR5 := Lib.hid (HR4.out.keep hB5)
            clear hd5 hl5 hB5
            go_wp2_with fail
            with_reducible refine (ra_got HR5.out).mono ?_
            rintro e w6 ⟨d6, rfl, hd6, hl6, hB6⟩
            have HD6 := Lib.hid hd6
            have HR6 := Lib.hid (HR5.out.keep hB6)
            have HD56 := Lib.hid (RowL.keep HD5.out hB6)
            clear hd6 hl6 hB6
            go_wp2_with fail
            with_reducible refine (ra_passed HR6.out HSt.out HF.out.few HD56.out HD6.out rfl (by first | rfl | rw [List.length_map]) (by first | rfl | rw [List.length_map])).mono ?_
            rintro e w7 ⟨Ao, co, Ai, ci, rfl, ho, hi, hco, hB7⟩
            have HR7 := Lib.hid (HR6.out.keep hB7)
            obtain ⟨g1, g2, g3, g4, g5⟩ := checks_ok HR7.out (HPL.out) hco
            have HTX2F := Lib.hid (texts_later HR7.out ho hi (ci := ci) (co := co))
            clear ho hi hB7
            obtain ⟨nO, hnO⟩ : ∃ nO, nO = (Ab.out L (a1)).length := ⟨_, rfl⟩
            obtain ⟨nI, hnI⟩ : ∃ nI, nI = (a1).inn.length := ⟨_, rfl⟩
            rw [← hnO, ← hnI] at g1 g2 g5
            rw [← hnO] at g4 hco ⊢
            rw [← hnI] at g3 HTX2F ⊢
            clear hnO hnI
            go_wp2_with fail
            with_reducible refine (ra_got HR7.out).mono ?_
            rintro e w8 ⟨d8, rfl, hd8, hl8, hB8⟩
            have HR8 := Lib.hid (HR7.out.keep hB8)
            have HTX2 := Lib.hid (HTX2F.out _ hB8)
            clear hd8 hl8 hB8
            obtain ⟨ng, hng⟩ : ∃ ng, ng = a1.got.length := ⟨_, rfl⟩
            have hmg : (List.map Value.string a1.got).length = ng := by rw [List.length_map, hng]
            clear hng
            by_cases hg40 : (ng : Int) < 40
            · go_wp2_with fail
              go_ret
              exact ⟨rfl, HB1.out.trans ((HBl.out.trans (HR8.out.bel.mono HBl.out.size)).mono HB1.out.size)⟩
            · go_wp2_with fail
              with_reducible refine HTX2.out.mono ?_
              rintro e w9 ⟨rfl, m9, hw9⟩
              have HR9 := Lib.hid (show RunA wl g B C h pl sz L a1 _ w9 from by subst hw9; exact HR8.out.keep (Qt.below ⟨m9, rfl⟩))
              clear hw9
              go_wp2_with fail
              go_ret
              exact ⟨rfl, HB1.out.trans ((HBl.out.trans (HR9.out.bel.mono HBl.out.size)).mono HB1.out.size)⟩

    · skip
      go_wp2_with fail
      go_loopw [15] (fun i wr2 => ∃ (j : Nat) (a1 : Ab), j ≤ 1000 ∧ i = .int .i64 j ∧ RunA wl g B C h pl sz L a1 (2000 + j) wr2) (fun i _ => 1000 - (intOf i).toNat)
      case atStart => exact ⟨0, a, Nat.zero_le _, rfl, HR.out.more (by omega)⟩
      case round =>
        obtain ⟨j, a0, hj, rfl, hR0⟩ := hrel
        have HR0 := Lib.hid hR0
        clear hR0
        by_cases hj1 : (j : Int) < 1000
        · have HST := Lib.hid (ra_r HF.out HR0.out (by omega))
          by_cases h5 : 5 ≤ (a0.stepR L).rp
          · rw [decide_eq_true h5] at HST
            go_wp2_with fail
            with_reducible refine HST.out.mono ?_
            rintro e w4 ⟨rfl, hR4⟩
            have HR4 := Lib.hid hR4
            clear hR4 HST h5
            obtain ⟨a1, ha1⟩ : ∃ a1, a1 = a0.stepR L := ⟨_, rfl⟩
            rw [← ha1] at HR4
            clear ha1
            have HG4 := Lib.hid HR4.out.got_le
            have HBE := Lib.hid (HBl.out.trans (HR4.out.bel.mono HBl.out.size))
            go_wp2_with fail
            with_reducible refine (ra_sent HR4.out).mono ?_
            rintro e w5 ⟨d5, rfl, hd5, hl5, hB5⟩
            have HD5 := Lib.hid hd5
            have HR5 := Lib.hid (HR4.out.keep hB5)
            clear hd5 hl5 hB5
            go_wp2_with fail
            with_reducible refine (ra_got HR5.out).mono ?_
            rintro e w6 ⟨d6, rfl, hd6, hl6, hB6⟩
            have HD6 := Lib.hid hd6
            have HR6 := Lib.hid (HR5.out.keep hB6)
            have HD56 := Lib.hid (RowL.keep HD5.out hB6)
            clear hd6 hl6 hB6
            go_wp2_with fail
            with_reducible refine (ra_passed HR6.out HSt.out HF.out.few HD56.out HD6.out rfl (by first | rfl | rw [List.length_map]) (by first | rfl | rw [List.length_map])).mono ?_
            rintro e w7 ⟨Ao, co, Ai, ci, rfl, ho, hi, hco, hB7⟩
            have HR7 := Lib.hid (HR6.out.keep hB7)
            obtain ⟨g1, g2, g3, g4, g5⟩ := checks_ok HR7.out (HPL.out) hco
            have HTX2F := Lib.hid (texts_later HR7.out ho hi (ci := ci) (co := co))
            clear ho hi hB7
            obtain ⟨nO, hnO⟩ : ∃ nO, nO = (Ab.out L (a1)).length := ⟨_, rfl⟩
            obtain ⟨nI, hnI⟩ : ∃ nI, nI = (a1).inn.length := ⟨_, rfl⟩
            rw [← hnO, ← hnI] at g1 g2 g5
            rw [← hnO] at g4 hco ⊢
            rw [← hnI] at g3 HTX2F ⊢
            clear hnO hnI
            go_wp2_with fail
            with_reducible refine (ra_got HR7.out).mono ?_
            rintro e w8 ⟨d8, rfl, hd8, hl8, hB8⟩
            have HR8 := Lib.hid (HR7.out.keep hB8)
            have HTX2 := Lib.hid (HTX2F.out _ hB8)
            clear hd8 hl8 hB8
            obtain ⟨ng, hng⟩ : ∃ ng, ng = a1.got.length := ⟨_, rfl⟩
            have hmg : (List.map Value.string a1.got).length = ng := by rw [List.length_map, hng]
            clear hng
            by_cases hg40 : (ng : Int) < 40
            · go_wp2_with fail
              go_ret
              exact ⟨rfl, HB1.out.trans ((HBl.out.trans (HR8.out.bel.mono HBl.out.size)).mono HB1.out.size)⟩
            · go_wp2_with fail
              with_reducible refine HTX2.out.mono ?_
              rintro e w9 ⟨rfl, m9, hw9⟩
              have HR9 := Lib.hid (show RunA wl g B C h pl sz L a1 _ w9 from by subst hw9; exact HR8.out.keep (Qt.below ⟨m9, rfl⟩))
              clear hw9
              go_wp2_with fail
              go_ret
              exact ⟨rfl, HB1.out.trans ((HBl.out.trans (HR9.out.bel.mono HBl.out.size)).mono HB1.out.size)⟩

          · rw [decide_eq_false h5] at HST
            go_wp2_with fail
            with_reducible refine HST.out.mono ?_
            rintro e w4 ⟨rfl, hR4⟩
            have HR4 := Lib.hid hR4
            clear hR4 HST h5
            go_wp2_with fail
            go_roundw
            case rel => exact ⟨j + 1, _, by omega, by go_num, by rw [show (2000 : Int) + ((j + 1 : Nat) : Int) = 2000 + j + 1 by omega]; exact HR4.out⟩
            case measure => simp [intOf]; omega
        · obtain ⟨a1, ha1⟩ : ∃ a1, a1 = a0 := ⟨_, rfl⟩
          have HR4 := Lib.hid HR0.out
          rw [← ha1] at HR4
          clear ha1
          have HG4 := Lib.hid HR4.out.got_le
          have HBE := Lib.hid (HBl.out.trans (HR4.out.bel.mono HBl.out.size))
          go_wp2_with fail
          with_reducible refine (ra_sent HR4.out).mono ?_
          rintro e w5 ⟨d5, rfl, hd5, hl5, hB5⟩
          have HD5 := Lib.hid hd5
          have HR5 := Lib.hid (HR4.out.keep hB5)
          clear hd5 hl5 hB5
          go_wp2_with fail
          with_reducible refine (ra_got HR5.out).mono ?_
          rintro e w6 ⟨d6, rfl, hd6, hl6, hB6⟩
          have HD6 := Lib.hid hd6
          have HR6 := Lib.hid (HR5.out.keep hB6)
          have HD56 := Lib.hid (RowL.keep HD5.out hB6)
          clear hd6 hl6 hB6
          go_wp2_with fail
          with_reducible refine (ra_passed HR6.out HSt.out HF.out.few HD56.out HD6.out rfl (by first | rfl | rw [List.length_map]) (by first | rfl | rw [List.length_map])).mono ?_
          rintro e w7 ⟨Ao, co, Ai, ci, rfl, ho, hi, hco, hB7⟩
          have HR7 := Lib.hid (HR6.out.keep hB7)
          obtain ⟨g1, g2, g3, g4, g5⟩ := checks_ok HR7.out (HPL.out) hco
          have HTX2F := Lib.hid (texts_later HR7.out ho hi (ci := ci) (co := co))
          clear ho hi hB7
          obtain ⟨nO, hnO⟩ : ∃ nO, nO = (Ab.out L (a1)).length := ⟨_, rfl⟩
          obtain ⟨nI, hnI⟩ : ∃ nI, nI = (a1).inn.length := ⟨_, rfl⟩
          rw [← hnO, ← hnI] at g1 g2 g5
          rw [← hnO] at g4 hco ⊢
          rw [← hnI] at g3 HTX2F ⊢
          clear hnO hnI
          go_wp2_with fail
          with_reducible refine (ra_got HR7.out).mono ?_
          rintro e w8 ⟨d8, rfl, hd8, hl8, hB8⟩
          have HR8 := Lib.hid (HR7.out.keep hB8)
          have HTX2 := Lib.hid (HTX2F.out _ hB8)
          clear hd8 hl8 hB8
          obtain ⟨ng, hng⟩ : ∃ ng, ng = a1.got.length := ⟨_, rfl⟩
          have hmg : (List.map Value.string a1.got).length = ng := by rw [List.length_map, hng]
          clear hng
          by_cases hg40 : (ng : Int) < 40
          · go_wp2_with fail
            go_ret
            exact ⟨rfl, HB1.out.trans ((HBl.out.trans (HR8.out.bel.mono HBl.out.size)).mono HB1.out.size)⟩
          · go_wp2_with fail
            with_reducible refine HTX2.out.mono ?_
            rintro e w9 ⟨rfl, m9, hw9⟩
            have HR9 := Lib.hid (show RunA wl g B C h pl sz L a1 _ w9 from by subst hw9; exact HR8.out.keep (Qt.below ⟨m9, rfl⟩))
            clear hw9
            go_wp2_with fail
            go_ret
            exact ⟨rfl, HB1.out.trans ((HBl.out.trans (HR9.out.bel.mono HBl.out.size)).mono HB1.out.size)⟩

end Go.Proofs.YtnmobalgghggnaaDoor
