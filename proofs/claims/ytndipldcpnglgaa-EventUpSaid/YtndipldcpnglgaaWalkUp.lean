/-
  The law of being up.
-/
import Derived.Test.YtndipldcpnglgaaEvQ
import Derived.Test.YtndipldcpnglgaaOpenX
import Derived.Deep.CutBlock
namespace Go.Proofs.Ytndipldcpnglgaa
open Go.RowKit

theorem meth_exp (g : Nat) (w : World) : (method 218 61 (.pointer (some ⟨g, 0, none⟩)) "Expire").run Try.prog w = .ok (44, .pointer (some ⟨g, 0, none⟩)) w := by kernel_rfl
/-- Behind k calls. -/
def UpK (H : Nat) (w0 w : World) (s k : Nat) : Prop := ∃ g b v X, EB H w0 w s g b v X ∧ UpOk k X
set_option maxHeartbeats 4000000 in
set_option maxRecDepth 100000 in
theorem walk_up (up : Bool) (A : Option Addr) (c : Nat) (cs : List CallA) (w : World) (hwf : ∀ y ∈ cs, WfCall y) (hA : CallsAt w A cs) (_ : cs.length ≤ 140737488355328) :
    Calls Try.prog 4 #[.bool up, .slice A cs.length c] w fun e w' => e = .returned (.bool true) ∧ Below w.heap.size w w' := by
  have hnew := Lib.hid (fun W => enew_any up W)
  have haw := Lib.hid (fun W => awake_any W)
  have HCS := Lib.hid hA
  have HWF := Lib.hid hwf
  clear hA hwf
  go_enter Try.func4, Try.ntmps4
  go_wp2_with fail
  with_reducible refine (hnew.out _).mono ?_
  rintro e w1 ⟨s, g, b, rfl, hL, hk, hB⟩
  have L0 := Lib.hid (EB.new hL hk hB)
  clear hL hk hB hnew
  go_wp2_with fail
  with_reducible refine (haw.out _).mono ?_
  rintro e w2 ⟨rfl, hB2⟩
  have HK0 : Hid (UpK w.heap.size w w2 s 0) := ⟨g, b, _, _, L0.out.keep hB2, UpOk.new up⟩
  clear L0 hB2 haw
  go_wp2_with fail
  go_loopw [6] (fun kv wr => ∃ k : Nat, kv = .int .i64 k ∧ k ≤ 60 ∧ Hid (UpK w.heap.size w wr s k)) (fun kv _ => 61 - (intOf kv).toNat)
  case atStart => exact ⟨0, rfl, Nat.zero_le _, HK0⟩
  case round =>
    obtain ⟨k, rfl, hk60, HK⟩ := hrel
    clear HK0
    by_cases hlt : k < cs.length ∧ k < 60
    · obtain ⟨hl1, hl2⟩ := hlt
      obtain ⟨bb, oo, rfl, hcc⟩ : ∃ bb oo, A = some ⟨bb, oo, none⟩ ∧ ∀ W, Below w.heap.size w W → ∀ j u, (xC (cs.getD k dX))[j]? = some u → W.cell? ⟨bb, oo + k * 4 + j, none⟩ = some u := by
        obtain ⟨bb, oo, e⟩ := Arr.head HCS.out hl1
        subst e
        exact ⟨bb, oo, rfl, fun W hW j u hu => Arr.at (Arr.keep HCS.out hW) hl1 hu⟩
      obtain ⟨⟨y0, y1, y2, y3⟩, hy⟩ : ∃ y, y = cs.getD k dX := ⟨_, rfl⟩
      rw [← hy] at hcc
      have hwfy : WfCall (y0, y1, y2, y3) := by
        rw [hy, List.getD_eq_getElem?_getD, List.getElem?_eq_getElem hl1]
        exact HWF.out _ (List.getElem_mem hl1)
      have hb0 : Below w.heap.size w wr := by obtain ⟨_, _, _, _, hSB, _⟩ := HK.out; exact hSB.bel
      have c0 : wr.cell? ⟨bb, oo + k * 4, none⟩ = some (nV y0) := hcc wr hb0 0 _ rfl
      have c1 := hcc wr hb0 1 _ rfl
      have c2 := hcc wr hb0 2 _ rfl
      have c3 := hcc wr hb0 3 _ rfl
      dsimp only at c0 c1 c2 c3
      have i0 : (0 : Int) ≤ (k : Int) := Int.natCast_nonneg _
      have i1 : (k : Int) < (cs.length : Int) := by omega
      have i2 : (k : Int) < 60 := by omega
      have HW := Lib.hid hwfy
      clear hcc hy hwfy hb0
      go_upto_block 2 with fail
      obtain ⟨g, b, v, X, hSB, hSO⟩ := HK.out
      obtain ⟨wa, hwa⟩ : ∃ wa, wa = wr.alloc (.cells #[nV y0, nV y1, nV y2, nV y3] 32) := ⟨_, rfl⟩
      obtain ⟨p, hp⟩ : ∃ p, p = wr.heap.size := ⟨_, rfl⟩
      have d0 : wa.cell? ⟨p, 0, none⟩ = some (nV y0) := by rw [hwa]; exact al_new _ _ _ 0 _ hp rfl
      have d1 : wa.cell? ⟨p, 1, none⟩ = some (nV y1) := by rw [hwa]; exact al_new _ _ _ 1 _ hp rfl
      have d2 : wa.cell? ⟨p, 2, none⟩ = some (nV y2) := by rw [hwa]; exact al_new _ _ _ 2 _ hp rfl
      have d3 : wa.cell? ⟨p, 3, none⟩ = some (nV y3) := by rw [hwa]; exact al_new _ _ _ 3 _ hp rfl
      have hBa : Below wr.heap.size wr wa := by rw [hwa]; exact (Below.refl _ _).alloc (Nat.le_refl _) _
      have hSA := hSB.keep hBa
      rw [← hwa, ← hp]
      clear c0 c1 c2 c3 hwa hp hSB hBa HK
      have HSA := Lib.hid hSA
      have HSO := Lib.hid hSO
      have HFW := Lib.hid (hSO.few hk60)
      have HU := Lib.hid (up_any wa hSA.sm)
      clear hSA hSO
      with_reducible refine HU.out.mono ?_
      rintro e w3 ⟨rfl, rfl⟩
      clear HU
      go_upto_block 2 with fail
      go_cut [8, 9, 10, 11] (fun _ _ _ _ wx => Hid (UpK w.heap.size w wx s (k + 1)))
      case first =>
        by_cases q0 : y0 = 0
        · subst q0
          have HC := Lib.hid (wait_few y1 y2 y3 HW.out.2.1 HSA.out HFW.out)
          go_wp2_with fail
          with_reducible refine HC.out.mono ?_
          rintro e w3 ⟨he, hP⟩
          obtain ⟨v', hS, _⟩ := HSA.out.step hP
          have hX := HSO.out.wait y1 y2 y3
          have hu1 := wait_up X y1 y2 y3
          have hu2 := waitE_up X y1 y2 y3
          obtain ⟨⟨ok, E⟩, hE⟩ : ∃ z, z = X.waitE y1 y2 y3 := ⟨_, rfl⟩
          rw [← hE] at he hu2
          obtain rfl := he
          have HX : Hid (UpK w.heap.size w w3 s (k + 1)) := ⟨g, b, v', _, hS, hX⟩
          have HU := Lib.hid (up_any w3 hS.sm)
          rw [hu1] at HU
          clear HC hP hS hX hE HSA HSO HFW hu1 d0 d1 d2 d3
          cases hu : X.up with
          | true =>
            rw [hu] at HU
            clear hu2
            cases ok
            all_goals go_wp2_with fail
            all_goals (with_reducible refine HU.out.mono ?_)
            all_goals rintro e w4 ⟨rfl, rfl⟩
            all_goals go_wp2_with fail
            all_goals go_meet
            all_goals exact HX
          | false =>
            cases ok with
            | true => exact absurd (hu2 rfl) (by rw [hu]; simp)
            | false =>
              clear hu2 HU
              go_wp2_with fail
              all_goals go_meet
              all_goals exact HX
        · by_cases q1 : y0 = 1
          · subst q1
            have k0 := HSA.out.sm.c0
            have hml := meth_list g
            have HL := Lib.hid (list_any wa HSA.out.sm.ln (Nat.le_trans HFW.out.1 (by omega)))
            have hlen : X.S.nums.length ≤ 100000 := by rw [nums_len]; have := HFW.out.1; omega
            obtain ⟨G, hG⟩ : ∃ G, G = X.S.nums := ⟨_, rfl⟩
            rw [← hG] at HL hlen
            have HG := Lib.hid hG
            clear hG
            go_wp2_with fail
            with_reducible refine HL.out.mono ?_
            rintro e w3 ⟨vl, rfl, hN, hB3, hfr⟩
            have hSB3 := HSA.out.keep hB3
            have HC := Lib.hid (set_few hSB3 HFW.out)
            have hd : ∀ x, vl.ownBlock = some x → ¬ SBlk s g b v x := fun x hx hb => by have h1 := hfr x hx; have h2 := HSA.out.sm.blk_lt hb; omega
            have HN := Lib.hid (And.intro hN (And.intro hSB3 hd))
            obtain ⟨lA, lc, rfl, _⟩ := hN.len
            clear hN hB3 hfr hSB3 hd k0 hml HL
            go_wp2_with fail
            with_reducible refine HC.out.mono ?_
            rintro e w4 ⟨vs, v4, rfl, hN4, h1, h2, h3, _⟩
            rw [← HG.out] at hN4
            have hS4 := HN.out.2.1.step' h1 h2 h3
            have hN3 := HN.out.1.chg h2 HN.out.2.2
            obtain ⟨sA, sc, rfl, _⟩ := hN4.len
            have hsm := same_any sA lA sc lc G G w4 hN4.ints hN3.ints hlen
            have HX4 := Lib.hid hS4
            clear hN4 h1 h2 h3 hS4 hN3 HN HC
            go_wp2_with fail
            with_reducible refine hsm.mono ?_
            rintro e w5 ⟨he, hB5⟩
            rw [decide_eq_true (show G = G from rfl)] at he
            obtain rfl := he
            have hS5 := HX4.out.keep hB5
            have HX : Hid (UpK w.heap.size w w5 s (k + 1)) := ⟨g, b, v4, _, hS5, HSO.out.set⟩
            have HU := Lib.hid (up_any w5 hS5.sm)
            clear hB5 hS5 HX4 hsm HSA HSO HFW
            go_wp2_with fail
            with_reducible refine HU.out.mono ?_
            rintro e w6 ⟨rfl, rfl⟩
            clear HU
            go_wp2_with fail
            all_goals go_meet
            all_goals exact HX
          · by_cases q2 : y0 = 2
            · subst q2
              have HC := Lib.hid (reset_any _ HSA.out.sm)
              go_wp2_with fail
              with_reducible refine HC.out.mono ?_
              rintro e w3 ⟨rfl, hP⟩
              obtain ⟨v', hS, _⟩ := HSA.out.step hP
              have HX : Hid (UpK w.heap.size w w3 s (k + 1)) := ⟨g, b, v', _, hS, HSO.out.reset⟩
              have HU := Lib.hid (up_any w3 hS.sm)
              clear HC hP hS HSA HSO HFW d0 d1 d2 d3
              go_wp2_with fail
              with_reducible refine HU.out.mono ?_
              rintro e w4 ⟨rfl, rfl⟩
              go_wp2_with fail
              all_goals go_meet
              all_goals exact HX
            · by_cases q3 : y0 = 3
              · subst q3
                have hmt := meth_drop g
                have HC := Lib.hid (drop_any y1 HW.out.2.1 wa.drew ((HSA.out.keep (below_dn wa 1)).sm.ln) (Nat.le_trans HFW.out.1 (by omega)))
                have k0 := HSA.out.sm.c0
                go_wp2_with fail
                go_region_law ((go_simp; (with_reducible refine (HC.out).mono ?_); (rintro e w3 ⟨rfl, hP⟩)))
                all_goals obtain ⟨v', hS, _⟩ := (HSA.out.keep (below_dn wa 1)).step (EvAt.line (HSA.out.keep (below_dn wa 1)).sm hP)
                all_goals have HX : Hid (UpK w.heap.size w w3 s (k + 1)) := ⟨g, b, v', _, hS, HSO.out.line (drop_len X.S y1).1 (drop_len X.S y1).2⟩
                all_goals clear hP hS HSA HSO HFW HC k0
                all_goals go_wp2_with fail
                all_goals go_meet
                all_goals exact HX
              · by_cases q4 : y0 = 4
                · subst q4
                  have hmt := meth_exp g
                  have HC := Lib.hid (exp_any y3 wa.drew ((HSA.out.keep (below_dn wa 1)).sm.ln) (Nat.le_trans HFW.out.1 (by omega)))
                  have k0 := HSA.out.sm.c0
                  go_wp2_with fail
                  go_region_law ((go_simp; (with_reducible refine (HC.out).mono ?_); (rintro e w3 ⟨d, rfl, _, ⟨v1, h1, h2, h3⟩, _⟩)))
                  all_goals obtain ⟨v', hS, _⟩ := (HSA.out.keep (below_dn wa 1)).step (EvAt.line (HSA.out.keep (below_dn wa 1)).sm (same_ln h1 h2 h3))
                  all_goals have HX : Hid (UpK w.heap.size w w3 s (k + 1)) := ⟨g, b, v', _, hS, HSO.out.line (expire_len X.S y3).1 (expire_len X.S y3).2⟩
                  all_goals clear h1 h2 h3 hS HSA HSO HFW HC k0
                  all_goals go_wp2_with fail
                  all_goals go_meet
                  all_goals exact HX
                · have HX : Hid (UpK w.heap.size w wa s (k + 1)) := ⟨g, b, v, X, HSA.out, by have h := HSO.out.line (S' := X.S) (Nat.le_refl _) rfl; exact h⟩
                  clear HSA HSO HFW
                  go_wp2_with fail
                  all_goals go_meet
                  all_goals exact HX
      case rest =>
        clear HSA HSO HFW d0 d1 d2 d3 HW
        obtain ⟨g', b', v', X', hSB, hSO⟩ := hcut
        have HC := Lib.hid (up_any wc hSB.sm)
        have hHK : ∀ W, Below wc.heap.size wc W → Hid (UpK w.heap.size w W s (k + 1)) := fun W hB => ⟨g', b', v', X', hSB.keep hB, hSO⟩
        have k0 := hSB.sm.c0
        have hml := meth_list g'
        have HL := Lib.hid (list_any wc hSB.sm.ln (by have := hSO.L; omega))
        have hz : X'.up = true → X'.S.nums.length = 0 := fun h => by rw [nums_len]; exact hSO.u h
        have HHK := Lib.hid hHK
        clear hSB hSO hHK
        go_wp2_with fail
        with_reducible refine HC.out.mono ?_
        rintro e w3 ⟨rfl, rfl⟩
        cases hu : X'.up with
        | true =>
          have hz0 := hz hu
          clear hz HC hu
          go_wp2_with fail
          with_reducible refine HL.out.mono ?_
          rintro e w4 ⟨vl, rfl, hN, hB4, _⟩
          obtain ⟨lA, lc, rfl, _⟩ := hN.len
          rw [hz0]
          have HX := HHK.out w4 hB4
          clear hN hB4 HL HHK k0 hz0
          go_wp2_with fail
          go_roundw
          case rel => exact ⟨k + 1, by go_num, by omega, HX⟩
          case measure => first | (simp [intOf]; done) | (simp [intOf]; omega)
        | false =>
          have HX := HHK.out _ (Below.refl _ _)
          clear hz HC hu HL HHK k0
          go_wp2_with fail
          go_roundw
          case rel => exact ⟨k + 1, by go_num, by omega, HX⟩
          case measure => first | (simp [intOf]; done) | (simp [intOf]; omega)
    · have HX : Hid (∃ k, UpK w.heap.size w wr s k) := ⟨_, HK.out⟩
      have hex : k < 60 → ¬ (k : Int) < (cs.length : Int) := fun h => by omega
      clear hlt
      go_wp2_with fail
      all_goals (obtain ⟨_, _, _, _, _, hSB, _⟩ := HX.out)
      all_goals have HBB := Lib.hid hSB.bel
      all_goals clear hSB
      all_goals go_wp2_with fail
      all_goals go_ret
      all_goals exact ⟨rfl, HBB.out⟩
end Go.Proofs.Ytndipldcpnglgaa
