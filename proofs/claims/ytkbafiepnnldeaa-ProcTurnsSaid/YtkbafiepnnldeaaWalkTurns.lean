/-
  The law of turns.
-/
import Derived.Test.YtkbafiepnnldeaaTurnP
namespace Go.Proofs.Ytkbafiepnnldeaa
open Go.RowKit

set_option maxHeartbeats 8000000 in
set_option maxRecDepth 100000 in
theorem walk_turns (A : Option Addr) (c : Nat) (l : List Int) (A1 : Option Addr) (c1 : Nat) (cs : List CallA) (w : World) (hpl : ∀ y ∈ l, 0 ≤ y ∧ y ≤ 255) (hpa : BytesAt w A l) (hln : l.length ≤ 140737488355328) (hA : CallsAt w A1 cs) (_ : cs.length ≤ 140737488355328) :
    Calls Try.prog 5 #[.slice A l.length c, .slice A1 cs.length c1] w fun e w' => e = .returned (.bool true) ∧ Below w.heap.size w w' := by
  have hu := u_of_bytes hpa hpl
  obtain ⟨first, hfirst⟩ : ∃ first, first = natsOf l := ⟨_, rfl⟩
  obtain ⟨n, hn⟩ : ∃ n, n = l.length := ⟨_, rfl⟩
  have hfn : first.length = n := by rw [hfirst, natsOf_len, hn]
  rw [← hfirst] at hu
  have hnew := Lib.hid (new_any A c first w hu (by omega))
  rw [hfn] at hnew
  have haw := Lib.hid (fun W => awake_any W)
  have HCS := Lib.hid hA
  have HFN := Lib.hid hfn
  have HUA := Lib.hid hu
  have hnb : n ≤ 140737488355328 := by omega
  rw [← hn]
  clear hA hpl hpa hln hu hfirst hn hfn
  go_enter Try.func5, Try.ntmps5
  go_wp2_with fail
  with_reducible refine hnew.out.mono ?_
  rintro e w1 hP
  rcases hP with ⟨hE, rfl, hB⟩ | ⟨hE, g, bi, ba, ci, v0, rfl, hT, hblk, hB⟩
  · have HB := Lib.hid hB
    obtain ⟨E, hEE⟩ : ∃ E, E = newE first := ⟨_, rfl⟩
    rw [← hEE] at hE ⊢
    clear hnew hB hEE
    go_wp2_with fail
    with_reducible refine (haw.out _).mono ?_
    rintro e w2 ⟨rfl, hB2⟩
    have HB2 := Lib.hid (HB.out.trans (hB2.mono HB.out.size))
    clear hB2
    go_wp2_with fail
    with_reducible refine (haw.out _).mono ?_
    rintro e w3 ⟨rfl, hB3⟩
    have HB3 := Lib.hid (HB2.out.trans (hB3.mono HB2.out.size))
    clear hB3
    go_wp2_with fail
    go_ret
    exact ⟨rfl, HB3.out⟩
  · have HT0 : Hid (TB w.heap.size w w1 g bi ba ci v0 (Tb.new first)) := ⟨hT, new_ok hE, hblk, hB, hB.size⟩
    have hn16 : n ≤ 16 := by
      have := (new_ok hE).most
      have h2 : (Tb.new first).l.length = first.length := by show (first.map _).length = _; rw [List.length_map]
      rw [h2, HFN.out] at this
      exact this
    clear hnew hE hT hblk hB
    go_wp2_with fail
    with_reducible refine (haw.out _).mono ?_
    rintro e w2 ⟨rfl, hB2⟩
    have HK0 : Hid (TbK first w.heap.size w w2 g bi ba ci) := ⟨v0, _, HT0.out.keep hB2, rfl⟩
    clear HT0 hB2 haw
    go_upto_block 0 with fail
    go_cut [7] (fun _ wx => Hid (TbK first w.heap.size w wx g bi ba ci))
    case first =>
      go_wp2_with fail
      go_loopw [7] (fun kv wr => ∃ k : Nat, kv = .int .i64 k ∧ k ≤ 60 ∧ Hid (TbK first w.heap.size w wr g bi ba ci)) (fun kv _ => 61 - (intOf kv).toNat)
      case atStart => exact ⟨0, rfl, Nat.zero_le _, HK0⟩
      case round =>
        obtain ⟨k, rfl, hk60, HK⟩ := hrel
        clear HK0
        by_cases hlt : k < cs.length ∧ k < 60
        · obtain ⟨hl1, hl2⟩ := hlt
          obtain ⟨bb, oo, y0, y1, y2, rfl, hcc⟩ := call_cells HCS.out hl1
          obtain ⟨v, T, hTB, hTf⟩ := HK.out
          obtain ⟨d0, d1, d2⟩ := hcc wr hTB.bel
          have HTB := Lib.hid hTB
          have HTF := Lib.hid hTf
          have i0 : (0 : Int) ≤ (k : Int) := Int.natCast_nonneg _
          have i1 : (k : Int) < (cs.length : Int) := by omega
          have i2 : (k : Int) < 60 := by omega
          have HCA := Lib.hid (fun W => call_any y0 y1 y2 W)
          unfold cV at HCA
          clear hcc HK hTB hTf
          go_wp2_with fail
          with_reducible refine (HCA.out _).mono ?_
          rintro e wa ⟨rfl, hBa⟩
          have HTA := Lib.hid (HTB.out.keep hBa)
          have HDO := Lib.hid (do_any (nk y0) y1 y2 wa HTA.out.tb HTA.out.ok (nk_range y0).1 (nk_range y0).2)
          unfold cV at HDO
          clear hBa HTB HCA d0 d1 d2
          go_wp2_with fail
          with_reducible refine HDO.out.mono ?_
          rintro e wb hP
          obtain ⟨rfl, v', hTB', hTF'⟩ := TbK.step HTA.out HTF.out hP
          have HK1 : Hid (TbK first w.heap.size w wb g bi ba ci) := ⟨v', _, hTB', hTF'⟩
          obtain ⟨E, hE⟩ : ∃ E, E = T.stepE (nk y0) y1 y2 := ⟨_, rfl⟩
          rw [← hE]
          clear hP hTB' hTF' hE HTA HDO
          go_wp2_with fail
          go_roundw
          case rel => exact ⟨k + 1, by go_num, by omega, HK1⟩
          case measure => simp [intOf]; omega
        · by_cases hx2 : (k : Int) < (cs.length : Int)
          · have hx : ¬ (k : Int) < 60 := by omega
            go_wp2_with fail
            go_meet
            exact HK
          · go_wp2_with fail
            go_meet
            exact HK
    case rest =>
      have HK := Lib.hid hcut
      clear hcut HK0
      rename World => w3
      obtain ⟨v, T, hTB, hTf⟩ := HK.out.out
      have HTB := Lib.hid hTB
      have hln : T.l.length = n := by rw [hTB.len hTf, HFN.out]
      have HLN := Lib.hid hln
      have HRU := Lib.hid (running_any w3 hTB.tb)
      cases hq : T.q with
      | nil =>
        rw [hq] at HRU
        unfold headOf at HRU
        have HBE := Lib.hid hTB.bel
        clear hTB hTf HK hln hq
        go_wp2_with fail
        with_reducible refine HRU.out.mono ?_
        rintro e w4 ⟨rfl, hw4⟩
        subst hw4
        go_wp2_with fail
        go_ret
        exact ⟨rfl, HBE.out⟩
      | cons a r =>
        obtain ⟨A0, B0, hTQ⟩ := topq_of hTB.ok hq
        obtain ⟨h1, h2, h3⟩ := head_top hTB.ok hq
        have hSt : stateOf T a = atP T.l a := by unfold stateOf; rw [if_pos h1]
        have HST := Lib.hid (state_any a w3 hTB.tb)
        rw [hSt] at HST
        obtain ⟨p, hp⟩ : ∃ p, p = atP T.l a := ⟨_, rfl⟩
        rw [← hp] at HST hTQ
        unfold stV at HST
        obtain ⟨AA, hAA⟩ : ∃ AA, AA = a :: A0 := ⟨_, rfl⟩
        rw [← hAA] at hTQ
        have HAA := Lib.hid hAA
        have HTQ := Lib.hid hTQ
        have HTL := Lib.hid (tops_len hTB.ok hTQ)
        have HPP := Lib.hid hp
        rw [hq] at HRU
        unfold headOf at HRU
        clear hTB hTf HK hln hq h1 h2 h3 hSt hTQ hAA hp
        go_wp2_with fail
        with_reducible refine HRU.out.mono ?_
        rintro e w4 ⟨rfl, hw4⟩
        subst hw4
        go_wp2_with fail
        with_reducible refine HST.out.mono ?_
        rintro e w4 ⟨rfl, hB4⟩
        have HTB4 := Lib.hid (HTB.out.keep hB4)
        clear hB4 HTB HRU HST
        have hpb : Hid (Far (w4.alloc (.cells (Array.replicate 16 (.bool false)) 53)) g bi ba v w4.heap.size) := ⟨by simp, fun hb => by have := HTB4.out.tb.blk_lt hb; omega⟩
        have hra : RanAt (w4.alloc (.cells (Array.replicate 16 (.bool false)) 53)) w4.heap.size [] := ran_new w4
        have HTB5 := Lib.hid (HTB4.out.keep ((Below.refl _ _).alloc (Nat.le_refl _) (.cells (Array.replicate 16 (.bool false)) 53)))
        obtain ⟨w5, hw5⟩ : ∃ w5, w5 = w4.alloc (.cells (Array.replicate 16 (.bool false)) 53) := ⟨_, rfl⟩
        obtain ⟨pb, hpb2⟩ : ∃ pb, pb = w4.heap.size := ⟨_, rfl⟩
        rw [← hw5, ← hpb2] at hpb hra
        rw [← hw5] at HTB5
        have hw5' : w5 = w4.alloc (.cells #[.bool false, .bool false, .bool false, .bool false, .bool false, .bool false, .bool false, .bool false, .bool false, .bool false, .bool false, .bool false, .bool false, .bool false, .bool false, .bool false] 53) := hw5
        go_upto_region 13 with fail
        rw [← hw5', ← hpb2]
        have HFR := hpb
        have HPB : Hid (w.heap.size ≤ pb) := by rw [hpb2]; exact HTB4.out.sz
        have HRA := Lib.hid hra
        clear hw5 hw5' hpb2 hpb hra HTB4
        go_upto_block 2 with fail
        go_cut [14, 15] (fun nv _ wx => ∃ m : Nat, nv = .int .i64 m ∧ m = AA.length ∧ Hid (TB w.heap.size w wx g bi ba ci v T ∧ Far wx g bi ba v pb ∧ RanAt wx pb []))
        case first =>
          go_wp2_with fail
          go_loopw [14, 15] (fun nv xv wr => ∃ x : Nat, x ≤ n ∧ nv = .int .i64 ((tops T.l p.pr x).length : Nat) ∧ xv = .int .i64 x ∧ (tops T.l p.pr x).length ≤ x ∧ Hid (TB w.heap.size w wr g bi ba ci v T ∧ Far wr g bi ba v pb ∧ RanAt wr pb [])) (fun _ xv _ => n - (intOf xv).toNat)
          case atStart => exact ⟨0, Nat.zero_le _, rfl, rfl, Nat.le_refl _, HTB5.out, HFR.out, HRA.out⟩
          case round =>
            rename World => wx
            obtain ⟨x, hx, rfl, rfl, hxl, HI⟩ := hrel
            by_cases hxn : x < n
            · have hxl2 : x < T.l.length := by rw [HLN.out]; exact hxn
              have HST := Lib.hid (state_any (x : Int) wx HI.1.tb)
              rw [state_nat hxl2] at HST
              have hnx : tops T.l p.pr (x + 1) = if isTop T.l p.pr x = true then (x : Int) :: tops T.l p.pr x else tops T.l p.pr x := rfl
              have hit : isTop T.l p.pr x = ((T.l.getD x Pr.nil).run && decide ((T.l.getD x Pr.nil).pr = p.pr)) := rfl
              obtain ⟨q, hqq⟩ : ∃ q, q = T.l.getD x Pr.nil := ⟨_, rfl⟩
              rw [← hqq] at HST hit
              unfold stV at HST
              have HNX := Lib.hid hnx
              have HIT := Lib.hid hit
              obtain ⟨m, hm⟩ : ∃ m, m = (tops T.l p.pr x).length := ⟨_, rfl⟩
              rw [← hm] at hxl ⊢
              have HM := Lib.hid hm
              have j0 : (0 : Int) ≤ (x : Int) := Int.natCast_nonneg _
              have j1 : (x : Int) < (n : Int) := by omega
              clear hqq hxl2 hnx hit hm
              go_wp2_with fail
              with_reducible refine HST.out.mono ?_
              rintro e wy ⟨rfl, hBy⟩
              have HTY : Hid (TB w.heap.size w wy g bi ba ci v T ∧ Far wy g bi ba v pb ∧ RanAt wy pb []) := ⟨HI.1.keep hBy, HI.2.1.below hBy, HI.2.2.keep hBy⟩
              clear hBy HST HI
              by_cases hs : q.st = 1 ∧ q.held = false ∧ q.pr = p.pr
              · obtain ⟨hs1, hs2, hs3⟩ := hs
                have hlen : (tops T.l p.pr (x + 1)).length = m + 1 := by
                  rw [HNX.out, HIT.out, if_pos (by rw [hs3, run_iff.2 ⟨hs1, hs2⟩]; simp), List.length_cons, HM.out]
                have HLE := Lib.hid hlen
                clear hlen
                go_wp2_with fail
                go_roundw
                case rel => exact ⟨x + 1, by omega, by rw [HLE.out]; go_num, by go_num, by rw [HLE.out]; omega, HTY.out⟩
                case measure => simp [intOf]; omega
              · have hlen : (tops T.l p.pr (x + 1)).length = m := by
                  rw [HNX.out, HIT.out, if_neg (fun c => hs (by
                    simp only [Bool.and_eq_true, decide_eq_true_eq] at c
                    exact ⟨(run_iff.1 c.1).1, (run_iff.1 c.1).2, c.2⟩)), HM.out]
                have HLE := Lib.hid hlen
                clear hlen
                by_cases hs1 : q.st = 1
                · cases hs2 : q.held with
                  | false =>
                    have hs3 : ¬ q.pr = p.pr := fun c => hs ⟨hs1, hs2, c⟩
                    clear hs
                    go_wp2_with fail
                    go_roundw
                    case rel => exact ⟨x + 1, by omega, by rw [HLE.out], by go_num, by rw [HLE.out]; omega, HTY.out⟩
                    case measure => simp [intOf]; omega
                  | true =>
                    clear hs
                    go_wp2_with fail
                    go_roundw
                    case rel => exact ⟨x + 1, by omega, by rw [HLE.out], by go_num, by rw [HLE.out]; omega, HTY.out⟩
                    case measure => simp [intOf]; omega
                · clear hs
                  go_wp2_with fail
                  go_roundw
                  case rel => exact ⟨x + 1, by omega, by rw [HLE.out], by go_num, by rw [HLE.out]; omega, HTY.out⟩
                  case measure => simp [intOf]; omega
            · obtain rfl : x = n := by omega
              obtain ⟨m, hm⟩ : ∃ m, m = (tops T.l p.pr x).length := ⟨_, rfl⟩
              rw [← hm] at hxl ⊢
              have hmA : m = AA.length := by rw [hm, ← HTL.out, HLN.out]
              have HMA := Lib.hid hmA
              clear hm hmA
              go_wp2_with fail
              go_meet
              exact ⟨m, rfl, HMA.out, HI⟩
        case rest =>
          obtain ⟨m, rfl, hmA, HI⟩ := hcut
          rename World => w6
          have HTK : Hid (TurnK T AA B0 w.heap.size w w6 g bi ba ci pb 0) := ⟨v, by rw [turn_zero HTQ.out]; exact HI.1, HI.2.1, by rw [List.take_zero]; exact HI.2.2⟩
          have hAp : 0 < m := by rw [hmA, HAA.out, List.length_cons]; omega
          have hm16 : m ≤ 1000 := by
            have h1 := q_len HI.1.ok
            rw [HTQ.out.q, List.length_append] at h1
            omega
          have HMA := Lib.hid hmA
          clear HI hmA HTB5 HFR HRA
          go_upto_block 4 with fail
          go_cut [19] (fun _ wx => Hid (TurnK T AA B0 w.heap.size w wx g bi ba ci pb AA.length))
          case first =>
            go_wp2_with fail
            go_loopw [19] (fun jv wr => ∃ j : Nat, j ≤ m ∧ jv = .int .i64 j ∧ Hid (TurnK T AA B0 w.heap.size w wr g bi ba ci pb j)) (fun jv _ => m - (intOf jv).toNat)
            case atStart => exact ⟨0, Nat.zero_le _, rfl, HTK⟩
            case round =>
              rename World => wx
              obtain ⟨j, hj, rfl, HI⟩ := hrel
              by_cases hjm : j < m
              · obtain ⟨v1, k1, k2, k3⟩ := HI.out
                have hjA : j < AA.length := by rw [← HMA.out]; exact hjm
                obtain ⟨x, hx, hxl, hxn, hxt⟩ := turn_facts k1.ok hjA
                have HRU := Lib.hid (running_any wx k1.tb)
                rw [turn_head hjA, hx] at HRU
                unfold headOf at HRU
                dsimp only at HRU
                have hx16 : x < 16 := by rw [HLN.out] at hxl; omega
                have hcell := k3.cel x hx16
                rw [decide_eq_false hxn] at hcell
                have hfz := k3.fz x
                have HY := Lib.hid (yield_any (x : Int) wx k1.tb k1.ok)
                have HNX := Lib.hid (fun e w' hS => TurnK.next (e := e) (w' := w') HTQ.out hjA hx k1 k2 k3 hS)
                have HXT := Lib.hid hxt
                have i0 : (0 : Int) ≤ (x : Int) := Int.natCast_nonneg _
                have i1 : (x : Int) < 16 := by omega
                have i2 : ¬ (x : Int) < 0 := by omega
                have i3 : (0 : Int) ≤ (j : Int) := Int.natCast_nonneg _
                have i4 : (j : Int) < (m : Int) := by omega
                clear HI k1 k2 k3 hjA hx hxl hxn hxt hx16
                go_wp2_with fail
                with_reducible refine HRU.out.mono ?_
                rintro e wy ⟨rfl, hwy⟩
                subst hwy
                go_wp2_with fail
                with_reducible refine HY.out.mono ?_
                rintro e wz hS
                obtain ⟨rfl, v2, m1, m2, m3⟩ := HNX.out e wz hS
                have hc2 : ∃ bq, wz.cell? ⟨pb, x, none⟩ = some (.bool bq) := ⟨_, m3.cel x (by omega)⟩
                obtain ⟨bq, hc2⟩ := hc2
                have hf2 := m3.fz x
                have HMK := Lib.hid (TurnK.mark HXT.out HPB.out m1 m2 m3)
                clear hS m1 m2 m3 hcell hfz HY HNX HRU
                go_wp2_with fail
                go_roundw
                case rel => exact ⟨j + 1, by omega, by go_num, HMK⟩
                case measure => simp [intOf]; omega
              · obtain rfl : j = m := by omega
                rw [HMA.out] at HI
                have HI2 : Hid (TurnK T AA B0 w.heap.size w wx g bi ba ci pb AA.length) := HI
                clear HI
                go_wp2_with fail
                go_meet
                exact HI2
          case rest =>
            rename World => w7
            obtain ⟨v7, k1, _, _⟩ := hcut.out
            rw [turn_all HTQ.out] at k1
            have HBE := Lib.hid k1.bel
            have HRU := Lib.hid (running_any w7 k1.tb)
            rw [HTQ.out.q, HAA.out] at HRU
            unfold headOf at HRU
            dsimp only [List.cons_append] at HRU
            clear hcut k1
            go_wp2_with fail
            with_reducible refine HRU.out.mono ?_
            rintro e w8 ⟨rfl, hw8⟩
            subst hw8
            go_wp2_with fail
            go_ret
            exact ⟨by simp, HBE.out⟩
end Go.Proofs.Ytkbafiepnnldeaa
