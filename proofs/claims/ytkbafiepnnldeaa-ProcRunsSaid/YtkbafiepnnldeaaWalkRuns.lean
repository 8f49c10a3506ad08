/-
  The law of who runs.
-/
import Derived.Test.YtkbafiepnnldeaaLaw
namespace Go.Proofs.Ytkbafiepnnldeaa
open Go.RowKit

set_option maxHeartbeats 4000000 in
set_option maxRecDepth 100000 in
theorem walk_runs (A : Option Addr) (c : Nat) (l : List Int) (A1 : Option Addr) (c1 : Nat) (cs : List CallA) (w : World) (hpl : ∀ y ∈ l, 0 ≤ y ∧ y ≤ 255) (hpa : BytesAt w A l) (hln : l.length ≤ 140737488355328) (hA : CallsAt w A1 cs) (_ : cs.length ≤ 140737488355328) :
    Calls Try.prog 4 #[.slice A l.length c, .slice A1 cs.length c1] w fun e w' => e = .returned (.bool true) ∧ Below w.heap.size w w' := by
  have hu := u_of_bytes hpa hpl
  obtain ⟨first, hfirst⟩ : ∃ first, first = natsOf l := ⟨_, rfl⟩
  obtain ⟨n, hn⟩ : ∃ n, n = l.length := ⟨_, rfl⟩
  have hfn : first.length = n := by rw [hfirst, natsOf_len, hn]
  rw [← hfirst] at hu
  have hnew := Lib.hid (new_any A c first w hu (by omega))
  rw [hfn] at hnew
  have haw := Lib.hid (fun W => awake_any W)
  have HCS := Lib.hid hA
  have HFN := Lib.hid hfn
  have hnb : n ≤ 140737488355328 := by omega
  rw [← hn]
  clear hA hpl hpa hln hu hfirst hn hfn
  go_enter Try.func4, Try.ntmps4
  go_wp2_with fail
  with_reducible refine hnew.out.mono ?_
  rintro e w1 hP
  rcases hP with ⟨hE, rfl, hB⟩ | ⟨hE, g, bi, ba, ci, v0, rfl, hT, hblk, hB⟩
  · have HB := Lib.hid hB
    obtain ⟨E, hEE⟩ : ∃ E, E = newE first := ⟨_, rfl⟩
    rw [← hEE] at hE ⊢
    clear hnew hB hEE
    go_wp2_with fail
    with_reducible refine (haw.out _).mono ?_
    rintro e w2 ⟨rfl, hB2⟩
    have HB2 := Lib.hid (HB.out.trans (hB2.mono HB.out.size))
    clear hB2
    go_wp2_with fail
    with_reducible refine (haw.out _).mono ?_
    rintro e w3 ⟨rfl, hB3⟩
    have HB3 := Lib.hid (HB2.out.trans (hB3.mono HB2.out.size))
    clear hB3
    go_wp2_with fail
    go_ret
    exact ⟨rfl, HB3.out⟩
  · have HT0 : Hid (TB w.heap.size w w1 g bi ba ci v0 (Tb.new first)) := ⟨hT, new_ok hE, hblk, hB, hB.size⟩
    clear hnew hE hT hblk hB
    go_wp2_with fail
    with_reducible refine (haw.out _).mono ?_
    rintro e w2 ⟨rfl, hB2⟩
    have HK0 : Hid (TbK first w.heap.size w w2 g bi ba ci) := ⟨v0, _, HT0.out.keep hB2, rfl⟩
    clear HT0 hB2 haw
    go_wp2_with fail
    go_loopw [7] (fun kv wr => ∃ k : Nat, kv = .int .i64 k ∧ k ≤ 60 ∧ Hid (TbK first w.heap.size w wr g bi ba ci)) (fun kv _ => 61 - (intOf kv).toNat)
    case atStart => exact ⟨0, rfl, Nat.zero_le _, HK0⟩
    case round =>
      obtain ⟨k, rfl, hk60, HK⟩ := hrel
      clear HK0
      by_cases hlt : k < cs.length ∧ k < 60
      · obtain ⟨hl1, hl2⟩ := hlt
        obtain ⟨bb, oo, y0, y1, y2, rfl, hcc⟩ := call_cells HCS.out hl1
        obtain ⟨v, T, hTB, hTf⟩ := HK.out
        obtain ⟨d0, d1, d2⟩ := hcc wr hTB.bel
        have HTB := Lib.hid hTB
        have HTF := Lib.hid hTf
        have i0 : (0 : Int) ≤ (k : Int) := Int.natCast_nonneg _
        have i1 : (k : Int) < (cs.length : Int) := by omega
        have i2 : (k : Int) < 60 := by omega
        have HCA := Lib.hid (fun W => call_any y0 y1 y2 W)
        unfold cV at HCA
        clear hcc HK hTB hTf
        go_wp2_with fail
        with_reducible refine (HCA.out _).mono ?_
        rintro e wa ⟨rfl, hBa⟩
        have HTA := Lib.hid (HTB.out.keep hBa)
        have HDO := Lib.hid (do_any (nk y0) y1 y2 wa HTA.out.tb HTA.out.ok (nk_range y0).1 (nk_range y0).2)
        unfold cV at HDO
        clear hBa HTB HCA d0 d1 d2
        go_wp2_with fail
        with_reducible refine HDO.out.mono ?_
        rintro e wb hP
        obtain ⟨rfl, v', hTB', hTF'⟩ := TbK.step HTA.out HTF.out hP
        obtain ⟨T', hT'⟩ : ∃ T', T' = T.step (nk y0) y1 y2 := ⟨_, rfl⟩
        rw [← hT'] at hTB' hTF'
        have HTB := Lib.hid hTB'
        have HTF := Lib.hid hTF'
        have HRU := Lib.hid (running_any wb hTB'.tb)
        obtain ⟨E, hE⟩ : ∃ E, E = T.stepE (nk y0) y1 y2 := ⟨_, rfl⟩
        rw [← hE]
        obtain ⟨⟨hd, okb⟩, hhd⟩ : ∃ z, z = headOf T'.q := ⟨_, rfl⟩
        rw [← hhd] at HRU
        have HHD := Lib.hid hhd
        clear hP hTB' hTF' hT' hE HTA HDO hhd
        go_wp2_with fail
        with_reducible refine HRU.out.mono ?_
        rintro e wc ⟨rfl, hwc⟩
        subst hwc
        clear HRU
        go_wp2_with fail
        go_loopw [10, 11] (fun mv xv wr => ∃ (x : Nat) (m : Int), x ≤ n ∧ mv = .int .i64 m ∧ xv = .int .i64 x ∧ Hid (TB w.heap.size w wr g bi ba ci v' T' ∧ MostK T' x m)) (fun _ xv _ => n - (intOf xv).toNat)
        case atStart => exact ⟨0, -1, Nat.zero_le _, rfl, rfl, HTB.out, MostK.zero T'⟩
        case round =>
          rename World => wx
          obtain ⟨x, m, hx, rfl, rfl, HI⟩ := hrel
          by_cases hxn : x < n
          · have hxl : x < T'.l.length := by rw [HTB.out.len HTF.out, HFN.out]; exact hxn
            have HST := Lib.hid (state_any (x : Int) wx HI.1.tb)
            rw [state_nat hxl] at HST
            obtain ⟨p, hp⟩ : ∃ p, p = T'.l.getD x Pr.nil := ⟨_, rfl⟩
            rw [← hp] at HST
            unfold stV at HST
            have HPP := Lib.hid hp
            have j0 : (0 : Int) ≤ (x : Int) := Int.natCast_nonneg _
            have j1 : (x : Int) < (n : Int) := by omega
            clear hp hxl
            go_wp2_with fail
            with_reducible refine HST.out.mono ?_
            rintro e wy ⟨rfl, hBy⟩
            have HTY := Lib.hid (HI.1.keep hBy)
            have HMI := Lib.hid HI.2
            clear hBy HST HI
            by_cases hs : p.st = 1
            · cases hh : p.held with
              | false =>
                have hr : p.run = true := run_iff.2 ⟨hs, hh⟩
                by_cases hm : m < p.pr
                · have HM2 := Lib.hid (HMI.out.take (by rw [← HPP.out]; exact hr) (by rw [← HPP.out]; exact hm))
                  rw [← HPP.out] at HM2
                  clear hr
                  go_wp2_with fail
                  go_roundw
                  case rel => exact ⟨x + 1, p.pr, by omega, rfl, by go_num, HTY.out, HM2.out⟩
                  case measure => simp [intOf]; omega
                · have HM2 := Lib.hid (HMI.out.skip (by rw [← HPP.out]; exact fun c => hm c.2))
                  clear hr
                  go_wp2_with fail
                  go_roundw
                  case rel => exact ⟨x + 1, m, by omega, rfl, by go_num, HTY.out, HM2.out⟩
                  case measure => simp [intOf]; omega
              | true =>
                have HM2 := Lib.hid (HMI.out.skip (by rw [← HPP.out]; intro c; have := (run_iff.1 c.1).2; rw [hh] at this; cases this))
                go_wp2_with fail
                go_roundw
                case rel => exact ⟨x + 1, m, by omega, rfl, by go_num, HTY.out, HM2.out⟩
                case measure => simp [intOf]; omega
            · have HM2 := Lib.hid (HMI.out.skip (by rw [← HPP.out]; exact fun c => hs (run_iff.1 c.1).1))
              go_wp2_with fail
              go_roundw
              case rel => exact ⟨x + 1, m, by omega, rfl, by go_num, HTY.out, HM2.out⟩
              case measure => simp [intOf]; omega
          · obtain rfl : x = n := by omega
            have hfin := runs_fin HI.1.ok (m := m) (by rw [HI.1.len HTF.out, HFN.out]; exact HI.2)
            rw [← HHD.out] at hfin
            have HST := Lib.hid (state_any hd wx HI.1.tb)
            have HTX := Lib.hid HI.1
            rcases hfin with ⟨e1, e2⟩ | ⟨a, e1, e2, e3⟩
            · injection e1 with e1 e4
              subst e1 e4 e2
              obtain ⟨p, hp⟩ : ∃ p, p = stateOf T' 0 := ⟨_, rfl⟩
              rw [← hp] at HST
              unfold stV at HST
              clear HI hp
              go_wp2_with fail
              with_reducible refine HST.out.mono ?_
              rintro e wy ⟨rfl, hBy⟩
              have HK1 : Hid (TbK first w.heap.size w wy g bi ba ci) := ⟨v', T', HTX.out.keep hBy, HTF.out⟩
              clear hBy HST
              go_wp2_with fail
              go_roundw
              case rel => exact ⟨k + 1, by go_num, by omega, HK1⟩
              case measure => simp [intOf]; omega
            · injection e1 with e1 e4
              subst e1 e4
              rw [e3] at HST
              unfold stV at HST
              clear HI e3
              go_wp2_with fail
              with_reducible refine HST.out.mono ?_
              rintro e wy ⟨rfl, hBy⟩
              have HK1 : Hid (TbK first w.heap.size w wy g bi ba ci) := ⟨v', T', HTX.out.keep hBy, HTF.out⟩
              clear hBy HST
              go_wp2_with fail
              go_roundw
              case rel => exact ⟨k + 1, by go_num, by omega, HK1⟩
              case measure => simp [intOf]; omega
      · have HBE : Hid (Below w.heap.size w wr) := by obtain ⟨_, _, h, _⟩ := HK.out; exact h.bel
        have hx : ¬ (k : Int) < (cs.length : Int) ∨ ¬ (k : Int) < 60 := by omega
        clear HK
        rcases hx with hx | hx
        · go_wp2_with fail
          go_ret
          exact ⟨rfl, HBE.out⟩
        · by_cases hx2 : (k : Int) < (cs.length : Int)
          · go_wp2_with fail
            go_ret
            exact ⟨rfl, HBE.out⟩
          · go_wp2_with fail
            go_ret
            exact ⟨rfl, HBE.out⟩
end Go.Proofs.Ytkbafiepnnldeaa
