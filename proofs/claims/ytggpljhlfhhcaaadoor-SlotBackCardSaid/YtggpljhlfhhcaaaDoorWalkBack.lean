/-
  SlotBack answers true.
-/
import Derived.Test.YtggpljhlfhhcaaaDoorMp
namespace Go.Proofs.YtggpljhlfhhcaaaDoor
open Go.RowKit

set_option maxHeartbeats 1000000 in
set_option maxRecDepth 100000 in
theorem walk_back (x : Int) (m : ByteArray) (t : Int) (w : World) (hG : GOk w) (hx : 0 ≤ x ∧ x < 256) (ht : 0 ≤ t ∧ t < 4294967296) :
    Calls Tryd.prog 6 #[.int .u8 x, .string m, .int .u32 t] w fun e w' => e = .returned (.bool true) ∧ Below w.heap.size w w' := by
  have h6 := six_of hG
  have HG := Lib.hid hG
  have HA := Lib.hid (fun W (hB : Below w.heap.size w W) => awake_any W (HG.out.keep hB))
  have HN := Lib.hid (new_one 20 (by omega) (by omega) 20 rfl w)
  obtain ⟨n, hn⟩ : ∃ n : Nat, (n : Int) = 1 + x % 32 := ⟨(1 + x % 32).toNat, by omega⟩
  have e0 : x.tmod 32 = x % 32 := Int.tmod_eq_emod_of_nonneg hx.1
  have e00 : IntKind.i64.wrap x = x := IntWalk.i64_in _ (by omega)
  have e1 : IntKind.i64.wrap (x % 32) = x % 32 := IntWalk.i64_in _ (by omega)
  have e2 : IntKind.i64.wrap (1 + x % 32) = n := by rw [IntWalk.i64_in _ (by omega)]; omega
  have HH := Lib.hid (show (1 ≤ n ∧ n ≤ 32) ∧ 0 ≤ t ∧ t < 4294967296 from ⟨by omega, ht⟩)
  generalize x % 32 = y at *
  clear hG hn hx ht
  by_cases hm : 100 < (m.size : Int)
  · go_enter Tryd.func6, Tryd.ntmps6
    go_wp2_with fail
    with_reducible refine (HA.out w (Below.refl _ _)).mono ?_
    rintro e w1 ⟨rfl, hB⟩
    go_wp2_with fail
    go_ret
    exact ⟨rfl, hB⟩
  · go_enter Tryd.func6, Tryd.ntmps6
    go_wp2_with fail
    with_reducible refine HN.out.mono ?_
    rintro e w1 ⟨g, b, rfl, hM1, hg1, hb1, hB1⟩
    have HM1 := Lib.hid hM1
    have HI := Lib.hid (And.intro hg1 hb1)
    have HB1 := Lib.hid hB1
    clear hM1 hg1 hb1 hB1 HN
    go_wp2_with fail
    by_cases hbad : m.size = 0 ∨ (n : Int) < m.size
    · with_reducible refine (newput_no 7 n m t w1 (.inr hbad)).mono ?_
      rintro e x ⟨rfl, rfl⟩
      go_wp2_with fail
      with_reducible refine (HA.out w1 HB1.out).mono ?_
      rintro e w2 ⟨rfl, hB2⟩
      have HB2 := Lib.hid (HB1.out.trans (hB2.mono HB1.out.size))
      clear hB2
      rcases hbad with h | h
      · have hm0 : m = ⟨#[]⟩ := by
          apply ByteArray.ext
          exact Array.eq_empty_of_size_eq_zero h
        subst hm0
        go_wp2_with fail
        go_ret
        exact ⟨rfl, HB2.out⟩
      · go_wp2_with fail
        all_goals
          go_ret
          exact ⟨rfl, HB2.out⟩
    · have hm1 : 1 ≤ m.size := by omega
      have hm2 : m.size ≤ n := by omega
      have hnl : ¬ m.toList = [] := by
        rw [ByteArray.toList_eq]
        intro e
        have : m.data.toList.length = 0 := by rw [e]; rfl
        rw [Array.length_toList] at this
        have : m.size = 0 := this
        omega
      have hnb : (m.toList == []) = false := by simpa using hnl
      have hN8 := need8 HH.out.1.2
      have HHH := Lib.hid (show m.size ≤ n ∧ need n ≤ 8 from ⟨hm2, hN8⟩)
      with_reducible refine (newput_yes 7 n n m t w1 rfl HH.out.1.1 HH.out.1.2 hm1 hm2 HH.out.2 (by omega)).mono ?_
      rintro e w2 ⟨hB2, P, B, G, cap, rfl, hG1, hG2, hP1, hP2, hW, hP⟩
      have HB2 := Lib.hid (HB1.out.trans (hB2.mono HB1.out.size))
      have HL : Hid (Mp w.heap.size w2 g b 20 P B cap (some ⟨G, 0, none⟩) 7 n m t 0 0 (putS 7 n m t) (fun _ => 0)) := Lib.hid (mp_of (HM1.out.keep hB2) hW hP ⟨G, rfl, by have := HM1.out.ltg; omega, by have := HM1.out.row.lt; omega, hG2⟩ (HG.out.keep HB2.out) (by have := HHH.out; have := HH.out.1; omega) HH.out.2 h6 (by have := HI.out; omega) (by omega) (by have := HHH.out; omega))
      clear hB2 hG1 hG2 hP1 hP2 hW hP HM1 hN8
      have b2 : ¬ ((n : Int) < m.size) := by omega
      clear hbad hm1 hm2
      go_wp2_with fail
      with_reducible refine (HA.out w2 HB2.out).mono ?_
      rintro e w2b ⟨rfl, hBb⟩
      have HB2b := Lib.hid (HB2.out.trans (hBb.mono HB2.out.size))
      have HLb : Hid (Mp w.heap.size w2b g b 20 P B cap (some ⟨G, 0, none⟩) 7 n m t 0 0 (putS 7 n m t) (fun _ => 0)) := Lib.hid (HL.out.keepB hBb)
      clear hBb
      go_wp2_with fail
      with_reducible refine (swords_yes n n rfl w2b HH.out.1.1 HH.out.1.2).mono ?_
      rintro e x1 ⟨rfl, rfl⟩
      obtain ⟨N, hN⟩ : ∃ N, N = need n := ⟨_, rfl⟩
      have HN := Lib.hid hN
      rw [← hN]
      have e3 : IntKind.i64.wrap (3 + (N : Int) + 1) = (N : Int) + 4 := by rw [IntWalk.i64_in _ (by have := HHH.out.2; omega)]; omega
      clear hN
      go_wp2_with fail
      go_loopw [14] (fun i wr => ∃ (k : Nat) (s : Wr) (f : Nat → Int), k ≤ N + 4 ∧ i = .int .i64 ((k : Int) + 1) ∧ (Mp w.heap.size wr g b 20 P B cap (some ⟨G, 0, none⟩) 7 n m t k k s f) ∧ Below w.heap.size w wr) (fun i _ => N + 5 - (intOf i).toNat)
      case atStart => exact ⟨0, _, _, by omega, rfl, HLb.out, HB2b.out⟩
      case round =>
        obtain ⟨k, s, f, hk, rfl, hL, hB⟩ := hrel
        have HLk := Lib.hid hL
        have HBk := Lib.hid hB
        have pc := hL.pt.pt.c0
        clear hL hB
        have hk12 : k ≤ 12 := by have := HHH.out.2; have := HN.out; omega
        have e5 : IntKind.i64.wrap ((k : Int) + 1 + 1) = (k : Int) + 1 + 1 := IntWalk.i64_in _ (by omega)
        by_cases hlt : (k : Int) + 1 ≤ N + 4
        · obtain ⟨d, hd⟩ : ∃ d, d = decide (k + 1 = 2 + need n + 2) := ⟨_, rfl⟩
          have HS := Lib.hid (mp_write HLk.out (by have := HHH.out; have := HN.out; omega) (by have := HHH.out; omega) (by have := HN.out; omega) d hd.symm)
          have hdd : ((k : Int) + 1 == (N : Int) + 4) = d := by
            rw [hd, HN.out]
            by_cases e : k + 1 = 2 + need n + 2
            · rw [decide_eq_true e]
              simp
              omega
            · rw [decide_eq_false e]
              simp
              omega
          clear hd
          go_wp2_with fail
          with_reducible refine HS.out.mono ?_
          rintro e w4 ⟨rfl, hL4, hB4⟩
          have HL4 := Lib.hid hL4
          have HB4 := Lib.hid (HBk.out.trans hB4)
          clear hL4 hB4 pc
          go_wp2_with fail
          go_roundw
          case rel => exact ⟨k + 1, _, _, by omega, by simp, HL4.out, HB4.out⟩
          case measure => simp [intOf]; omega
        · obtain rfl : k = N + 4 := by omega
          have HD : Hid (Mp w.heap.size wr g b 20 P B cap (some ⟨G, 0, none⟩) 7 n m t (2 + need n + 2) (2 + need n + 2) s f) := Lib.hid (by have h := HLk.out; rw [HN.out, show need n + 4 = 2 + need n + 2 by omega] at h; exact h)
          have HG1 := Lib.hid (get1_0 (at' := 7) (sz := n) (M := 20) (m := m) (tick := t) (s := s) (f := f) (by have := HHH.out; omega) HD.out.p1.done.1)
          obtain ⟨w3, hw3⟩ : ∃ w3, w3 = wr := ⟨_, rfl⟩
          rw [← hw3] at HD HBk ⊢
          clear HLk hlt pc hw3 e5 hk12
          go_wp2_with fail
          with_reducible refine (newget_yes 7 n n w3 rfl HH.out.1.1 HH.out.1.2 (by omega)).mono ?_
          rintro e w4 ⟨rfl, hR4, hK4, hB4, hz4⟩
          have HB4 := Lib.hid (HBk.out.trans (hB4.mono HBk.out.size))
          have HP4 : Hid (Pl w.heap.size w4 g b 20 (w3.heap.size + 1) w3.heap.size n P B cap (some ⟨G, 0, none⟩) 7 m t (2 + need n + 2) (2 + need n + 2) s f (rd0 ((7 : Nat) : Int) (2 + need n))) := Lib.hid (HD.out.get hB4 hR4 hK4 (fun _ => by show (0 : Int) ≤ 0 ∧ (0 : Int) < 4294967296; omega) ⟨Nat.le_refl _, by omega⟩)
          clear hR4 hK4 hB4 hz4
          go_wp2_with fail
          go_loopw [17] (fun i wr => ∃ (k : Nat) (r : Rd), k ≤ N + 4 ∧ i = .int .i64 ((k : Int) + 1) ∧ (Pl w.heap.size wr g b 20 (w3.heap.size + 1) w3.heap.size n P B cap (some ⟨G, 0, none⟩) 7 m t (2 + need n + 2 + k) (2 + need n + 2) s f r) ∧ Get1 7 n m t s f k r ∧ r.tr ≤ k ∧ Below w.heap.size w wr) (fun i _ => N + 5 - (intOf i).toNat)
          case atStart => exact ⟨0, _, by omega, rfl, HP4.out, HG1.out, Nat.le_refl _, HB4.out⟩
          case round =>
            obtain ⟨k, r, hk, rfl, hL, hg, htr, hB⟩ := hrel
            have HLk := Lib.hid hL
            have HGk := Lib.hid hg
            have HTk := Lib.hid htr
            have HBk := Lib.hid hB
            have gc := hL.sm.gt.c0
            clear hL hB hg htr
            have hk12 : k ≤ 12 := by have := HHH.out.2; have := HN.out; omega
            have e5 : IntKind.i64.wrap ((k : Int) + 1 + 1) = (k : Int) + 1 + 1 := IntWalk.i64_in _ (by omega)
            by_cases hlt : (k : Int) + 1 ≤ N + 4
            · obtain ⟨d, hd⟩ : ∃ d, d = decide (k + 1 = 2 + need n + 2) := ⟨_, rfl⟩
              have HS := Lib.hid (pl_read HLk.out HGk.out (by have := HHH.out; omega) (by have := HTk.out; omega) (by have := HHH.out; omega) (by have := HN.out; omega) d hd.symm)
              have hdd : ((k : Int) + 1 == (N : Int) + 4) = d := by
                rw [hd, HN.out]
                by_cases e : k + 1 = 2 + need n + 2
                · rw [decide_eq_true e]
                  simp
                  omega
                · rw [decide_eq_false e]
                  simp
                  omega
              clear hd
              go_wp2_with fail
              with_reducible refine HS.out.mono ?_
              rintro e w5 ⟨rfl, hL5, hG5, hB5, _⟩
              have HL5 := Lib.hid hL5
              have HG5 := Lib.hid hG5
              have HB5 := Lib.hid (HBk.out.trans hB5)
              have HT5 := Lib.hid (Nat.le_trans (rd_tr 20 f r) (Nat.succ_le_succ HTk.out))
              clear hL5 hG5 hB5 gc
              go_wp2_with fail
              go_roundw
              case rel => exact ⟨k + 1, _, by omega, by simp, HL5.out, HG5.out, HT5.out, HB5.out⟩
              case measure => simp [intOf]; omega
            · obtain rfl : k = N + 4 := by omega
              have HMS := Lib.hid (pl_message HLk.out (by have h := HGk.out; rw [HN.out, show need n + 4 = 2 + need n + 2 by omega] at h; exact h) HH.out.1.1 HH.out.1.2 HHH.out.1)
              clear gc
              go_wp2_with fail
              with_reducible refine HMS.out.mono ?_
              rintro e w7 ⟨rfl, hB7⟩
              have HB7 := Lib.hid (HBk.out.trans (hB7.mono HBk.out.size))
              clear hB7
              go_wp2_with fail
              go_ret
              exact ⟨rfl, HB7.out⟩
end Go.Proofs.YtggpljhlfhhcaaaDoor
