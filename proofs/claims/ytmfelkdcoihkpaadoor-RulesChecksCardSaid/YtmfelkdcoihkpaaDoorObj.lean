/-
  object: may a partition's objects be?
-/
import Derived.Test.YtmfelkdcoihkpaaDoorPart
import Derived.Test.YtmfelkdcoihkpaaDoorBeside
namespace Go.Proofs.YtmfelkdcoihkpaaDoor
open Go.RowKit

theorem part_no1 {q : PartA} (h : 16 < q.1.length ∨ 16 < q.2.1 ∨ q.2.2.1.length < 1 ∨ 16 < q.2.2.1.length ∨ 2 < q.2.2.2.1 ∨ 2 < q.2.2.2.2.1 ∨ 2 < q.2.2.2.2.2) : partB q = false := by
  cases hb : partB q
  · rfl
  · exfalso
    unfold partB at hb
    simp at hb
    omega
theorem part_no2 {q : PartA} {j : Nat} (hj : j < q.1.length) (h : (q.1.getD j dS).2 = 0 ∨ (q.1.getD j dS).2 < (q.1.getD j dS).1) : partB q = false := by
  cases hb : partB q
  · rfl
  · exfalso
    unfold partB at hb
    simp only [Bool.and_eq_true, List.all_eq_true, decide_eq_true_eq] at hb
    have := hb.1.1.1.1.2 _ (getD_mem dS hj)
    omega
theorem part_no3 {q : PartA} {j : Nat} (hj : j < q.2.2.1.length) (h : 63 < q.2.2.1.getD j 0) : partB q = false := by
  cases hb : partB q
  · rfl
  · exfalso
    unfold partB at hb
    simp only [Bool.and_eq_true, List.all_eq_true, decide_eq_true_eq] at hb
    have := hb.1.2 _ (getD_mem 0 hj)
    omega
theorem part_yes {q : PartA} (h : ¬ (16 < q.1.length ∨ 16 < q.2.1 ∨ q.2.2.1.length < 1 ∨ 16 < q.2.2.1.length ∨ 2 < q.2.2.2.1 ∨ 2 < q.2.2.2.2.1 ∨ 2 < q.2.2.2.2.2))
    (h2 : ∀ j, j < q.1.length → ¬ ((q.1.getD j dS).2 = 0 ∨ (q.1.getD j dS).2 < (q.1.getD j dS).1)) (h3 : ∀ j, j < q.2.2.1.length → q.2.2.1.getD j 0 ≤ 63) : partB q = true := by
  unfold partB
  simp only [Bool.and_eq_true, List.all_eq_true, decide_eq_true_eq]
  refine ⟨⟨⟨⟨⟨by omega, fun s hs => ?_⟩, by omega⟩, by omega⟩, fun z hz => ?_⟩, by omega⟩
  · obtain ⟨j, hj, rfl⟩ := mem_at dS hs
    have := h2 j hj
    omega
  · obtain ⟨j, hj, rfl⟩ := mem_at 0 hz
    exact h3 j hj

set_option maxHeartbeats 4000000 in
set_option maxRecDepth 100000 in
theorem object_any (q : PartA) (S Q : Option Addr × Nat) (w : World) (hS : SemsAt w S.1 q.1) (hQ : BytesAt w Q.1 q.2.2.1) (hW : WfPart q) (h1 : q.1.length ≤ 140737488355328) (h2 : q.2.2.1.length ≤ 140737488355328) :
    Calls Tryd.prog 25 #[pv q S Q] w fun e w' => e = .returned (.bool (partB q)) ∧ Below w.heap.size w w' := by
  have N1 := Lib.hid (part_no1 (q := q))
  have N2 := Lib.hid (fun j => part_no2 (q := q) (j := j))
  have N3 := Lib.hid (fun j => part_no3 (q := q) (j := j))
  have N4 := Lib.hid (part_yes (q := q))
  obtain ⟨r, hr⟩ : ∃ r, r = partB q := ⟨_, rfl⟩
  rw [← hr] at N1 N2 N3 N4 ⊢
  clear hr
  obtain ⟨ss, ev, pp, a0, a1, a2⟩ := q
  obtain ⟨sA, sc⟩ := S
  obtain ⟨qA, qc⟩ := Q
  obtain ⟨f1, f2, f3, f4, f5, f6⟩ := hW
  unfold byte at f2 f4 f5 f6
  obtain ⟨f20, f21⟩ := f2
  obtain ⟨f40, f41⟩ := f4
  obtain ⟨f50, f51⟩ := f5
  obtain ⟨f60, f61⟩ := f6
  simp only [pv, slV] at *
  obtain ⟨n, hn⟩ : ∃ n, n = ss.length := ⟨_, rfl⟩
  obtain ⟨m, hm⟩ : ∃ m, m = pp.length := ⟨_, rfl⟩
  rw [← hn, ← hm] at N1 N4 ⊢
  rw [← hn] at h1 N2
  rw [← hm] at h2 N3
  have HB0 : Hid (Below w.heap.size w (w.alloc (.cells #[.slice sA n sc, .int .u8 ev, .slice qA m qc, .int .u8 a0, .int .u8 a1, .int .u8 a2] 54))) := (Below.refl _ _).alloc (Nat.le_refl _) _
  have HS := Lib.hid (Arr.keep hS HB0.out)
  have HQ := Lib.hid (Arr.keep hQ HB0.out)
  have HN := Lib.hid hn
  have HM := Lib.hid hm
  have F3 := Lib.hid f3
  obtain ⟨W0, hW0⟩ : ∃ W0, W0 = w.alloc (.cells #[.slice sA n sc, .int .u8 ev, .slice qA m qc, .int .u8 a0, .int .u8 a1, .int .u8 a2] 54) := ⟨_, rfl⟩
  have HQB := Lib.hid (QB.new w (sA, sc) n ev (qA, qc) m a0 a1 a2)
  rw [← hW0] at HS HQ HB0 HQB
  have HW0 := Lib.hid hW0
  clear hS hQ hn hm f1 f3 hW0
  by_cases k0 : 16 < n
  · as_aux_lemma =>
    have hf := N1.out (by omega)
    have HF := Lib.hid hf
    clear hf
    go_enter Tryd.func25, Tryd.ntmps25
    go_wp2_with fail
    go_ret
    exact ⟨ret_b HF.out.symm, by rw [← HW0.out]; exact HB0.out⟩
  · skip
    by_cases k1 : 16 < ev
    · as_aux_lemma =>
      have hf := N1.out (by omega)
      have HF := Lib.hid hf
      clear hf
      go_enter Tryd.func25, Tryd.ntmps25
      go_wp2_with fail
      go_ret
      exact ⟨ret_b HF.out.symm, by rw [← HW0.out]; exact HB0.out⟩
    · skip
      by_cases k2 : m < 1
      · as_aux_lemma =>
        have hf := N1.out (by omega)
        have HF := Lib.hid hf
        clear hf
        go_enter Tryd.func25, Tryd.ntmps25
        go_wp2_with fail
        go_ret
        exact ⟨ret_b HF.out.symm, by rw [← HW0.out]; exact HB0.out⟩
      · skip
        by_cases k3 : 16 < m
        · as_aux_lemma =>
          have hf := N1.out (by omega)
          have HF := Lib.hid hf
          clear hf
          have k21 : 1 ≤ m := by omega
          go_enter Tryd.func25, Tryd.ntmps25
          go_wp2_with fail
          go_ret
          exact ⟨ret_b HF.out.symm, by rw [← HW0.out]; exact HB0.out⟩
        · skip
          by_cases k4 : 2 < a0
          · as_aux_lemma =>
            have hf := N1.out (by omega)
            have HF := Lib.hid hf
            clear hf
            have k21 : 1 ≤ m := by omega
            go_enter Tryd.func25, Tryd.ntmps25
            go_wp2_with fail
            go_ret
            exact ⟨ret_b HF.out.symm, by rw [← HW0.out]; exact HB0.out⟩
          · skip
            by_cases k5 : 2 < a1
            · as_aux_lemma =>
              have hf := N1.out (by omega)
              have HF := Lib.hid hf
              clear hf
              have k21 : 1 ≤ m := by omega
              go_enter Tryd.func25, Tryd.ntmps25
              go_wp2_with fail
              go_ret
              exact ⟨ret_b HF.out.symm, by rw [← HW0.out]; exact HB0.out⟩
            · skip
              by_cases k6 : 2 < a2
              · as_aux_lemma =>
                have hf := N1.out (by omega)
                have HF := Lib.hid hf
                clear hf
                have k21 : 1 ≤ m := by omega
                go_enter Tryd.func25, Tryd.ntmps25
                go_wp2_with fail
                go_ret
                exact ⟨ret_b HF.out.symm, by rw [← HW0.out]; exact HB0.out⟩
              · skip
                go_enter Tryd.func25, Tryd.ntmps25
                go_wp2_with fail
                rw [← HW0.out]
                go_loopw [3] (fun i wr => ∃ k : Nat, k ≤ n ∧ i = .int .i64 k ∧ (∀ j, j < k → ¬ ((ss.getD j dS).2 = 0 ∨ (ss.getD j dS).2 < (ss.getD j dS).1)) ∧ Below W0.heap.size W0 wr) (fun i _ => n - (intOf i).toNat)
                case atStart => exact ⟨0, Nat.zero_le _, rfl, fun j hj => by omega, Below.refl _ _⟩
                case round =>
                  obtain ⟨k, hk, rfl, hj, hB⟩ := hrel
                  have HJ := Lib.hid hj
                  have HBk := Lib.hid hB
                  obtain ⟨p0, p1, p2, p3, p4, p5⟩ := HQB.out.keep hB
                  dsimp only at p0 p1 p2 p3 p4 p5
                  clear hj hB
                  by_cases hlt : k < n
                  · have hlw : k < ss.length := by rw [← HN.out]; exact hlt
                    obtain ⟨b, o, rfl⟩ := Arr.head HS.out hlw
                    have c0 := kept (Arr.at (j := 0) HS.out hlw rfl) HBk.out
                    have c1 := kept (Arr.at (j := 1) HS.out hlw rfl) HBk.out
                    obtain ⟨⟨x0, x1⟩, hx⟩ : ∃ x, x = ss.getD k dS := ⟨_, rfl⟩
                    simp only [← hx, Nat.add_zero] at c0 c1
                    have HX := Lib.hid hx
                    have i0 : (0 : Int) ≤ (k : Int) := Int.natCast_nonneg _
                    have i1 : (k : Int) < (n : Int) := by omega
                    clear hx hlw
                    by_cases hz : x1 = 0
                    · have hf := N2.out k hlt (by rw [← HX.out]; exact .inl hz)
                      subst hz
                      have HF := Lib.hid hf
                      clear hf
                      go_wp2_with fail
                      go_quiet (fail)
                      go_wp2_with fail
                      go_ret
                      exact ⟨ret_b HF.out.symm, below_drewN (below_two HB0.out HBk.out) _⟩
                    · have hzz : (x1 == 0) = false := by simpa using hz
                      by_cases hg : x1 < x0
                      · have hf := N2.out k hlt (by rw [← HX.out]; exact .inr hg)
                        have HF := Lib.hid hf
                        clear hf
                        go_wp2_with fail
                        go_quiet (fail)
                        go_wp2_with fail
                        go_ret
                        exact ⟨ret_b HF.out.symm, below_drewN (below_two HB0.out HBk.out) _⟩
                      · have hle : x0 ≤ x1 := by omega
                        have HZ := Lib.hid hz
                        have HG := Lib.hid hg
                        clear hz hg
                        go_wp2_with fail
                        go_quiet (fail)
                        go_wp2_with fail
                        go_roundw
                        case rel => exact ⟨k + 1, hlt, by go_num, fun j hj => (by
                          rcases Nat.lt_or_ge j k with h | h
                          · exact HJ.out j h
                          · obtain rfl : j = k := by omega
                            rw [← HX.out]; exact fun h => h.elim HZ.out (fun g => by have g1 : x1 < x0 := g; have := HG.out; omega)), below_drewN HBk.out _⟩
                        case measure => simp [intOf]; omega
                  · obtain rfl : k = n := by omega
                    go_wp2_with fail
                    go_loop [4] (fun i => ∃ k : Nat, k ≤ m ∧ i = .int .i64 k ∧ ∀ j, j < k → pp.getD j 0 ≤ 63) (fun i => m - (intOf i).toNat)
                    case atStart => exact ⟨0, Nat.zero_le _, rfl, fun j hj => by omega⟩
                    case round =>
                      obtain ⟨l, hl, rfl, hj⟩ := hrel
                      have HL := Lib.hid hj
                      clear hj
                      by_cases hlt2 : l < m
                      · have hlw : l < pp.length := by rw [← HM.out]; exact hlt2
                        obtain ⟨b, o, rfl⟩ := Arr.head HQ.out hlw
                        have c0 := kept (Arr.at (j := 0) HQ.out hlw rfl) HBk.out
                        have hy := F3.out _ (getD_mem 0 hlw)
                        obtain ⟨x, hx⟩ : ∃ x, x = pp.getD l 0 := ⟨_, rfl⟩
                        rw [← hx] at hy
                        obtain ⟨y0, y1⟩ := hy
                        simp only [← hx, Nat.add_zero, Nat.mul_one, bV] at c0
                        have HX := Lib.hid hx
                        clear hx hlw
                        by_cases hg : 63 < x
                        · have hf := N3.out l hlt2 (by rw [← HX.out]; exact hg)
                          have HF := Lib.hid hf
                          clear hf
                          go_wp2_with fail
                          go_ret
                          exact ⟨ret_b HF.out.symm, below_two HB0.out HBk.out⟩
                        · have hle : x ≤ 63 := by omega
                          go_wp2_with fail
                          go_round
                          case rel => exact ⟨l + 1, hlt2, by go_num, fun j hj => (by
                            rcases Nat.lt_or_ge j l with h | h
                            · exact HL.out j h
                            · obtain rfl : j = l := by omega
                              rw [← HX.out]; exact hle)⟩
                          case measure => simp [intOf]; omega
                      · obtain rfl : l = m := by omega
                        have hf := N4.out (by omega) HJ.out HL.out
                        have HF := Lib.hid hf
                        clear hf
                        go_wp2_with fail
                        go_ret
                        exact ⟨ret_b HF.out.symm, below_two HB0.out HBk.out⟩
end Go.Proofs.YtmfelkdcoihkpaaDoor
