/-
  Rounds.
-/
import Derived.Test.YtcjhbmkpfclmfaaDoorRuns
namespace Go.Proofs.YtcjhbmkpfclmfaaDoor
open Go.RowKit

theorem Sy.count_done {m N : Nat} {s : Sy} (h : leftN s.l N = 0) : ∀ k, s.count m N k = 0
  | 0 => rfl
  | k + 1 => by simp only [Sy.count, h, if_true]
theorem Sy.count_add (m N : Nat) : ∀ (s : Sy) (j k : Nat), s.count m N (j + k) = s.count m N j + (s.rounds m N j).count m N k
  | s, 0, k => by simp [Sy.rounds, Sy.count]
  | s, j + 1, k => by
    rw [show j + 1 + k = (j + k) + 1 by omega]
    simp only [Sy.rounds, Sy.count]
    split
    · rename_i h; rw [Sy.count_done h]
    · rw [Sy.count_add m N _ j k]; omega
theorem Sy.rounds_one {m N : Nat} {s : Sy} (h : leftN s.l N ≠ 0) : s.rounds m N 1 = s.round m N := by
  show (if leftN s.l N = 0 then s else (s.round m N).rounds m N 0) = _
  rw [if_neg h]; rfl
theorem Sy.count_one {m N : Nat} {s : Sy} (h : leftN s.l N ≠ 0) : s.count m N 1 = 1 := by
  show (if leftN s.l N = 0 then 0 else (s.round m N).count m N 0 + 1) = _
  rw [if_neg h]; rfl

def AllRel (m : Mc) (s : Sy) (c : Int) (w : World) (i : Value) (wr : World) : Prop :=
  ∃ k : Nat, k ≤ m.N ∧ i = .int .i64 k ∧ StepS m (s.upTo m.n k) c k w wr
theorem allRel_next {m : Mc} {s : Sy} {c c1 : Int} {k : Nat} {w wr w1 : World} (hk : k < m.N) (h1 : c ≤ c1 ∧ c1 ≤ c + k) (hC : Chg m.own w wr)
    (hS : StepS m ((s.upTo m.n k).pick m.n k) c1 1 wr w1) : AllRel m s c w (.int .i64 ((k : Int) + 1)) w1 := by
  have := StepS.trans h1.1 h1.2 hC hS
  exact ⟨k + 1, by omega, by go_num, by exact_mod_cast this⟩
set_option maxHeartbeats 4000000 in
set_option maxRecDepth 100000 in
theorem all_any (m : Mc) (s : Sy) (c : Int) (w : World) (h : Sys w m s c) (hc : 0 ≤ c) (hc2 : c ≤ 990000) :
    Calls Tryd.prog 29 #[.pointer (some ⟨m.X, 0, none⟩)] w fun e w' => e = .returned (.tuple #[]) ∧ StepS m (s.round m.n m.N) c m.N w w' := by
  have HS := Lib.hid h
  have hN := h.ok.N1
  have k1 := h.mach.x1
  clear h
  go_enter Tryd.func29, Tryd.ntmps29
  go_wp2_with fail
  go_loopw [8] (fun i wr => AllRel m s c w i wr) (fun i _ => m.N - (intOf i).toNat)
  case atStart => exact ⟨0, Nat.zero_le _, rfl, StepS.refl HS.out (by omega)⟩
  case round =>
    obtain ⟨k, hk, rfl, hSt⟩ := hrel
    by_cases hlt : k < m.N
    · obtain ⟨c1, q1, q2, q3, q4⟩ := hSt
      have HP := Lib.hid (pick_at m _ c1 k _ q3 hlt (by omega))
      have HC1 := Lib.hid (And.intro q1 q2)
      have HC4 := Lib.hid q4
      obtain ⟨d, hd⟩ : ∃ d, d = ((s.upTo m.n k).l k).done := ⟨_, rfl⟩
      rw [← hd] at HP
      clear hd q1 q2 q3 q4
      cases d
      all_goals
        go_wp2_with fail
        with_reducible refine HP.out.mono ?_
        rintro e w1 ⟨rfl, hs⟩
        have HS1 := Lib.hid hs
        clear hs
        go_wp2_with fail
        go_roundw
        case rel => exact allRel_next hlt HC1.out HC4.out HS1.out
        case measure => simp [intOf]; omega
    · obtain rfl : k = m.N := by omega
      have HS1 := Lib.hid hSt
      clear hSt
      go_wp2_with fail
      exact bodyPost_end (v := .tuple #[]) (by simp [results, Tryd.results29, go_sem]) rfl ⟨rfl, HS1.out⟩
def RoundRel (m : Mc) (s : Sy) (c : Int) (M : Nat) (w : World) (i : Value) (wr : World) : Prop :=
  ∃ k : Nat, k ≤ M ∧ i = .int .i64 k ∧ s.count m.n m.N k = k ∧ StepS m (s.rounds m.n m.N k) c (k * m.N) w wr
theorem roundRel_next {m : Mc} {s : Sy} {c c1 : Int} {k M : Nat} {w wr w1 : World} (hk : k < M) (hn : s.count m.n m.N k = k) (hz : leftN (s.rounds m.n m.N k).l m.N ≠ 0) (h1 : c ≤ c1 ∧ c1 ≤ c + k * m.N) (hC : Chg m.own w wr)
    (hS : StepS m ((s.rounds m.n m.N k).round m.n m.N) c1 m.N wr w1) : RoundRel m s c M w (.int .i64 ((k : Int) + 1)) w1 := by
  have := StepS.trans h1.1 h1.2 hC hS
  refine ⟨k + 1, by omega, by go_num, by rw [Sy.count_add, Sy.count_one hz, hn], ?_⟩
  rw [Sy.rounds_add, Sy.rounds_one hz]
  have e : ((k + 1 : Nat) : Int) * m.N = k * m.N + m.N := by rw [Int.natCast_add, Int.add_mul]; simp
  rw [e]
  exact this
theorem round_end {m : Mc} {s : Sy} {k M : Nat} (hk : k ≤ M) (hn : s.count m.n m.N k = k) (hz : leftN (s.rounds m.n m.N k).l m.N = 0) : s.count m.n m.N M = k ∧ s.rounds m.n m.N M = s.rounds m.n m.N k := by
  obtain ⟨j, rfl⟩ : ∃ j, M = k + j := ⟨M - k, by omega⟩
  rw [Sy.count_add, Sy.rounds_add, Sy.count_done hz, Sy.rounds_done hz]
  exact ⟨by omega, rfl⟩
theorem step_mono {m : Mc} {s : Sy} {c d d' : Int} {w w' : World} (h : StepS m s c d w w') (hd : d ≤ d') : StepS m s c d' w w' := by
  obtain ⟨c', h1, h2, h3⟩ := h
  exact ⟨c', h1, by omega, h3⟩
theorem mul_le {k M N : Nat} (h : k ≤ M) : (k : Int) * N ≤ M * N := by exact_mod_cast Nat.mul_le_mul_right N h
set_option maxHeartbeats 4000000 in
set_option maxRecDepth 100000 in
theorem round_any (m : Mc) (s : Sy) (c : Int) (M : Nat) (w : World) (h : Sys w m s c) (hM : M ≤ 5000) (hN : m.N ≤ 20) (hc : 0 ≤ c) (hc2 : c ≤ 800000) :
    Calls Tryd.prog 20 #[.pointer (some ⟨m.X, 0, none⟩), .int .i64 M] w fun e w' => e = .returned (.int .i64 (s.count m.n m.N M)) ∧ StepS m (s.rounds m.n m.N M) c (M * m.N) w w' := by
  have HS := Lib.hid h
  clear h
  go_enter Tryd.func20, Tryd.ntmps20
  go_wp2_with fail
  go_loopw [7] (fun i wr => RoundRel m s c M w i wr) (fun i _ => M - (intOf i).toNat)
  case atStart => exact ⟨0, Nat.zero_le _, rfl, rfl, StepS.refl HS.out (by simp)⟩
  case round =>
    obtain ⟨k, hk, rfl, hn, hSt⟩ := hrel
    have HK := Lib.hid hn
    by_cases hlt : k < M
    · obtain ⟨c1, q1, q2, q3, q4⟩ := hSt
      have hb : (k : Int) * m.N ≤ 100000 := by
        have : (k : Int) * m.N ≤ ((5000 * 20 : Nat) : Int) := by exact_mod_cast Nat.mul_le_mul (show k ≤ 5000 by omega) hN
        omega
      have HL := Lib.hid (left_any m _ c1 _ q3)
      have HA := Lib.hid (all_any m _ c1 _ q3 (by omega) (by omega))
      have HC1 := Lib.hid (And.intro q1 q2)
      have HC4 := Lib.hid q4
      have HQ3 := Lib.hid q3
      obtain ⟨d, hd⟩ : ∃ d, d = leftN (s.rounds m.n m.N k).l m.N := ⟨_, rfl⟩
      rw [← hd] at HL
      have HD := Lib.hid hd
      clear hd q1 q2 q3 q4 hb hn
      by_cases hz : d = 0
      · subst hz
        go_wp2_with fail
        with_reducible refine HL.out.mono ?_
        rintro e w1 ⟨rfl, rfl⟩
        go_wp2_with fail
        go_ret
        obtain ⟨e1, e2⟩ := round_end (by omega) HK.out HD.out.symm
        rw [e1, e2]
        have := HC1.out
        exact ⟨rfl, step_mono ⟨c1, this.1, this.2, HQ3.out, HC4.out⟩ (mul_le (by omega))⟩
      · have hz' : ¬ ((d : Int) = 0) := by omega
        go_wp2_with fail
        with_reducible refine HL.out.mono ?_
        rintro e w1 ⟨rfl, rfl⟩
        go_wp2_with fail
        with_reducible refine HA.out.mono ?_
        rintro e w1 ⟨rfl, hs⟩
        have HS1 := Lib.hid hs
        clear hs
        go_wp2_with fail
        go_roundw
        case rel => exact roundRel_next hlt HK.out (by rw [← HD.out]; exact hz) HC1.out HC4.out HS1.out
        case measure => simp [intOf]; omega
    · obtain rfl : k = M := by omega
      have HS1 := Lib.hid hSt
      clear hSt hn
      go_wp2_with fail
      go_ret
      exact ⟨ret_i (by rw [HK.out]), HS1.out⟩
set_option maxHeartbeats 1000000 in
theorem round_neg (X : Nat) (w : World) :
    Calls Tryd.prog 20 #[.pointer (some ⟨X, 0, none⟩), .int .i64 (-1)] w fun e w' => e = .returned (.int .i64 0) ∧ w = w' := by
  go_enter Tryd.func20, Tryd.ntmps20
  go_wp2_with fail
  go_loop [7] (fun i => i = .int .i64 0) (fun _ => 0)
  case atStart => rfl
  case round =>
    subst hrel
    go_wp2_with fail
    go_ret
    exact ⟨rfl, rfl⟩
end Go.Proofs.YtcjhbmkpfclmfaaDoor
