/-
  Which channels may be.
-/
import Derived.Test.YtmfelkdcoihkpaaDoorEachW
namespace Go.Proofs.YtmfelkdcoihkpaaDoor
open Go.RowKit

def OnesPost (x : Int) (w : World) (e : Ending) (w' : World) : Prop := ∃ r : Int, e = .returned (.int .i64 r) ∧ (r == 1) = depthB x ∧ w = w'
set_option maxHeartbeats 4000000 in
set_option maxRecDepth 100000 in
theorem ones_any (x : Int) (w : World) (h0 : 0 ≤ x) (h1 : x ≤ 16) : Calls Tryd.prog 79 #[.int .u8 x] w fun e w' => OnesPost x w e w' := by
  have h : x = 0 ∨ x = 1 ∨ x = 2 ∨ x = 3 ∨ x = 4 ∨ x = 5 ∨ x = 6 ∨ x = 7 ∨ x = 8 ∨ x = 9 ∨ x = 10 ∨ x = 11 ∨ x = 12 ∨ x = 13 ∨ x = 14 ∨ x = 15 ∨ x = 16 := by omega
  clear h0 h1
  rcases h with rfl | rfl | rfl | rfl | rfl | rfl | rfl | rfl | rfl | rfl | rfl | rfl | rfl | rfl | rfl | rfl | rfl
  all_goals
    go_enter Tryd.func79, Tryd.ntmps79
    go_wp2_with fail
    go_ret
    exact ⟨_, rfl, by decide +kernel, rfl⟩

set_option maxHeartbeats 4000000 in
theorem depth_any (x : Int) (w : World) (h : byte x) : Calls Tryd.prog 69 #[.int .u8 x] w fun e w' => e = .returned (.bool (depthB x)) ∧ w = w' := by
  obtain ⟨h0, h1⟩ := h
  by_cases h16 : x ≤ 16
  · go_enter Tryd.func69, Tryd.ntmps69
    go_wp2_with fail
    refine (ones_any x _ h0 h16).mono ?_
    rintro e w1 ⟨r, rfl, hr, rfl⟩
    have HR := Lib.hid hr
    clear hr
    go_wp2_with fail
    go_ret
    exact ⟨ret_b HR.out, rfl⟩
  · have h16 : 16 < x := by omega
    have hd : depthB x = false := by
      unfold depthB
      simp
      omega
    rw [hd]
    clear hd
    go_enter Tryd.func69, Tryd.ntmps69
    go_wp2_with fail
    go_ret
    exact ⟨rfl, rfl⟩

/-- A channel as a value. -/
def cv (c : ChanA) : Value := .agg #[.int .u8 c.1, .int .u8 c.2.1, .int .u8 c.2.2.1, .int .u8 c.2.2.2.1, .int .u8 c.2.2.2.2.1, .int .u16 c.2.2.2.2.2]

set_option maxHeartbeats 8000000 in
set_option maxRecDepth 100000 in
theorem chan_any (c : ChanA) (n : Nat) (w : World) (hW : WfChan c) (_ : n ≤ 64) :
    Calls Tryd.prog 54 #[cv c, .int .i64 n] w fun e w' => e = .returned (.bool (chanB n c)) ∧ Below w.heap.size w w' := by
  obtain ⟨kd, fr, to, sz, dp, ag⟩ := c
  obtain ⟨f1, f2, f3, f4, f5, f6⟩ := hW
  have HD := Lib.hid (fun W => depth_any dp W f5)
  unfold byte at f1 f2 f3 f4 f5
  unfold wide at f6
  simp only [cv] at *
  have HB0 : Hid (Below w.heap.size w (w.alloc (.cells #[.int .u8 kd, .int .u8 fr, .int .u8 to, .int .u8 sz, .int .u8 dp, .int .u16 ag] 48))) := (Below.refl _ _).alloc (Nat.le_refl _) _
  obtain ⟨rb, hrb⟩ : ∃ rb, rb = decide (fr < (n : Int) ∧ to < (n : Int) ∧ fr ≠ to ∧ 1 ≤ sz ∧ sz ≤ 32) := ⟨_, rfl⟩
  have hcb : chanB n (kd, fr, to, sz, dp, ag) = (((kd == 0 && depthB dp && ag == 0) || (kd == 1 && dp == 0 && decide (0 < ag))) && rb) := by rw [hrb]; rfl
  rw [hcb]
  clear hcb
  obtain ⟨db, hdb⟩ : ∃ db, db = depthB dp := ⟨_, rfl⟩
  rw [← hdb] at HD ⊢
  clear hdb
  have HRB := Lib.hid hrb
  clear hrb
  by_cases k0 : kd = 0
  · subst k0
    cases db
    · go_enter Tryd.func54, Tryd.ntmps54
      go_wp2_with fail
      refine (HD.out _).mono ?_
      rintro e w1 ⟨rfl, rfl⟩
      go_wp2_with fail
      go_ret
      exact ⟨ret_b (by first | rfl | (simp; done) | (simp; omega)), HB0.out⟩
    · by_cases k2 : ag = 0
      · subst k2
        by_cases g1 : fr < (n : Int)
        · by_cases g2 : to < (n : Int)
          · by_cases g3 : fr = to
            · obtain rfl : rb = false := by rw [HRB.out]; exact decide_eq_false (by omega)
              subst g3
              go_enter Tryd.func54, Tryd.ntmps54
              go_wp2_with fail
              refine (HD.out _).mono ?_
              rintro e w1 ⟨rfl, rfl⟩
              go_wp2_with fail
              go_quiet (fail)
              go_wp2_with fail
              go_ret
              exact ⟨ret_b (by first | (simp; done) | (simp; intros; omega)), below_drewN HB0.out _⟩
            · have g4 : (fr != to) = true := by simpa using g3
              obtain rfl : rb = decide (1 ≤ sz ∧ sz ≤ 32) := by rw [HRB.out, decide_eq_decide]; omega
              clear g3
              go_enter Tryd.func54, Tryd.ntmps54
              go_wp2_with fail
              refine (HD.out _).mono ?_
              rintro e w1 ⟨rfl, rfl⟩
              go_wp2_with fail
              go_quiet (fail)
              go_wp2_with fail
              refine (from1_any _ _ _).mono ?_
              rintro e w2 ⟨rfl, rfl⟩
              go_wp2_with fail
              go_ret
              exact ⟨ret_b (by first | (simp; done) | (simp; intros; omega)), below_drewN HB0.out _⟩
          · obtain rfl : rb = false := by rw [HRB.out]; exact decide_eq_false (by omega)
            go_enter Tryd.func54, Tryd.ntmps54
            go_wp2_with fail
            refine (HD.out _).mono ?_
            rintro e w1 ⟨rfl, rfl⟩
            go_wp2_with fail
            go_quiet (fail)
            go_wp2_with fail
            go_ret
            exact ⟨ret_b (by first | (simp; done) | (simp; intros; omega)), below_drewN HB0.out _⟩
        · obtain rfl : rb = false := by rw [HRB.out]; exact decide_eq_false (by omega)
          go_enter Tryd.func54, Tryd.ntmps54
          go_wp2_with fail
          refine (HD.out _).mono ?_
          rintro e w1 ⟨rfl, rfl⟩
          go_wp2_with fail
          go_quiet (fail)
          go_wp2_with fail
          go_ret
          exact ⟨ret_b (by first | (simp; done) | (simp; intros; omega)), below_drewN HB0.out _⟩
      · have k3 : (ag == 0) = false := by simpa using k2
        clear k2
        go_enter Tryd.func54, Tryd.ntmps54
        go_wp2_with fail
        refine (HD.out _).mono ?_
        rintro e w1 ⟨rfl, rfl⟩
        go_wp2_with fail
        go_ret
        exact ⟨ret_b (by first | simp [k3] | rfl | (simp; done) | (simp; omega)), HB0.out⟩
  · have k1 : (kd == 0) = false := by simpa using k0
    clear k0
    by_cases k4 : kd = 1
    · subst k4
      by_cases k5 : dp = 0
      · subst k5
        by_cases k6 : 0 < ag
        · by_cases g1 : fr < (n : Int)
          · by_cases g2 : to < (n : Int)
            · by_cases g3 : fr = to
              · obtain rfl : rb = false := by rw [HRB.out]; exact decide_eq_false (by omega)
                subst g3
                go_enter Tryd.func54, Tryd.ntmps54
                go_wp2_with fail
                go_quiet (fail)
                go_wp2_with fail
                go_ret
                exact ⟨ret_b (by first | (simp; done) | (simp; intros; omega)), below_drewN HB0.out _⟩
              · have g4 : (fr != to) = true := by simpa using g3
                obtain rfl : rb = decide (1 ≤ sz ∧ sz ≤ 32) := by rw [HRB.out, decide_eq_decide]; omega
                clear g3
                go_enter Tryd.func54, Tryd.ntmps54
                go_wp2_with fail
                go_quiet (fail)
                go_wp2_with fail
                refine (from1_any _ _ _).mono ?_
                rintro e w2 ⟨rfl, rfl⟩
                go_wp2_with fail
                go_ret
                exact ⟨ret_b (by first | (simp; done) | (simp; intros; omega)), below_drewN HB0.out _⟩
            · obtain rfl : rb = false := by rw [HRB.out]; exact decide_eq_false (by omega)
              go_enter Tryd.func54, Tryd.ntmps54
              go_wp2_with fail
              go_quiet (fail)
              go_wp2_with fail
              go_ret
              exact ⟨ret_b (by first | (simp; done) | (simp; intros; omega)), below_drewN HB0.out _⟩
          · obtain rfl : rb = false := by rw [HRB.out]; exact decide_eq_false (by omega)
            go_enter Tryd.func54, Tryd.ntmps54
            go_wp2_with fail
            go_quiet (fail)
            go_wp2_with fail
            go_ret
            exact ⟨ret_b (by first | (simp; done) | (simp; intros; omega)), below_drewN HB0.out _⟩
        · have k6 : ag ≤ 0 := by omega
          go_enter Tryd.func54, Tryd.ntmps54
          go_wp2_with fail
          go_ret
          exact ⟨ret_b (by first | rfl | (simp; done) | (simp; omega)), HB0.out⟩
      · have k7 : (dp == 0) = false := by simpa using k5
        clear k5
        go_enter Tryd.func54, Tryd.ntmps54
        go_wp2_with fail
        go_ret
        exact ⟨ret_b (by first | simp [k7] | rfl | (simp; done) | (simp; omega)), HB0.out⟩
    · have k8 : (kd == 1) = false := by simpa using k4
      clear k4
      go_enter Tryd.func54, Tryd.ntmps54
      go_wp2_with fail
      go_ret
      exact ⟨ret_b (by first | simp [k1, k8] | rfl | (simp; done) | (simp; omega)), HB0.out⟩
end Go.Proofs.YtmfelkdcoihkpaaDoor
