/-
  The document's answers about windows.
-/
import Derived.Test.YtmfelkdcoihkpaaDoorWin
namespace Go.Proofs.YtmfelkdcoihkpaaDoor
open Go.RowKit

/-- Does a window have a tick? -/
def hasB (w : WinA) (t : Int) : Bool := decide (w.1 ≤ t ∧ t < endW w)
set_option maxHeartbeats 1000000 in
theorem has_any (v : WinA) (t : Int) (W : World) (hv : WfWin v) :
    Calls Tryd.prog 27 #[wv v, .int .i64 t] W fun e w' => e = .returned (.bool (hasB v t)) ∧ Below W.heap.size W w' := by
  obtain ⟨a, b, c, d⟩ := v
  obtain ⟨⟨a0, a1⟩, ⟨b0, b1⟩, _⟩ := hv
  dsimp only at a0 a1 b0 b1
  simp only [wv]
  have hh : hasB (a, b, c, d) t = decide (a ≤ t ∧ t < a + b) := rfl
  rw [hh]
  clear hh
  by_cases h : a ≤ t
  · have e1 : decide (a ≤ t ∧ t < a + b) = decide (t < a + b) := by rw [decide_eq_decide]; omega
    rw [e1]
    clear e1
    go_enter Tryd.func27, Tryd.ntmps27
    go_wp2_with fail
    all_goals
      go_ret
      exact ⟨ret_b (by first | rfl | (simp; done) | (simp; omega)), (Below.refl _ _).alloc (Nat.le_refl _) _⟩
  · have h' : t < a := by omega
    rw [decide_eq_false (by omega)]
    clear h
    go_enter Tryd.func27, Tryd.ntmps27
    go_wp2_with fail
    go_ret
    exact ⟨rfl, (Below.refl _ _).alloc (Nat.le_refl _) _⟩

theorem ovB_comm (v w : WinA) : ovB w v = ovB v w := by
  unfold ovB
  rw [decide_eq_decide]
  (repeat' split) <;> omega

set_option maxHeartbeats 2000000 in
theorem refOverlap_any (v w : WinA) (W : World) (hv : WfWin v) (hw : WfWin w) :
    Calls Tryd.prog 15 #[wv v, wv w] W fun e w' => e = .returned (.bool (ovB v w)) ∧ Below W.heap.size W w' := by
  have HV := Lib.hid (fun t W => has_any v t W hv)
  have HW := Lib.hid (fun t W => has_any w t W hw)
  obtain ⟨a, b, c, d⟩ := v
  obtain ⟨a', b', c', d'⟩ := w
  obtain ⟨⟨a0, a1⟩, ⟨b0, b1⟩, _⟩ := hv
  obtain ⟨⟨x0, x1⟩, ⟨y0, y1⟩, _⟩ := hw
  dsimp only at a0 a1 b0 b1 x0 x1 y0 y1
  simp only [wv] at HV HW ⊢
  have HB0 : Hid (Below W.heap.size W ((W.alloc (.cells #[.int .u16 a, .int .u16 b, .int .u8 c, .int .u8 d] 39)).alloc (.cells #[.int .u16 a', .int .u16 b', .int .u8 c', .int .u8 d'] 39))) := ((Below.refl _ _).alloc (Nat.le_refl _) _).alloc (by simp) _
  have hA2 := WB.new (W.alloc (.cells #[.int .u16 a, .int .u16 b, .int .u8 c, .int .u8 d] 39)) a' b' c' d'
  rw [show (W.alloc (.cells #[.int .u16 a, .int .u16 b, .int .u8 c, .int .u8 d] 39)).heap.size = W.heap.size + 1 by simp] at hA2
  have HA2 := Lib.hid hA2
  obtain ⟨q, hq⟩ : ∃ q, q = ovB (a, b, c, d) (a', b', c', d') := ⟨_, rfl⟩
  rw [← hq]
  have HQ := Lib.hid hq
  clear hA2 hq
  by_cases h : a < a'
  all_goals
    obtain ⟨t, ht⟩ : ∃ t, t = if a < a' then a' else a := ⟨_, rfl⟩
    first | (rw [if_pos h] at ht) | (rw [if_neg h] at ht)
    have hqq : q = (hasB (a, b, c, d) t && hasB (a', b', c', d') t) := by
      rw [HQ.out]
      unfold ovB hasB endW
      rw [ht, ← Bool.decide_and, decide_eq_decide]
      dsimp only
      (repeat' split) <;> omega
    cases hb : hasB (a, b, c, d) t
    · rw [hb] at hqq
      have HQQ := Lib.hid hqq
      have HV2 := Lib.hid (fun W => HV.out t W)
      rw [hb] at HV2
      rw [ht] at HV2
      clear hqq hb ht
      go_enter Tryd.func15, Tryd.ntmps15
      go_wp2_with fail
      refine (HV2.out _).mono ?_
      rintro e w1 ⟨rfl, hB⟩
      have HB := Lib.hid hB
      clear hB
      go_wp2_with fail
      go_ret
      exact ⟨ret_b (by rw [HQQ.out]; rfl), below_two HB0.out HB.out⟩
    · rw [hb] at hqq
      have HV2 := Lib.hid (fun W => HV.out t W)
      have HW2 := Lib.hid (fun W => HW.out t W)
      rw [hb] at HV2
      obtain ⟨r, hr⟩ : ∃ r, r = hasB (a', b', c', d') t := ⟨_, rfl⟩
      rw [← hr] at HW2 hqq
      rw [ht] at HV2 HW2
      have HQQ := Lib.hid hqq
      clear hqq hb ht hr
      go_enter Tryd.func15, Tryd.ntmps15
      go_wp2_with fail
      refine (HV2.out _).mono ?_
      rintro e w1 ⟨rfl, hB⟩
      have HB := Lib.hid hB
      obtain ⟨k0, k1, k2, k3⟩ := HA2.out.keep hB
      dsimp only at k0 k1 k2 k3
      clear hB
      go_wp2_with fail
      refine (HW2.out _).mono ?_
      rintro e w2 ⟨rfl, hB⟩
      have HB2 := Lib.hid hB
      clear hB
      go_wp2_with fail
      go_ret
      exact ⟨ret_b (by rw [HQQ.out]; simp), below_two HB0.out (below_two HB.out HB2.out)⟩

set_option maxHeartbeats 2000000 in
theorem refTogether_any (v w : WinA) (W : World) :
    Calls Tryd.prog 17 #[wv v, wv w] W fun e w' => e = .returned (.bool (togB v w)) ∧ Below W.heap.size W w' := by
  obtain ⟨a, b, c, d⟩ := v
  obtain ⟨a', b', c', d'⟩ := w
  simp only [wv]
  have HB0 : Hid (Below W.heap.size W ((W.alloc (.cells #[.int .u16 a, .int .u16 b, .int .u8 c, .int .u8 d] 39)).alloc (.cells #[.int .u16 a', .int .u16 b', .int .u8 c', .int .u8 d'] 39))) := ((Below.refl _ _).alloc (Nat.le_refl _) _).alloc (by simp) _
  obtain ⟨q, hq⟩ : ∃ q, q = togB (a, b, c, d) (a', b', c', d') := ⟨_, rfl⟩
  rw [← hq]
  have HQ := Lib.hid hq
  clear hq
  by_cases h0 : d = 0
  · subst h0
    go_enter Tryd.func17, Tryd.ntmps17
    go_wp2_with fail
    go_ret
    exact ⟨ret_b (by rw [HQ.out]; simp [togB, gangB]), HB0.out⟩
  · have n0 : (d != 0) = true := by simpa using h0
    clear h0
    by_cases h1 : d = d'
    · subst h1
      by_cases h2 : a = a'
      · subst h2
        by_cases h3 : b = b'
        · subst h3
          go_enter Tryd.func17, Tryd.ntmps17
          go_wp2_with fail
          go_ret
          exact ⟨ret_b (by rw [HQ.out]; by_cases hc : c = c' <;> simp [togB, gangB, n0, hc]), HB0.out⟩
        · have n3 : (b == b') = false := by simpa using h3
          have N3 := Lib.hid h3
          clear h3
          go_enter Tryd.func17, Tryd.ntmps17
          go_wp2_with fail
          go_ret
          exact ⟨ret_b (by rw [HQ.out]; simp [togB, gangB, N3.out]), HB0.out⟩
      · have n3 : (a == a') = false := by simpa using h2
        have N3 := Lib.hid h2
        clear h2
        go_enter Tryd.func17, Tryd.ntmps17
        go_wp2_with fail
        go_ret
        exact ⟨ret_b (by rw [HQ.out]; simp [togB, gangB, N3.out]), HB0.out⟩
    · have n3 : (d == d') = false := by simpa using h1
      have N3 := Lib.hid h1
      clear h1
      go_enter Tryd.func17, Tryd.ntmps17
      go_wp2_with fail
      go_ret
      exact ⟨ret_b (by rw [HQ.out]; simp [togB, gangB, N3.out]), HB0.out⟩
end Go.Proofs.YtmfelkdcoihkpaaDoor
