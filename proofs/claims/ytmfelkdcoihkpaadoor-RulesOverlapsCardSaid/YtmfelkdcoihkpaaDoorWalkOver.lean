/-
  The walk of RulesOverlaps.
-/
import Derived.Test.YtmfelkdcoihkpaaDoorRefW
import Derived.Test.YtmfelkdcoihkpaaDoorAwake
import Derived.LoopTactic
namespace Go.Proofs.YtmfelkdcoihkpaaDoor
open Go.RowKit

/-- Has the window one of the first k ticks from a on? -/
def anyT (w : WinA) (a : Int) : Nat → Bool
  | 0 => false
  | k + 1 => anyT w a k || hasB w (a + k)
theorem anyT_iff (w : WinA) (a : Int) (k : Nat) : anyT w a k = true ↔ ∃ j : Nat, j < k ∧ hasB w (a + j) = true := by
  induction k with
  | zero => simp [anyT]
  | succ k ih =>
    rw [anyT, Bool.or_eq_true, ih]
    constructor
    · rintro (⟨j, h1, h2⟩ | h)
      · exact ⟨j, by omega, h2⟩
      · exact ⟨k, by omega, h⟩
    · rintro ⟨j, h1, h2⟩
      by_cases e : j = k
      · subst e; exact .inr h2
      · exact .inl ⟨j, by omega, h2⟩
theorem anyT_ov (v w : WinA) (n : Nat) (hn : v.2.1 = n) (hv : WfWin v) (hw : WfWin w) : anyT w v.1 n = ovB v w := by
  obtain ⟨⟨a0, a1⟩, ⟨b0, b1⟩, _⟩ := hv
  obtain ⟨⟨x0, x1⟩, ⟨y0, y1⟩, _⟩ := hw
  rw [Bool.eq_iff_iff, anyT_iff]
  unfold hasB ovB endW
  simp only [decide_eq_true_eq]
  constructor
  · rintro ⟨j, h1, h2⟩
    (repeat' split) <;> omega
  · intro h
    by_cases e : v.1 ≤ w.1
    · rw [if_pos e] at h
      refine ⟨(w.1 - v.1).toNat, ?_, ?_⟩
      · split at h <;> omega
      · split at h <;> omega
    · rw [if_neg e] at h
      refine ⟨0, ?_, ?_⟩
      · split at h <;> omega
      · split at h <;> omega

set_option maxHeartbeats 8000000 in
set_option maxRecDepth 100000 in
theorem walk_overlaps (v w : WinA) (W : World) (hG : GOk W) (hv : WfWin v) (hw : WfWin w) :
    Calls Tryd.prog 5 #[wv v, wv w] W fun e w' => e = .returned (.bool true) ∧ Below W.heap.size W w' := by
  have h0 := hG.lt
  have HAW := Lib.hid (fun W1 (hB : Below W.heap.size W W1) => awake_any W1 (hG.below hB h0))
  have HO1 := Lib.hid (fun W => overlap_any v w W hv hw)
  have HOV := Lib.hid (fun n hn => anyT_ov v w n hn hv hw)
  obtain ⟨q, hq⟩ : ∃ q, q = ovB v w := ⟨_, rfl⟩
  rw [← hq] at HO1 HOV
  obtain ⟨a, b, c, d⟩ := v
  obtain ⟨a', b', c', d'⟩ := w
  simp only [wv] at HO1 ⊢
  have HB0 : Hid (Below W.heap.size W ((W.alloc (.cells #[.int .u16 a, .int .u16 b, .int .u8 c, .int .u8 d] 39)).alloc (.cells #[.int .u16 a', .int .u16 b', .int .u8 c', .int .u8 d'] 39))) := ((Below.refl _ _).alloc (Nat.le_refl _) _).alloc (by simp) _
  have HA1 := Lib.hid ((WB.new W a b c d).alloc (.cells #[.int .u16 a', .int .u16 b', .int .u8 c', .int .u8 d'] 39))
  have hA2 := WB.new (W.alloc (.cells #[.int .u16 a, .int .u16 b, .int .u8 c, .int .u8 d] 39)) a' b' c' d'
  rw [show (W.alloc (.cells #[.int .u16 a, .int .u16 b, .int .u8 c, .int .u8 d] 39)).heap.size = W.heap.size + 1 by simp] at hA2
  have HA2 := Lib.hid hA2
  obtain ⟨⟨a0, a1⟩, ⟨b0, b1⟩, _⟩ := hv
  obtain ⟨⟨x0, x1⟩, ⟨y0, y1⟩, _⟩ := hw
  dsimp only at a0 a1 b0 b1 x0 x1 y0 y1 HOV
  clear hA2 hq hG
  by_cases h1 : 300 < b
  · go_enter Tryd.func5, Tryd.ntmps5
    go_wp2_with fail
    refine (HAW.out _ HB0.out).mono ?_
    rintro e w1 ⟨rfl, hB⟩
    have HB := Lib.hid hB
    clear hB
    go_wp2_with fail
    go_ret
    exact ⟨rfl, below_two HB0.out HB.out⟩
  · by_cases h2 : 300 < b'
    · go_enter Tryd.func5, Tryd.ntmps5
      go_wp2_with fail
      refine (HAW.out _ HB0.out).mono ?_
      rintro e w1 ⟨rfl, hB⟩
      have HB := Lib.hid hB
      clear hB
      go_wp2_with fail
      go_ret
      exact ⟨rfl, below_two HB0.out HB.out⟩
    · obtain ⟨n, rfl⟩ := Int.eq_ofNat_of_zero_le b0
      go_enter Tryd.func5, Tryd.ntmps5
      go_wp2_with fail
      go_loop [5, 6] (fun s t => ∃ k : Nat, k ≤ n ∧ t = .int .i64 (a + k) ∧ s = .bool (anyT (a', b', c', d') a k)) (fun _ t => (a + n - intOf t).toNat)
      case atStart => exact ⟨0, Nat.zero_le _, by simp, rfl⟩
      case round =>
        obtain ⟨k, hk, rfl, rfl⟩ := hrel
        obtain ⟨x, hx⟩ : ∃ x, x = anyT (a', b', c', d') a k := ⟨_, rfl⟩
        rw [← hx]
        by_cases hlt : k < n
        · have hs : anyT (a', b', c', d') a (k + 1) = (x || decide (a' ≤ a + k ∧ a + k < a' + b')) := by rw [hx]; rfl
          have HS := Lib.hid hs
          clear hs hx
          cases x
          · go_wp2_with fail
            all_goals
              go_round
              case rel => exact ⟨k + 1, by omega, by push_cast; rw [Int.add_assoc], by rw [HS.out]; simp; try omega⟩
              case measure => simp [intOf]; omega
          · go_wp2_with fail
            all_goals
              go_round
              case rel => exact ⟨k + 1, by omega, by push_cast; rw [Int.add_assoc], by rw [HS.out]; simp⟩
              case measure => simp [intOf]; omega
        · obtain rfl : k = n := by omega
          have hxq := hx.trans (HOV.out k rfl)
          subst hxq
          clear hx
          go_wp2_with fail
          refine (HAW.out _ HB0.out).mono ?_
          rintro e w1 ⟨rfl, hB⟩
          obtain ⟨k0, k1, k2, k3⟩ := HA1.out.keep hB
          obtain ⟨m0, m1, m2, m3⟩ := HA2.out.keep hB
          dsimp only at k0 k1 k2 k3 m0 m1 m2 m3
          have HB := Lib.hid hB
          clear hB
          go_wp2_with fail
          refine (HO1.out _).mono ?_
          rintro e w2 ⟨rfl, hB⟩
          have HB2 := Lib.hid hB
          clear hB
          go_wp2_with fail
          go_ret
          exact ⟨by simp, below_two HB0.out (below_two HB.out HB2.out)⟩
end Go.Proofs.YtmfelkdcoihkpaaDoor
