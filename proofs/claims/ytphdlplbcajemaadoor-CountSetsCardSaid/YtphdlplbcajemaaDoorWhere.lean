/-
  Where makes the set of the cores below n for which a predicate holds; it asks about each once, in order.
-/
import Derived.Test.YtphdlplbcajemaaDoorSet
namespace Go.Proofs.YtphdlplbcajemaaDoor
open Go.RowKit

/-- the set of the cores below k for which f holds -/
def setF (f : Nat → Bool) : Nat → Int
  | 0 => 0
  | k + 1 => if f k then bits .or .u8 (setF f k) (bitF k) else setF f k
theorem setF_yes {f : Nat → Bool} {k : Nat} (h : f k = true) : bits .or .u8 (setF f k) (bitF k) = setF f (k + 1) := by simp [setF, h]
theorem setF_no {f : Nat → Bool} {k : Nat} (h : f k = false) : setF f k = setF f (k + 1) := by simp [setF, h]
/-- what a round of Where knows -/
def WhereRel (f : Nat → Bool) (R : Nat → World → Prop) (m k : Nat) (v : Int) (wr : World) : Prop := k ≤ m ∧ v = setF f k ∧ R k wr

set_option maxHeartbeats 400000 in
theorem where_big (K : FuncId) (cap : Array Value) (n : Int) (m : Nat) (f : Nat → Bool) (w : World) (R : Nat → World → Prop) (hK : Enters K)
    (hm : m ≤ 8) (hn : 8 < n) (hm8 : m = 8)
    (h0 : R 0 w) (htab : ∀ k W, R k W → TabOk W)
    (hcall : ∀ k W, k < m → R k W → Calls Tryd.prog K (#[.int .i64 k] ++ cap) W fun e w' => e = .returned (.bool (f k)) ∧ R (k + 1) w') :
    Calls Tryd.prog 28 #[.int .i64 n, .func (.func K) #[] cap] w fun e w' => e = .returned (.int .u8 (setF f m)) ∧ R m w' := by
  have HK := Lib.hid hK
  have HT := Lib.hid htab
  have HC := Lib.hid hcall
  clear hK htab hcall
  go_enter Tryd.func28, Tryd.ntmps28
  go_wp2
  go_loopw [5, 9] (fun v i wr => ∃ (k : Nat) (x : Int), WhereRel f R m k x wr ∧ i = .int .i64 k ∧ v = .int .u8 x) (fun _ i _ => m - (intOf i).toNat)
  case atStart => exact ⟨0, 0, ⟨by omega, rfl, h0⟩, rfl, rfl⟩
  case round =>
    obtain ⟨k, x, ⟨hk, hx, hR⟩, rfl, rfl⟩ := hrel
    clear h0
    by_cases hlt : k < m
    · have hl : (k : Int) < 8 := by omega
      have HC1 := Lib.hid (holds_any K cap k (f k) _ (R (k + 1)) HK.out (HC.out k _ hlt hR))
      have HX := Lib.hid hx
      clear hR hx
      cases hb : f k
      · have HB := Lib.hid hb
        clear hb
        go_wp2_with (go_at_call 37; refine HC1.out.mono ?_; rintro e w' ⟨rfl, hR'⟩; have HR := Lib.hid hR'; clear hR'; simp only [HB.out])
        go_roundw
        case rel => exact ⟨k + 1, x, ⟨hlt, by rw [HX.out]; exact setF_no HB.out, HR.out⟩, by go_num, rfl⟩
        case measure => simp [intOf]; omega
      · have HB := Lib.hid hb
        clear hb
        go_wp2_with (go_at_call 37; refine HC1.out.mono ?_; rintro e w' ⟨rfl, hR'⟩; have HR := Lib.hid hR'; clear hR'; simp only [HB.out]; have hc := HT.out _ _ HR.out k (by omega))
        go_roundw
        case rel => exact ⟨k + 1, _, ⟨hlt, by rw [HX.out]; exact setF_yes HB.out, HR.out⟩, by go_num, rfl⟩
        case measure => simp [intOf]; omega
    · have hl : 8 ≤ (k : Int) := by omega
      have hkm : k = m := by omega
      subst hkm
      have HX := Lib.hid hx
      have HR := Lib.hid hR
      clear hx hR
      go_wp2
      go_ret
      exact ⟨ret_u HX.out, HR.out⟩

set_option maxHeartbeats 400000 in
theorem where_low (K : FuncId) (cap : Array Value) (n : Int) (m : Nat) (f : Nat → Bool) (w : World) (R : Nat → World → Prop) (hK : Enters K)
    (hm : m ≤ 8) (hn : n ≤ 8) (hmn : (0 ≤ n ∧ (m : Int) = n) ∨ (n < 0 ∧ m = 0))
    (h0 : R 0 w) (htab : ∀ k W, R k W → TabOk W)
    (hcall : ∀ k W, k < m → R k W → Calls Tryd.prog K (#[.int .i64 k] ++ cap) W fun e w' => e = .returned (.bool (f k)) ∧ R (k + 1) w') :
    Calls Tryd.prog 28 #[.int .i64 n, .func (.func K) #[] cap] w fun e w' => e = .returned (.int .u8 (setF f m)) ∧ R m w' := by
  have HK := Lib.hid hK
  have HT := Lib.hid htab
  have HC := Lib.hid hcall
  clear hK htab hcall
  go_enter Tryd.func28, Tryd.ntmps28
  go_wp2
  go_loopw [5, 9] (fun v i wr => ∃ (k : Nat) (x : Int), WhereRel f R m k x wr ∧ i = .int .i64 k ∧ v = .int .u8 x) (fun _ i _ => m - (intOf i).toNat)
  case atStart => exact ⟨0, 0, ⟨by omega, rfl, h0⟩, rfl, rfl⟩
  case round =>
    obtain ⟨k, x, ⟨hk, hx, hR⟩, rfl, rfl⟩ := hrel
    clear h0
    by_cases hlt : k < m
    · have hl : (k : Int) < n := by omega
      have HC1 := Lib.hid (holds_any K cap k (f k) _ (R (k + 1)) HK.out (HC.out k _ hlt hR))
      have HX := Lib.hid hx
      clear hR hx
      cases hb : f k
      · have HB := Lib.hid hb
        clear hb
        go_wp2_with (go_at_call 37; refine HC1.out.mono ?_; rintro e w' ⟨rfl, hR'⟩; have HR := Lib.hid hR'; clear hR'; simp only [HB.out])
        go_roundw
        case rel => exact ⟨k + 1, x, ⟨hlt, by rw [HX.out]; exact setF_no HB.out, HR.out⟩, by go_num, rfl⟩
        case measure => simp [intOf]; omega
      · have HB := Lib.hid hb
        clear hb
        go_wp2_with (go_at_call 37; refine HC1.out.mono ?_; rintro e w' ⟨rfl, hR'⟩; have HR := Lib.hid hR'; clear hR'; simp only [HB.out]; have hc := HT.out _ _ HR.out k (by omega))
        go_roundw
        case rel => exact ⟨k + 1, _, ⟨hlt, by rw [HX.out]; exact setF_yes HB.out, HR.out⟩, by go_num, rfl⟩
        case measure => simp [intOf]; omega
    · have hl : n ≤ (k : Int) := by omega
      have hkm : k = m := by omega
      subst hkm
      have HX := Lib.hid hx
      have HR := Lib.hid hR
      clear hx hR
      go_wp2
      go_ret
      exact ⟨ret_u HX.out, HR.out⟩

end Go.Proofs.YtphdlplbcajemaaDoor
