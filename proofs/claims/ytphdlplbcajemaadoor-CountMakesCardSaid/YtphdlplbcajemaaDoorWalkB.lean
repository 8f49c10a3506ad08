/-
  The walks of CountMakes and CountTurns.
-/
import Derived.Test.YtphdlplbcajemaaDoorAwake
namespace Go.Proofs.YtphdlplbcajemaaDoor
open Go.RowKit

/-- the sum of two indices -/
def addF (a b : Int) : Int := (a + b) % 4294967296
theorem addF_bounds (a b : Int) : 0 ≤ addF a b ∧ addF a b < 4294967296 := by unfold addF; omega
theorem used_add {h u : Int} (h0 : 0 ≤ u) (h1 : u < 4294967296) : usedF h (addF h u) = u := by unfold usedF addF; omega
theorem cap_dvd {p : Int} (hc : capP p = true) : ∃ m : Int, 4294967296 = p * m := by
  have ⟨c1, c2⟩ := cap_bounds p hc
  unfold capP capN at hc
  obtain ⟨j, hj, he⟩ := List.any_eq_true.1 hc
  have he' : p.toNat = 2 ^ j := by simpa using he
  have hp : p = ((2 ^ j : Nat) : Int) := by omega
  have hj' : j < 16 := List.mem_range.1 hj
  refine ⟨((2 ^ (32 - j) : Nat) : Int), ?_⟩
  rw [hp, ← Int.natCast_mul, ← Nat.pow_add, show j + (32 - j) = 32 by omega]
  decide
theorem slot_add {h p : Int} (hc : capP p = true) : slotV (addF h p) p = slotV h p := by
  obtain ⟨m, hm⟩ := cap_dvd hc
  rw [(slot_ok hc).1, (slot_ok hc).1]
  unfold addF
  rw [Int.emod_emod_of_dvd _ ⟨m, hm⟩, Int.add_emod_right]
theorem slot_lt {h p : Int} (hc : capP p = true) : slotV h p < p := by
  have ⟨c1, c2⟩ := cap_bounds p hc
  rw [(slot_ok hc).1]
  exact Int.emod_lt_of_pos _ (by omega)

namespace countMakes
theorem room_10 {h t p : Int} (w : World) (hp : 0 ≤ p) (hp2 : p < 4294967296) (hc : capP p = false) :
    Calls Tryd.prog 16 #[.int .u32 h, .int .u32 t, .int .u32 p] w fun e w' => e = .returned (.tuple #[.int .u32 0, .int .i64 10]) ∧ w = w' :=
  (room_any h t p w hp hp2).mono fun _ _ ⟨h, hw⟩ => ⟨h.trans (ret_ui (room_no hc)), hw⟩
theorem room_11 {h t p : Int} (w : World) (hp : 0 ≤ p) (hp2 : p < 4294967296) (hc : capP p = true) (hu : p < usedF h t) :
    Calls Tryd.prog 16 #[.int .u32 h, .int .u32 t, .int .u32 p] w fun e w' => e = .returned (.tuple #[.int .u32 0, .int .i64 11]) ∧ w = w' :=
  (room_any h t p w hp hp2).mono fun _ _ ⟨h, hw⟩ => ⟨h.trans (ret_ui (room_used hc hu)), hw⟩
theorem room_0 {h t p : Int} (w : World) (hp : 0 ≤ p) (hp2 : p < 4294967296) (hc : capP p = true) (hu : ¬ p < usedF h t) :
    Calls Tryd.prog 16 #[.int .u32 h, .int .u32 t, .int .u32 p] w fun e w' => e = .returned (.tuple #[.int .u32 (p - usedF h t), .int .i64 0]) ∧ w = w' :=
  (room_any h t p w hp hp2).mono fun _ _ ⟨h, hw⟩ => ⟨h.trans (ret_ui (room_ok hc hu)), hw⟩
theorem slot_0 {i p : Int} (w : World) (hi : 0 ≤ i) (hp : 0 ≤ p) (hp2 : p < 4294967296) (hc : capP p = true) :
    Calls Tryd.prog 18 #[.int .u32 i, .int .u32 p] w fun e w' => e = .returned (.tuple #[.int .u32 (slotV i p), .int .i64 0]) ∧ w = w' :=
  (slot_any i p w hi hp hp2).mono fun _ _ ⟨h, hw⟩ => ⟨h.trans (ret_ui ⟨rfl, (slot_ok (i := i) hc).2⟩), hw⟩

/-- what is handed to Room: the sum as the walk spells it -/
theorem addF_eq (a b : Int) : (a + b) % 4294967296 = addF a b := rfl

set_option maxHeartbeats 1000000 in
theorem walk (h u p : Int) (w : World) (ht : TabOk w) (hh : 0 ≤ h) (_hh2 : h < 4294967296) (hu1 : 0 ≤ u) (hu2 : u < 4294967296) (hp : 0 ≤ p) (hp2 : p < 4294967296) :
    Calls Tryd.prog 7 #[.int .u32 h, .int .u32 u, .int .u32 p] w fun e w' => e = .returned (.bool true) ∧ Below w.heap.size w w' := by
  have HT := Lib.hid ht
  clear ht
  by_cases hc : capP p = true
  · by_cases hu : p < u
    · have HU : Hid (p < usedF h (addF h u)) := by show _ < _; rw [used_add hu1 hu2]; exact hu
      have HC := Lib.hid hc
      clear hc
      go_enter Tryd.func7, Tryd.ntmps7
      go_wp2_with (go_at_call 16; refine (room_11 _ hp hp2 HC.out HU.out).mono ?_; rintro e w' ⟨rfl, rfl⟩)
      refine (awake_any _ HT.out).mono ?_
      rintro e w1 ⟨rfl, hB⟩
      have HB := Lib.hid hB
      have HT1 := Lib.hid (HT.out.below hB)
      clear hB
      go_wp2_with fail
      refine (awake_any _ HT1.out).mono ?_
      rintro e w2 ⟨rfl, hB⟩
      have HB2 := Lib.hid (HB.out.trans (hB.mono HB.out.size))
      clear hB
      go_wp2
      go_ret
      exact ⟨rfl, HB2.out⟩
    · have HU : Hid (¬ p < usedF h (addF h u)) := by show ¬ _ < _; rw [used_add hu1 hu2]; exact hu
      have HE := Lib.hid (used_add (h := h) hu1 hu2)
      have HC := Lib.hid hc
      have ⟨c1, c2⟩ := cap_bounds p hc
      have HS := Lib.hid (slot_add (h := h) hc)
      have hlt := slot_lt (h := h) hc
      clear hc
      go_enter Tryd.func7, Tryd.ntmps7
      go_wp2_with (go_at_call 16; refine (room_0 _ hp hp2 HC.out HU.out).mono ?_; rintro e w' ⟨rfl, rfl⟩; rw [HE.out])
      refine (awake_any _ HT.out).mono ?_
      rintro e w1 ⟨rfl, hB⟩
      have HB := Lib.hid hB
      have HT1 := Lib.hid (HT.out.below hB)
      clear hB
      go_wp2_with (first | (go_at_call 12; refine (used_any _ _ _).mono ?_; rintro e w' ⟨rfl, rfl⟩; rw [show usedF h ((h + u) % 4294967296) = u from HE.out]) | (go_at_call 18; first | (with_reducible refine (slot_0 _ hh hp hp2 HC.out).mono ?_; rintro e w' ⟨rfl, rfl⟩) | (refine (slot_0 (i := (h + p) % 4294967296) _ (by omega) hp hp2 HC.out).mono ?_; rintro e w' ⟨rfl, rfl⟩; rw [show slotV ((h + p) % 4294967296) p = slotV h p from HS.out])))
      go_ret
      exact ⟨ret_b (by simp), HB.out⟩
  · have hc' : capP p = false := by simpa using hc
    have HC := Lib.hid hc'
    clear hc hc'
    go_enter Tryd.func7, Tryd.ntmps7
    go_wp2_with (go_at_call 16; refine (room_10 _ hp hp2 HC.out).mono ?_; rintro e w' ⟨rfl, rfl⟩)
    refine (awake_any _ HT.out).mono ?_
    rintro e w1 ⟨rfl, hB⟩
    have HB := Lib.hid hB
    have HT1 := Lib.hid (HT.out.below hB)
    clear hB
    go_wp2_with fail
    refine (awake_any _ HT1.out).mono ?_
    rintro e w2 ⟨rfl, hB⟩
    have HB2 := Lib.hid (HB.out.trans (hB.mono HB.out.size))
    clear hB
    go_wp2
    go_ret
    exact ⟨rfl, HB2.out⟩
end countMakes

namespace countTurns
theorem bef_self (a : Int) : befB a a = false := by unfold befB; simp
theorem bef_add (a b c : Int) : befB ((a + c) % 4294967296) ((b + c) % 4294967296) = befB a b := by
  unfold befB
  have e : ((b + c) % 4294967296 - (a + c) % 4294967296) % 4294967296 = (b - a) % 4294967296 := by omega
  rw [e]
theorem bef_not {a b : Int} (h : befB a b = true) : befB b a = false := by
  unfold befB at *
  simp only [decide_eq_true_eq] at h
  simp only [decide_eq_false_iff_not]
  omega
theorem bef_none {a b : Int} (ha : 0 ≤ a) (ha2 : a < 4294967296) (hb : 0 ≤ b) (hb2 : b < 4294967296) (h : befB a b = false) (h2 : befB b a = false) : a = b ∨ (b - a) % 4294967296 = 2147483648 := by
  unfold befB at *
  simp only [decide_eq_false_iff_not] at h h2
  omega

/-- Before, with its answer named. -/
theorem before_is {a b : Int} {r : Bool} (w : World) (h : befB a b = r) :
    Calls Tryd.prog 14 #[.int .u32 a, .int .u32 b] w fun e w' => e = .returned (.bool r) ∧ w = w' :=
  (before_any a b w).mono fun _ _ ⟨he, hw⟩ => ⟨he.trans (ret_b h), hw⟩

set_option maxHeartbeats 1000000 in
theorem walk (a b c : Int) (w : World) (ht : TabOk w) (ha : 0 ≤ a) (ha2 : a < 4294967296) (hb : 0 ≤ b) (hb2 : b < 4294967296) (_hc : 0 ≤ c) (_hc2 : c < 4294967296) :
    Calls Tryd.prog 8 #[.int .u32 a, .int .u32 b, .int .u32 c] w fun e w' => e = .returned (.bool true) ∧ Below w.heap.size w w' := by
  have HT := Lib.hid ht
  clear ht
  have HA := Lib.hid (bef_self a)
  have HSS := Lib.hid (bef_add a b c)
  cases hx : befB a b
  · cases hy : befB b a
    · have HN := bef_none ha ha2 hb hb2 hx hy
      have HX := Lib.hid hx
      have HY := Lib.hid hy
      have HS : Hid (befB ((a + c) % 4294967296) ((b + c) % 4294967296) = false) := HSS.out.trans hx
      clear hx hy HSS
      by_cases hab : a = b
      · clear HN
        subst hab
        go_enter Tryd.func8, Tryd.ntmps8
        go_wp2_with (go_at_call 14; first | (with_reducible refine (before_is _ HX.out).mono ?_; rintro e w' ⟨rfl, rfl⟩) | (with_reducible refine (before_is _ HS.out).mono ?_; rintro e w' ⟨rfl, rfl⟩))
        refine (awake_any _ HT.out).mono ?_
        rintro e w1 ⟨rfl, hB⟩
        have HB := Lib.hid hB
        clear hB
        go_wp2_with (go_at_call 14; first | (with_reducible refine (before_is _ HX.out).mono ?_; rintro e w' ⟨rfl, rfl⟩) | (with_reducible refine (before_is _ HS.out).mono ?_; rintro e w' ⟨rfl, rfl⟩))
        go_ret
        exact ⟨ret_b (by simp), HB.out⟩
      · have h1 : (a == b) = false := by simpa using hab
        have h2 : ((b - a) % 4294967296 == 2147483648) = true := by
          rw [beq_iff_eq]
          rcases HN with h | h
          · exact absurd h hab
          · exact h
        clear HN hab
        go_enter Tryd.func8, Tryd.ntmps8
        go_wp2_with (go_at_call 14; first | (with_reducible refine (before_is _ HX.out).mono ?_; rintro e w' ⟨rfl, rfl⟩) | (with_reducible refine (before_is _ HY.out).mono ?_; rintro e w' ⟨rfl, rfl⟩))
        refine (awake_any _ HT.out).mono ?_
        rintro e w1 ⟨rfl, hB⟩
        have HB := Lib.hid hB
        clear hB
        go_wp2_with (go_at_call 14; first | (with_reducible refine (before_is _ HA.out).mono ?_; rintro e w' ⟨rfl, rfl⟩) | (with_reducible refine (before_is _ HS.out).mono ?_; rintro e w' ⟨rfl, rfl⟩))
        go_ret
        exact ⟨ret_b (by simp), HB.out⟩
    · have HX := Lib.hid hx
      have HY := Lib.hid hy
      have HS : Hid (befB ((a + c) % 4294967296) ((b + c) % 4294967296) = false) := HSS.out.trans hx
      clear hx hy HSS
      go_enter Tryd.func8, Tryd.ntmps8
      go_wp2_with (go_at_call 14; first | (with_reducible refine (before_is _ HX.out).mono ?_; rintro e w' ⟨rfl, rfl⟩) | (with_reducible refine (before_is _ HY.out).mono ?_; rintro e w' ⟨rfl, rfl⟩))
      refine (awake_any _ HT.out).mono ?_
      rintro e w1 ⟨rfl, hB⟩
      have HB := Lib.hid hB
      clear hB
      go_wp2_with (go_at_call 14; first | (with_reducible refine (before_is _ HA.out).mono ?_; rintro e w' ⟨rfl, rfl⟩) | (with_reducible refine (before_is _ HS.out).mono ?_; rintro e w' ⟨rfl, rfl⟩))
      go_ret
      exact ⟨ret_b (by simp), HB.out⟩
  · have HX := Lib.hid hx
    have HY := Lib.hid (bef_not hx)
    have HS : Hid (befB ((a + c) % 4294967296) ((b + c) % 4294967296) = true) := HSS.out.trans hx
    clear hx HSS
    go_enter Tryd.func8, Tryd.ntmps8
    go_wp2_with (go_at_call 14; first | (with_reducible refine (before_is _ HX.out).mono ?_; rintro e w' ⟨rfl, rfl⟩) | (with_reducible refine (before_is _ HY.out).mono ?_; rintro e w' ⟨rfl, rfl⟩))
    refine (awake_any _ HT.out).mono ?_
    rintro e w1 ⟨rfl, hB⟩
    have HB := Lib.hid hB
    clear hB
    go_wp2_with (go_at_call 14; first | (with_reducible refine (before_is _ HA.out).mono ?_; rintro e w' ⟨rfl, rfl⟩) | (with_reducible refine (before_is _ HS.out).mono ?_; rintro e w' ⟨rfl, rfl⟩))
    go_ret
    exact ⟨ret_b (by simp), HB.out⟩
end countTurns
end Go.Proofs.YtphdlplbcajemaaDoor
