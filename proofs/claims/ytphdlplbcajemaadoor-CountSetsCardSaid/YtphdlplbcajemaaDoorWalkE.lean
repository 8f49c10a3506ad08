/-
  The walk of CountSets: the reference's set of some numbers is the program's.
-/
import Derived.Test.YtphdlplbcajemaaDoorAwake
namespace Go.Proofs.YtphdlplbcajemaaDoor
open Go.RowKit

/-- The sum of the bits of the cores below k for which f holds. -/
def sumF (f : Nat → Bool) : Nat → Int
  | 0 => 0
  | k + 1 => if f k then sumF f k + bitF k else sumF f k
theorem sumF_yes {f : Nat → Bool} {k : Nat} (h : f k = true) : sumF f k + bitF k = sumF f (k + 1) := by simp [sumF, h]
theorem sumF_no {f : Nat → Bool} {k : Nat} (h : f k = false) : sumF f k = sumF f (k + 1) := by simp [sumF, h]
theorem bitF_succ (k : Nat) : bitF k + bitF k = bitF (k + 1) := by unfold bitF; rw [Nat.pow_succ]; omega
theorem bitF_pos (k : Nat) : 0 < bitF k := by unfold bitF; exact Int.natCast_pos.2 (Nat.pow_pos (by decide))
theorem bitF_le : ∀ k : Nat, k < 9 → bitF k ≤ 256 := by decide +kernel
theorem sumF_bounds (f : Nat → Bool) (k : Nat) : 0 ≤ sumF f k ∧ sumF f k < bitF k := by
  induction k with
  | zero => exact ⟨by simp [sumF], by simp [sumF, bitF]⟩
  | succ k ih =>
    have h := bitF_succ k
    have hp := bitF_pos k
    cases hb : f k
    · rw [← sumF_no hb]; omega
    · rw [← sumF_yes hb]; omega
theorem setF_sum (f : Nat → Bool) (k : Nat) (hk : k ≤ 8) : setF f k = sumF f k := by
  induction k with
  | zero => rfl
  | succ k ih =>
    have e := ih (by omega)
    have ⟨b0, b1⟩ := sumF_bounds f k
    cases hb : f k
    · rw [← sumF_no hb, ← setF_no hb, e]
    · rw [← sumF_yes hb, ← setF_yes hb, e]
      obtain ⟨x, hx⟩ := Int.eq_ofNat_of_zero_le b0
      rw [hx] at b1 ⊢
      unfold bitF at b1 ⊢
      have b2 : x < 2 ^ k := by exact_mod_cast b1
      have b3 : 2 ^ k < 256 := Nat.lt_of_lt_of_le (Nat.pow_lt_pow_right (by decide) (show k < 8 by omega)) (by decide)
      rw [u8_or_nat x (2 ^ k) (by omega) b3, Nat.or_comm, nat_join k (2 ^ k) x (by simp) b2]
      omega

/-- What the outer loop knows. -/
def SumRel (l : List Int) (c : Nat) (x y : Int) : Prop := x = sumF (fun k => inB l k) c ∧ y = bitF c
theorem sumRel_start (l : List Int) : SumRel l 0 0 1 := ⟨rfl, by decide⟩
theorem sumRel_bounds {l : List Int} {c : Nat} {x y : Int} (h : SumRel l c x y) (hc : c ≤ 8) : 0 ≤ x ∧ x ≤ 255 ∧ 1 ≤ y ∧ y ≤ 256 := by
  obtain ⟨rfl, rfl⟩ := h
  have := sumF_bounds (fun k => inB l k) c
  have := bitF_le c (by omega)
  have := bitF_pos c
  omega
theorem sumRel_yes {l : List Int} {c : Nat} {x y : Int} (h : SumRel l c x y) (hi : (c : Int) ∈ l) : SumRel l (c + 1) (x + y) (y + y) := by
  obtain ⟨rfl, rfl⟩ := h
  exact ⟨sumF_yes (by simpa [inB] using hi), bitF_succ c⟩
theorem sumRel_no {l : List Int} {c : Nat} {x y : Int} (h : SumRel l c x y) (hi : (c : Int) ∉ l) : SumRel l (c + 1) x (y + y) := by
  obtain ⟨rfl, rfl⟩ := h
  exact ⟨sumF_no (by simpa [inB] using hi), bitF_succ c⟩
theorem sumRel_end {l : List Int} {x y : Int} (h : SumRel l 8 x y) : x = setF (fun k => inB l k) 8 := by rw [h.1, setF_sum _ 8 (by omega)]

namespace countSets
set_option maxHeartbeats 1000000 in
theorem rof_some (b off cap : Nat) (l : List Int) (w : World) (hl : l.length ≤ 1000)
    (hc : ∀ i, i < l.length → w.cell? ⟨b, off + i, none⟩ = some (.int .i64 (l.getD i 0))) :
    Calls Tryd.prog 21 #[.slice (some ⟨b, off, none⟩) l.length cap] w fun e w' => e = .returned (.tuple #[.int .u8 (ofV l), .int .i64 (ofE l)]) ∧ w = w' := by
  have HC := Lib.hid hc
  clear hc
  generalize hn : l.length = n at *
  have HN := Lib.hid hn
  clear hn
  go_enter Tryd.func21, Tryd.ntmps21
  go_wp2
  go_loop [4, 5, 6] (fun t p i => ∃ (c : Nat) (x y : Int), c ≤ 8 ∧ SumRel l c x y ∧ i = .int .i64 c ∧ t = .int .i64 x ∧ p = .int .i64 y) (fun _ _ i => 8 - (intOf i).toNat)
  case atStart => exact ⟨0, 0, 1, by omega, sumRel_start l, rfl, rfl, rfl⟩
  case round =>
    obtain ⟨c, x, y, hcc, hS, rfl, rfl, rfl⟩ := hrel
    have ⟨x0, x1, y0, y1⟩ := sumRel_bounds hS hcc
    have HS := Lib.hid hS
    clear hS
    by_cases hlt : c < 8
    · go_wp2
      go_loop [4, 7] (fun t j => ∃ k : Nat, k ≤ n ∧ NotIn l c k ∧ j = .int .i64 k ∧ t = .int .i64 x) (fun _ j => n - (intOf j).toNat)
      case atStart => exact ⟨0, by omega, notIn_zero _ _, rfl, rfl⟩
      case round =>
        obtain ⟨k, hk, hno, rfl, rfl⟩ := hrel
        have HNo := Lib.hid hno
        clear hno
        by_cases hkn : k < n
        · have hck := HC.out k hkn
          generalize hy : l.getD k 0 = z at hck
          have HY := Lib.hid hy
          clear hy
          by_cases he : z = c
          · have hb : (z == (c : Int)) = true := by simpa using he
            have HE := Lib.hid he
            clear he
            go_wp2
            go_round
            case rel => exact ⟨c + 1, _, _, hlt, sumRel_yes HS.out (in_of_getD (by rw [HN.out]; exact hkn) (by rw [HY.out]; exact HE.out)), by go_num, rfl, rfl⟩
            case measure => simp [intOf]; omega
          · have hb : (z == (c : Int)) = false := by simpa using he
            have HE := Lib.hid he
            clear he
            go_wp2
            go_round
            case rel => exact ⟨k + 1, hkn, notIn_succ HNo.out (by rw [HY.out]; exact HE.out), by go_num, rfl⟩
            case measure => simp [intOf]; omega
        · have hkn' : k = n := by omega
          subst hkn'
          go_wp2
          go_round
          case rel =>
            have hno := HNo.out
            rw [← HN.out] at hno
            exact ⟨c + 1, _, _, hlt, sumRel_no HS.out (notIn_all hno), by go_num, rfl, rfl⟩
          case measure => simp [intOf]; omega
    · have h8 : c = 8 := by omega
      subst h8
      go_wp2
      go_loop [8] (fun i => ∃ k : Nat, k ≤ n ∧ CoresTo l k ∧ i = .int .i64 k) (fun i => n - (intOf i).toNat)
      case atStart => exact ⟨0, by omega, coresTo_zero _, rfl⟩
      case round =>
        obtain ⟨k, hk, hno, rfl⟩ := hrel
        have HNo := Lib.hid hno
        clear hno
        by_cases hkn : k < n
        · have hck := HC.out k hkn
          generalize hy : l.getD k 0 = z at hck
          have HY := Lib.hid hy
          clear hy
          by_cases h0 : z < 0
          · have HE : Hid (¬ (0 ≤ z ∧ z < 8)) := by show ¬ _; omega
            go_wp2
            go_ret2
            exact ⟨ret_si ⟨(of_no (coresTo_not (by rw [HN.out]; exact hkn) (by rw [HY.out]; exact HE.out))).1.symm, (of_no (coresTo_not (by rw [HN.out]; exact hkn) (by rw [HY.out]; exact HE.out))).2.symm⟩, rfl⟩
          · by_cases h7 : 7 < z
            · have HE : Hid (¬ (0 ≤ z ∧ z < 8)) := by show ¬ _; omega
              go_wp2
              go_ret2
              exact ⟨ret_si ⟨(of_no (coresTo_not (by rw [HN.out]; exact hkn) (by rw [HY.out]; exact HE.out))).1.symm, (of_no (coresTo_not (by rw [HN.out]; exact hkn) (by rw [HY.out]; exact HE.out))).2.symm⟩, rfl⟩
            · have HE : Hid (0 ≤ z ∧ z < 8) := by show _ ∧ _; omega
              go_wp2
              go_round
              case rel => exact ⟨k + 1, hkn, coresTo_succ HNo.out (by rw [HY.out]; exact HE.out), by go_num⟩
              case measure => simp [intOf]; omega
        · have hkn' : k = n := by omega
          subst hkn'
          have hno := HNo.out
          rw [← HN.out] at hno
          have HV := Lib.hid (of_yes (coresTo_all hno))
          clear hno
          go_wp2
          go_ret2
          exact ⟨ret_si ⟨by rw [HV.out.1]; exact sumRel_end HS.out, HV.out.2.symm⟩, rfl⟩

set_option maxHeartbeats 1000000 in
theorem rof_empty (a : Option Addr) (cap : Nat) (w : World) :
    Calls Tryd.prog 21 #[.slice a 0 cap] w fun e w' => e = .returned (.tuple #[.int .u8 (ofV []), .int .i64 (ofE [])]) ∧ w = w' := by
  go_enter Tryd.func21, Tryd.ntmps21
  go_wp2
  go_loop [4, 5, 6] (fun t p i => ∃ (c : Nat) (x y : Int), c ≤ 8 ∧ SumRel [] c x y ∧ i = .int .i64 c ∧ t = .int .i64 x ∧ p = .int .i64 y) (fun _ _ i => 8 - (intOf i).toNat)
  case atStart => exact ⟨0, 0, 1, by omega, sumRel_start [], rfl, rfl, rfl⟩
  case round =>
    obtain ⟨c, x, y, hcc, hS, rfl, rfl, rfl⟩ := hrel
    have ⟨x0, x1, y0, y1⟩ := sumRel_bounds hS hcc
    have HS := Lib.hid hS
    clear hS
    by_cases hlt : c < 8
    · go_wp2
      refine wp_loop_rounds 1 ?_
      rw [rounds_succ]
      go_wp2
      go_round
      case rel => exact ⟨c + 1, _, _, hlt, sumRel_no HS.out (by simp), by go_num, rfl, rfl⟩
      case measure => simp [intOf]; omega
    · have h8 : c = 8 := by omega
      subst h8
      go_wp2
      refine wp_loop_rounds 1 ?_
      rw [rounds_succ]
      go_wp2
      go_ret2
      exact ⟨ret_si ⟨by rw [(of_yes (l := []) rfl).1]; exact sumRel_end HS.out, (of_yes (l := []) rfl).2.symm⟩, rfl⟩

theorem rof_any (v : Value) (l : List Int) (w : World) (hl : l.length ≤ 1000) (h : Sl w v l) :
    Calls Tryd.prog 21 #[v] w fun e w' => e = .returned (.tuple #[.int .u8 (ofV l), .int .i64 (ofE l)]) ∧ w = w' := by
  obtain ⟨_, ⟨rfl, rfl⟩ | ⟨b, off, cap, rfl, hc⟩⟩ := h
  · exact rof_empty none 0 w
  · exact rof_some b off cap l w hl hc

set_option maxHeartbeats 1000000 in
theorem walk_long (a : Option Addr) (n cap : Nat) (w : World) (ht : TabOk w) (hn : 1000 < n) (hn2 : n ≤ 9223372036854775807) :
    Calls Tryd.prog 5 #[.slice a n cap] w fun e w' => e = .returned (.bool true) ∧ Below w.heap.size w w' := by
  have HT := Lib.hid ht
  clear ht
  go_enter Tryd.func5, Tryd.ntmps5
  go_wp2_with fail
  refine (awake_any _ HT.out).mono ?_
  rintro e w2 ⟨rfl, hB⟩
  have HB2 := Lib.hid hB
  clear hB
  go_wp2
  go_ret
  exact ⟨rfl, HB2.out⟩

set_option maxHeartbeats 1000000 in
theorem walk_some (b off cap : Nat) (l : List Int) (w : World) (ht : TabOk w) (hl : l.length ≤ 1000)
    (hc : ∀ i, i < l.length → w.cell? ⟨b, off + i, none⟩ = some (.int .i64 (l.getD i 0))) :
    Calls Tryd.prog 5 #[.slice (some ⟨b, off, none⟩) l.length cap] w fun e w' => e = .returned (.bool true) ∧ Below w.heap.size w w' := by
  obtain ⟨i0, hi, hz0, hz1, hz2⟩ := info_parts info3
  have HS : Hid (Sl w (.slice (some ⟨b, off, none⟩) l.length cap) l) := ⟨by omega, .inr ⟨b, off, cap, rfl, hc⟩⟩
  have hown := ownL_lit w
  have HB : Hid (Below w.heap.size w (w.alloc (.cells #[] 3))) := (Below.refl _ _).alloc (Nat.le_refl _) _
  have HC := Lib.hid hc
  have HT := Lib.hid ht
  clear ht hc
  go_enter Tryd.func5, Tryd.ntmps5
  go_wp2_with (at_builtin; refine wpList_append_own _ rfl _ _ 31 rfl w.heap.size 3 i0 (.int .i64 0) 1 8 Tryd.underlying31 hi hz0 hz1 hz2 rfl (by decide) _ _ _ rfl hown ⟨b, off, none⟩ l.length cap (l.map (Value.int .i64)) rfl (by simp) ?c1 ?c2 ?c3 ?c4 ?c5 ?_)
  case c1 =>
    intro j u hj
    have hj' : j < l.length := by
      by_cases h : j < l.length
      · exact h
      · simp [List.getElem?_eq_none (show l.length ≤ j by omega)] at hj
    have hk := HC.out j hj'
    simp [hj'] at hj
    have ea : (⟨b, off, none⟩ : Addr).add j = ⟨b, off + j, none⟩ := by
      unfold Addr.add
      split <;> simp_all
    rw [ea, World.cell?_alloc_past _ _ _ (lt_of_cell hk), hk, ← hj]
    simp [List.getD, hj']
  case c2 => intro u hu; simp at hu; obtain ⟨x, _, rfl⟩ := hu; rfl
  case c3 => unfold maxLen; simp; omega
  case c4 => simp; omega
  case c5 => simp
  intro v' w1 hown' hgrow _
  have HO : Hid (OwnL w1 w.heap.size v' l) := by
    show w1.ownsRow _ _ _ _ _ _
    simpa using hown'
  have HB1 := Lib.hid (HB.out.grown hgrow (by simp) (fun k hk => by have := (World.ownsRow.lt hown k hk).1; omega))
  have HT1 := Lib.hid (HT.out.below HB1.out)
  have HS1 := Lib.hid (HS.out.below HB1.out)
  clear hown' hgrow HB HC
  go_wp2_with fail
  refine (of_any _ _ _ (HO.out.sl (by omega)) HT1.out).mono ?_
  rintro e w2 ⟨rfl, hB⟩
  have HB2 := Lib.hid (HB1.out.trans (hB.mono HB1.out.size))
  have HT2 := Lib.hid (HT1.out.below hB)
  have HS2 := Lib.hid (HS1.out.below hB)
  clear hB HB1 HT1 HS1 HO
  go_wp2_with (go_at_call 21; refine (rof_any _ _ _ hl HS2.out).mono ?_; rintro e w' ⟨rfl, rfl⟩)
  refine (awake_any _ HT2.out).mono ?_
  rintro e w3 ⟨rfl, hB⟩
  have HB3 := Lib.hid (HB2.out.trans (hB.mono HB2.out.size))
  clear hB HB2
  go_wp2
  go_ret
  exact ⟨ret_b (by simp), HB3.out⟩

set_option maxHeartbeats 1000000 in
theorem walk_nil (w : World) (ht : TabOk w) :
    Calls Tryd.prog 5 #[.slice none 0 0] w fun e w' => e = .returned (.bool true) ∧ Below w.heap.size w w' := by
  have hown := ownL_lit w
  have hB0 : Below w.heap.size w (w.alloc (.cells #[] 3)) := (Below.refl _ _).alloc (Nat.le_refl _) _
  have HB := Lib.hid hB0
  have HT := Lib.hid (ht.below hB0)
  have HO := Lib.hid hown
  clear ht hB0
  go_enter Tryd.func5, Tryd.ntmps5
  clear hown
  go_wp2_with fail
  refine (of_any _ _ _ (HO.out.sl (by simp)) HT.out).mono ?_
  rintro e w2 ⟨rfl, hB⟩
  have HB2 := Lib.hid (HB.out.trans (hB.mono HB.out.size))
  have HT2 := Lib.hid (HT.out.below hB)
  clear hB HB HT HO
  go_wp2_with (go_at_call 21; refine (rof_empty none 0 _).mono ?_; rintro e w' ⟨rfl, rfl⟩)
  refine (awake_any _ HT2.out).mono ?_
  rintro e w3 ⟨rfl, hB⟩
  have HB3 := Lib.hid (HB2.out.trans (hB.mono HB2.out.size))
  clear hB HB2
  go_wp2
  go_ret
  exact ⟨ret_b (by simp), HB3.out⟩

set_option maxHeartbeats 1000000 in
theorem walk_zero (a : Addr) (cap : Nat) (w : World) (ht : TabOk w) :
    Calls Tryd.prog 5 #[.slice (some a) 0 cap] w fun e w' => e = .returned (.bool true) ∧ Below w.heap.size w w' := by
  obtain ⟨i0, hi, hz0, hz1, hz2⟩ := info_parts info3
  have hown := ownL_lit w
  have HB : Hid (Below w.heap.size w (w.alloc (.cells #[] 3))) := (Below.refl _ _).alloc (Nat.le_refl _) _
  have HT := Lib.hid ht
  clear ht
  go_enter Tryd.func5, Tryd.ntmps5
  go_wp2_with (at_builtin; refine wpList_append_own _ rfl _ _ 31 rfl w.heap.size 3 i0 (.int .i64 0) 1 8 Tryd.underlying31 hi hz0 hz1 hz2 rfl (by decide) _ _ _ rfl hown a 0 cap [] rfl rfl ?c1 ?c2 ?c3 ?c4 ?c5 ?_)
  case c1 =>
    intro j u hj
    simp at hj
  case c2 => intro u hu; simp at hu
  case c3 => unfold maxLen; simp
  case c4 => simp
  case c5 => simp
  intro v' w1 hown' hgrow _
  have HO : Hid (OwnL w1 w.heap.size v' []) := by
    show w1.ownsRow _ _ _ _ _ _
    simpa using hown'
  have HB1 := Lib.hid (HB.out.grown hgrow (by simp) (fun k hk => by have := (World.ownsRow.lt hown k hk).1; omega))
  have HT1 := Lib.hid (HT.out.below HB1.out)
  clear hown' hgrow HB
  go_wp2_with fail
  refine (of_any _ _ _ (HO.out.sl (by simp)) HT1.out).mono ?_
  rintro e w2 ⟨rfl, hB⟩
  have HB2 := Lib.hid (HB1.out.trans (hB.mono HB1.out.size))
  have HT2 := Lib.hid (HT1.out.below hB)
  clear hB HB1 HT1 HO
  go_wp2_with (go_at_call 21; refine (rof_empty (some a) cap _).mono ?_; rintro e w' ⟨rfl, rfl⟩)
  refine (awake_any _ HT2.out).mono ?_
  rintro e w3 ⟨rfl, hB⟩
  have HB3 := Lib.hid (HB2.out.trans (hB.mono HB2.out.size))
  clear hB HB2
  go_wp2
  go_ret
  exact ⟨ret_b (by simp), HB3.out⟩

theorem walk (v : Value) (l : List Int) (w : World) (ht : TabOk w) (h : Sl w v l) :
    Calls Tryd.prog 5 #[v] w fun e w' => e = .returned (.bool true) ∧ Below w.heap.size w w' := by
  obtain ⟨hm, ⟨rfl, rfl⟩ | ⟨b, off, cap, rfl, hc⟩⟩ := h
  · exact walk_nil w ht
  · by_cases hl : l.length ≤ 1000
    · exact walk_some b off cap l w ht hl hc
    · exact walk_long _ l.length cap w ht (by omega) hm
end countSets
end Go.Proofs.YtphdlplbcajemaaDoor
