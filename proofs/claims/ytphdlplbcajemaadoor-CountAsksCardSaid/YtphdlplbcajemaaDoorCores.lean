/-
  Cores lists what a set holds, rising, in memory of its own; the reference's list is the same.
-/
import Derived.Test.YtphdlplbcajemaaDoorHas
import Derived.RegionTactic
import Derived.BigQuiet
import Derived.Deep.QuietTactic
namespace Go.Proofs.YtphdlplbcajemaaDoor
open Go.RowKit

/-- A slice of integers in memory of the call's own, from block base on. -/
def OwnL (w : World) (base : Nat) (v : Value) (l : List Int) : Prop := w.ownsRow base 3 1 v l.length (l.map (Value.int .i64))
theorem OwnL.sl {w : World} {base : Nat} {v : Value} {l : List Int} (h : OwnL w base v l) (hl : l.length ≤ 9223372036854775807) : Sl w v l := by
  refine ⟨hl, ?_⟩
  have h0 : w.ownsRow base 3 1 v l.length (l.map (Value.int .i64)) := h
  obtain ⟨_, ⟨hv, hn⟩ | ⟨g, cap, cur, hv, _, _, _, _, _, _⟩⟩ := h
  · exact .inl ⟨List.length_eq_zero_iff.1 hn, hv⟩
  · subst hv
    refine .inr ⟨g, 0, cap, rfl, fun i hi => ?_⟩
    rw [show 0 + i = i by omega, h0.cellAt i (by omega)]
    simp [List.getD, hi]
theorem OwnL.snoc {w : World} {base : Nat} {v : Value} {l : List Int} {x : Int} (h : w.ownsRow base 3 1 v (l.length + 1) (l.map (Value.int .i64) ++ [.int .i64 x])) : OwnL w base v (l ++ [x]) := by
  unfold OwnL
  simpa using h
theorem ownL_nil (w : World) (base : Nat) : OwnL w base (.slice none 0 0) [] := World.ownsRow_nil _ _ _ _

theorem info3 : (Tryd.prog.info? 3).map (fun i => (i.zero, i.size, i.bytes)) = some (some (.int .i64 0), 1, 8) := by kernel_rfl

/-- What a round of Cores knows. -/
def CoresRel (f : Nat → Bool) (w : World) (k : Nat) (v : Value) (wr : World) : Prop := k ≤ 8 ∧ OwnL wr w.heap.size v (coresL f k) ∧ Below w.heap.size w wr

set_option maxHeartbeats 400000 in
theorem cores_any (s : Int) (w : World) (ht : TabOk w) :
    Calls Tryd.prog 27 #[.int .u8 s] w fun e w' => ∃ v, e = .returned v ∧ OwnL w' w.heap.size v (coresL (hasB s) 8) ∧ Below w.heap.size w w' := by
  obtain ⟨i0, hi, hz0, hz1, hz2⟩ := info_parts info3
  have HT := Lib.hid ht
  clear ht
  go_enter Tryd.func27, Tryd.ntmps27
  go_wp2
  go_loopw [3, 5] (fun v i wr => ∃ k : Nat, CoresRel (hasB s) w k v wr ∧ i = .int .i64 k) (fun _ i _ => 8 - (intOf i).toNat)
  case atStart => exact ⟨0, ⟨by omega, ownL_nil _ _, Below.refl _ _⟩, rfl⟩
  case round =>
    obtain ⟨k, ⟨hk, hown0, hB0⟩, rfl⟩ := hrel
    have HB := Lib.hid hB0
    have HO := Lib.hid hown0
    clear hB0 hown0
    by_cases hlt : k < 8
    · have hck := (HT.out.below HB.out) k hlt
      cases hb : hasB s k
      · have HBk := Lib.hid hb
        clear hb
        go_wp2_with (go_at_call 24; refine (has_in _ _ _ hlt hck).mono ?_; rintro e w' ⟨rfl, rfl⟩; simp only [HBk.out])
        go_roundw
        case rel => exact ⟨k + 1, ⟨hlt, by rw [coresL_no HBk.out]; exact HO.out, HB.out⟩, by go_num⟩
        case measure => simp [intOf]; omega
      · have HBk := Lib.hid hb
        clear hb
        have hlen := coresL_length (hasB s) k
        have hown : wr.ownsRow w.heap.size 3 1 _ _ _ := HO.out
        have hsz := HB.out.size
        go_wp2_with (first | (go_at_call 24; refine (has_in _ _ _ hlt hck).mono ?_; rintro e w' ⟨rfl, rfl⟩; simp only [HBk.out]) | (at_builtin; refine wpList_append_own _ rfl _ _ 31 rfl w.heap.size 3 i0 (.int .i64 0) 1 8 Tryd.underlying31 hi hz0 hz1 hz2 rfl (by decide) _ _ _ rfl (hown.alloc _) ⟨wr.heap.size, 0, none⟩ 1 1 [.int .i64 (k : Int)] rfl rfl ?c1 ?c2 ?c3 ?c4 ?c5 ?_))
        case c1 =>
          intro j u hj
          match j, hj with
          | 0, hj => simp at hj; subst hj; simp [Addr.add]
        case c2 => intro u hu; simp at hu; subst hu; rfl
        case c3 => unfold maxLen; omega
        case c4 => omega
        case c5 => simp; omega
        intro v' w1 hown' hgrow _
        have HO' := Lib.hid (OwnL.snoc hown')
        have HB' := Lib.hid ((HB.out.alloc hsz _).grown hgrow (by simp; omega) (fun k hk => (hown.lt k hk).1))
        clear hown' hgrow hown
        go_wp2
        go_roundw
        case rel => exact ⟨k + 1, ⟨hlt, by rw [coresL_yes HBk.out]; exact HO'.out, HB'.out⟩, by go_num⟩
        case measure => simp [intOf]; omega
    · have hk8 : k = 8 := by omega
      subst hk8
      go_wp2
      go_ret
      exact ⟨_, rfl, HO.out, HB.out⟩

theorem ownL_lit (w : World) : OwnL (w.alloc (.cells #[] 3)) w.heap.size (.slice (some ⟨w.heap.size, 0, none⟩) 0 0) [] :=
  World.ownsRow_lit w #[] 0 (Nat.le_refl _) (by decide) rfl

set_option maxHeartbeats 400000 in
theorem rcores_any (s : Int) (w : World) (h0 : 0 ≤ s) (h1 : s < 256) :
    Calls Tryd.prog 23 #[.int .u8 s] w fun e w' => ∃ v, e = .returned v ∧ OwnL w' w.heap.size v (coresL (hasB s) 8) ∧ Below w.heap.size w w' := by
  obtain ⟨i0, hi, hz0, hz1, hz2⟩ := info_parts info3
  go_enter Tryd.func23, Tryd.ntmps23
  go_wp2
  go_loopw [3, 4] (fun v i wr => ∃ k : Nat, CoresRel (hasB s) w k v wr ∧ i = .int .i64 k) (fun _ i _ => 8 - (intOf i).toNat)
  case atStart => exact ⟨0, ⟨by omega, ownL_lit _, (Below.refl _ _).alloc (Nat.le_refl _) _⟩, rfl⟩
  case round =>
    obtain ⟨k, ⟨hk, hown0, hB0⟩, rfl⟩ := hrel
    have HB := Lib.hid hB0
    have HO := Lib.hid hown0
    clear hB0 hown0
    by_cases hlt : k < 8
    · cases hb : hasB s k
      · have HBk := Lib.hid hb
        clear hb
        go_wp2_with (go_at_call 25; refine (rhas_any _ _ _ h0 h1).mono ?_; rintro e w' ⟨rfl, rfl⟩; simp only [rhasB_in hlt, HBk.out])
        go_roundw
        case rel => exact ⟨k + 1, ⟨hlt, by rw [coresL_no HBk.out]; exact HO.out, HB.out⟩, by go_num⟩
        case measure => simp [intOf]; omega
      · have HBk := Lib.hid hb
        clear hb
        have hlen := coresL_length (hasB s) k
        have hown : wr.ownsRow w.heap.size 3 1 _ _ _ := HO.out
        have hsz := HB.out.size
        go_wp2_with (first | (go_at_call 25; refine (rhas_any _ _ _ h0 h1).mono ?_; rintro e w' ⟨rfl, rfl⟩; simp only [rhasB_in hlt, HBk.out]) | (at_builtin; refine wpList_append_own _ rfl _ _ 31 rfl w.heap.size 3 i0 (.int .i64 0) 1 8 Tryd.underlying31 hi hz0 hz1 hz2 rfl (by decide) _ _ _ rfl (hown.alloc _) ⟨wr.heap.size, 0, none⟩ 1 1 [.int .i64 (k : Int)] rfl rfl ?c1 ?c2 ?c3 ?c4 ?c5 ?_))
        case c1 =>
          intro j u hj
          match j, hj with
          | 0, hj => simp at hj; subst hj; simp [Addr.add]
        case c2 => intro u hu; simp at hu; subst hu; rfl
        case c3 => unfold maxLen; omega
        case c4 => omega
        case c5 => simp; omega
        intro v' w1 hown' hgrow _
        have HO' := Lib.hid (OwnL.snoc hown')
        have HB' := Lib.hid ((HB.out.alloc hsz _).grown hgrow (by simp; omega) (fun k hk => (hown.lt k hk).1))
        clear hown' hgrow hown
        go_wp2
        go_roundw
        case rel => exact ⟨k + 1, ⟨hlt, by rw [coresL_yes HBk.out]; exact HO'.out, HB'.out⟩, by go_num⟩
        case measure => simp [intOf]; omega
    · have hk8 : k = 8 := by omega
      subst hk8
      go_wp2
      go_ret
      exact ⟨_, rfl, HO.out, HB.out⟩

set_option maxHeartbeats 400000 in
theorem same_empty (a1 a2 : Option Addr) (c1 c2 : Nat) (w : World) :
    Calls Tryd.prog 26 #[.slice a1 0 c1, .slice a2 0 c2] w fun e w' => e = .returned (.bool true) ∧ Below w.heap.size w w' := by
  go_enter Tryd.func26, Tryd.ntmps26
  go_wp2
  refine wp_loop_rounds 1 ?_
  rw [rounds_succ]
  go_wp2
  go_ret
  exact ⟨rfl, Below.refl _ _⟩

set_option maxHeartbeats 400000 in
theorem same_some (b1 o1 c1 b2 o2 c2 : Nat) (l : List Int) (w : World) (hl : l.length ≤ 9223372036854775807)
    (hc1 : ∀ i, i < l.length → w.cell? ⟨b1, o1 + i, none⟩ = some (.int .i64 (l.getD i 0)))
    (hc2 : ∀ i, i < l.length → w.cell? ⟨b2, o2 + i, none⟩ = some (.int .i64 (l.getD i 0))) :
    Calls Tryd.prog 26 #[.slice (some ⟨b1, o1, none⟩) l.length c1, .slice (some ⟨b2, o2, none⟩) l.length c2] w fun e w' => e = .returned (.bool true) ∧ Below w.heap.size w w' := by
  have H1 := Lib.hid hc1
  have H2 := Lib.hid hc2
  clear hc1 hc2
  generalize hn : l.length = n at *
  clear hn
  go_enter Tryd.func26, Tryd.ntmps26
  go_wp2
  go_loopw [5] (fun i wr => ∃ k : Nat, k ≤ n ∧ Below w.heap.size w wr ∧ i = .int .i64 k) (fun i _ => n - (intOf i).toNat)
  case atStart => exact ⟨0, by omega, Below.refl _ _, rfl⟩
  case round =>
    obtain ⟨k, hk, hB0, rfl⟩ := hrel
    have HB := Lib.hid hB0
    clear hB0
    by_cases hlt : k < n
    · have hk1 : wr.cell? ⟨b1, o1 + k, none⟩ = some (.int .i64 (l.getD k 0)) := by
        rw [HB.out.cell (p := ⟨b1, o1 + k, none⟩) (lt_of_cell (H1.out k hlt))]; exact H1.out k hlt
      have hk2 : wr.cell? ⟨b2, o2 + k, none⟩ = some (.int .i64 (l.getD k 0)) := by
        rw [HB.out.cell (p := ⟨b2, o2 + k, none⟩) (lt_of_cell (H2.out k hlt))]; exact H2.out k hlt
      generalize l.getD k 0 = y at hk1 hk2
      go_wp2
      go_quiet (fail)
      go_wp2
      go_roundw
      case rel => exact ⟨k + 1, hlt, below_drewN HB.out _, by go_num⟩
      case measure => simp [intOf]; omega
    · go_wp2
      go_ret
      exact ⟨rfl, HB.out⟩

theorem same_any (v1 v2 : Value) (l : List Int) (w : World) (h1 : Sl w v1 l) (h2 : Sl w v2 l) :
    Calls Tryd.prog 26 #[v1, v2] w fun e w' => e = .returned (.bool true) ∧ Below w.heap.size w w' := by
  obtain ⟨hl, h1⟩ := h1
  obtain ⟨_, h2⟩ := h2
  cases l with
  | nil =>
    have e1 : ∃ a c, v1 = .slice a 0 c := by
      rcases h1 with ⟨_, h⟩ | ⟨b, o, c, h, _⟩
      · exact ⟨_, _, h⟩
      · exact ⟨_, _, h⟩
    have e2 : ∃ a c, v2 = .slice a 0 c := by
      rcases h2 with ⟨_, h⟩ | ⟨b, o, c, h, _⟩
      · exact ⟨_, _, h⟩
      · exact ⟨_, _, h⟩
    obtain ⟨a1, c1, rfl⟩ := e1
    obtain ⟨a2, c2, rfl⟩ := e2
    exact same_empty a1 a2 c1 c2 w
  | cons x l =>
    rcases h1 with ⟨h, _⟩ | ⟨b1, o1, c1, rfl, hc1⟩
    · cases h
    rcases h2 with ⟨h, _⟩ | ⟨b2, o2, c2, rfl, hc2⟩
    · cases h
    exact same_some b1 o1 c1 b2 o2 c2 (x :: l) w hl hc1 hc2
end Go.Proofs.YtphdlplbcajemaaDoor
