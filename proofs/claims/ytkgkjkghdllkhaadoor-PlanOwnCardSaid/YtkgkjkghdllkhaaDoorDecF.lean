/-
  Lists of partitions, and a plan, as the reader of plans reads them.
-/
import Derived.Test.YtkgkjkghdllkhaaDoorDecE
namespace Go.Proofs.YtkgkjkghdllkhaaDoor
open Go.RowKit

theorem info56_part : (Tryd.prog.info? 56).map (fun i => (i.zero, i.size, i.bytes)) = some (some (.agg #[.slice none 0 0, .int .u8 0, .slice none 0 0, .int .u8 0, .int .u8 0, .int .u8 0]), 6, 64) := by kernel_rfl
set_option maxHeartbeats 1000000 in
set_option maxRecDepth 100000 in
theorem growZ_part (n : Nat) (w : World) (h0 : 0 < n) (hn : n ≤ 100000) :
    Calls Tryd.prog 83 #[.slice none 0 0, .int .i64 n] w fun e w' => e = .returned (.slice (some ⟨w.heap.size, 0, none⟩) 0 (grownCap w n 0 56)) ∧
      ∃ cur : Array Value, w' = w.drew.alloc (.cells cur 56) ∧ cur.size = grownCap w n 0 56 * 6 := by
  obtain ⟨i0, hi, hz0, hz1, hz2⟩ := info_parts info56_part
  have hold : (Builtin.firstCells i0.size 0 (.slice none 0 0)).run Tryd.prog w.drew = .ok ([] : List Value).toArray w.drew := run_firstCells_none w.drew i0.size 0 0 0
  have hfit : Builtin.nextslicecap (0 + n) 0 * i0.bytes ≤ 281474976710656 := growslice_fits (by omega) (by rw [hz2]; omega)
  have hG : n ≤ grownCap w n 0 56 := grownCap_ge w _ _ _
  have hrz : ∀ ty, (Builtin.append_ #[24, 3] ty #[.slice none 0 0, .int .i64 (n : Int)]).run Tryd.prog w =
      .ok (.slice (some ⟨w.heap.size, 0, none⟩) n (grownCap w n 0 56)) (w.drew.alloc (.cells (#[] ++ Builtin.zeroCells (Value.cells (.agg #[.slice none 0 0, .int .u8 0, .slice none 0 0, .int .u8 0, .int .u8 0, .int .u8 0])) n ++ Builtin.zeroCells (Value.cells (.agg #[.slice none 0 0, .int .u8 0, .slice none 0 0, .int .u8 0, .int .u8 0, .int .u8 0])) (grownCap w n 0 56 - n)) 56)) := fun ty => by
    have h := Lib.run_append_grow_zeros w 24 3 ty 56 i0 (.agg #[.slice none 0 0, .int .u8 0, .slice none 0 0, .int .u8 0, .int .u8 0, .int .u8 0]) .i64 .i64 Tryd.underlying24 Tryd.underlying3 hi hz0 none 0 0 [] hold n (by omega) (by omega) (by omega) (by omega) (by rw [hz2]; omega) hfit
    simp only [Nat.zero_add] at h
    exact h
  obtain ⟨cur, hcur⟩ : ∃ cur, cur = (#[] ++ Builtin.zeroCells (Value.cells (.agg #[.slice none 0 0, .int .u8 0, .slice none 0 0, .int .u8 0, .int .u8 0, .int .u8 0])) n ++ Builtin.zeroCells (Value.cells (.agg #[.slice none 0 0, .int .u8 0, .slice none 0 0, .int .u8 0, .int .u8 0, .int .u8 0])) (grownCap w n 0 56 - n)) := ⟨_, rfl⟩
  have hsz : cur.size = grownCap w n 0 56 * 6 := by
    rw [hcur, Array.size_append, Array.size_append, size_zeroCells, size_zeroCells, show (Value.cells (.agg #[.slice none 0 0, .int .u8 0, .slice none 0 0, .int .u8 0, .int .u8 0, .int .u8 0])).size = 6 from rfl]
    show 0 + n * 6 + (grownCap w n 0 56 - n) * 6 = _
    omega
  rw [← hcur] at hrz
  clear hcur hold hfit
  have hG63 : grownCap w n 0 56 ≤ 9223372036854775807 := by
    have := grownCap_le_maxLen w n 0 56 (by unfold maxLen; omega)
    unfold maxLen at this
    omega
  generalize grownCap w n 0 56 = G at *
  have HS := Lib.hid hsz
  clear hsz
  go_enter Tryd.func83, Tryd.ntmps83
  go_wp2_with (at_builtin; refine Lib.wpList_append_run _ rfl _ _ _ _ rfl _ _ rfl rfl _ _ (hrz _) ?_)
  all_goals (go_ret; exact ⟨rfl, _, rfl, HS.out⟩)
set_option maxHeartbeats 1000000 in
set_option maxRecDepth 100000 in
theorem grow_part (n : Nat) (w : World) (hn : n ≤ 100000) :
    Calls Tryd.prog 83 #[.slice none 0 0, .int .i64 n] w fun e w' => ∃ v, e = .returned v ∧ w'.ownsRow w.heap.size 56 6 v 0 [] ∧ Below w.heap.size w w' := by
  by_cases h0 : 0 < n
  · exact (growZ_part n w h0 hn).mono fun _ _ ⟨he, cur, hw, hc⟩ => by
      subst hw
      refine ⟨_, he, World.ownsRow_made w.drew cur _ (Nat.le_refl _) ?_ hc, ((Below.refl _ _).drew).alloc (Nat.le_refl _) _⟩
      exact grownCap_le_maxLen w n 0 56 (by unfold maxLen; omega)
  · obtain rfl : n = 0 := by omega
    go_enter Tryd.func83, Tryd.ntmps83
    go_wp2
    go_ret
    exact ⟨_, rfl, World.ownsRow_nil _ _ _ _, Below.refl _ _⟩

section
variable {w : World} {g b cap : Nat} {s : ByteArray} {σ : St}
def Rel_part (w : World) (g b cap : Nat) (s : ByteArray) (σ : St) (m : Nat) (v i : Value) (wr : World) : Prop :=
  ∃ k : Nat, k ≤ m ∧ i = .int .i64 k ∧ OwnP wr w.heap.size v (rep (dPart s) k σ).1 ∧ RdS wr g b cap s (rep (dPart s) k σ).2 ∧ w.grownBy wr (some g)
theorem OwnP.push {w2 w3 : World} {base k : Nat} {u v3 : Value} {ps : List PartA} {q : PartA} {vs : List (Value × Value)} {x : Value × Value} (hl : vs.length = ps.length) (hk : ps.length = k)
    (hin : ∀ i, i < ps.length → Own_sem w2 base (vs.getD i (.nilIface, .nilIface)).1 (ps.getD i dQ).1 ∧ Own_byt w2 base (vs.getD i (.nilIface, .nilIface)).2 (ps.getD i dQ).2.2.1)
    (h2 : Own_sem w2 base x.1 q.1) (h2' : Own_byt w2 base x.2 q.2.2.1) (hu : w2.ownsRow base 56 6 u k ((vs.zip ps).flatMap pcell)) (hG : w2.grownBy w3 u.ownBlock)
    (h3 : w3.ownsRow base 56 6 v3 (k + 1) ((vs.zip ps).flatMap pcell ++ pcell (x, q))) : OwnP w3 base v3 (ps ++ [q]) := by
  refine ⟨vs ++ [x], by simp [hl], ?_, fun i hi => ?_⟩
  · rw [List.length_append, hk, List.zip_append hl, List.flatMap_append]
    simpa using h3
  rcases Nat.lt_or_ge i ps.length with h | h
  · rw [getD_left (by omega), getD_left h]
    exact ⟨own_other (hin i h).1 hu (by decide) hG, own_other (hin i h).2 hu (by decide) hG⟩
  · have hi' : i = ps.length := by simp at hi; omega
    subst hi'
    rw [getD_last, ← hl, getD_last]
    exact ⟨own_other h2 hu (by decide) hG, own_other h2' hu (by decide) hG⟩

set_option maxHeartbeats 4000000 in
set_option maxRecDepth 100000 in
theorem list_part (n : Int) (hn0 : 0 ≤ n) (hn : n ≤ 65535) (h : RdS w g b cap s σ) :
    Calls Tryd.prog 64 #[.int .i64 n, .func (.func 65) #[.agg #[gp g]] #[]] w fun e w' => ∃ v, e = .returned v ∧ OwnP w' w.heap.size v (rep (dPart s) n.toNat σ).1 ∧ RdS w' g b cap s (rep (dPart s) n.toNat σ).2 ∧ w.grownBy w' (some g) := by
  obtain ⟨m, rfl⟩ : ∃ m : Nat, n = m := ⟨n.toNat, by omega⟩
  simp only [Int.toNat_natCast]
  obtain ⟨i0, hi, hz0, hz1, hz2⟩ := info_parts info56_part
  have hg := h.glt
  have HR := Lib.hid h
  have HGR := Lib.hid (grow_part m w (by omega))
  clear h
  go_enter Tryd.func64, Tryd.ntmps64
  go_wp2_with fail
  refine HGR.out.mono ?_
  rintro e w1 ⟨v1, rfl, hO1, hB1⟩
  have HO1 := Lib.hid hO1
  have HB1 := Lib.hid hB1
  clear hO1 hB1 HGR
  go_wp2_with fail
  go_loopw [5, 9] (fun v i wr => Rel_part w g b cap s σ m v i wr) (fun _ i _ => m - (intOf i).toNat)
  case atStart => exact ⟨0, Nat.zero_le _, rfl, ⟨[], rfl, HO1.out, fun i hi => by simp [rep] at hi⟩, HR.out.below HB1.out, only_below HB1.out _⟩
  case round =>
    obtain ⟨k, hk, rfl, hO, hR, hG⟩ := hrel
    have hs := hG.size
    have hlen := rep_length (dPart s) k σ
    have HL := Lib.hid hlen
    have HG := Lib.hid hG
    have HOC := Lib.hid hO
    have HR' := Lib.hid hR
    by_cases hlt : k < m
    · obtain ⟨vs, q1, q2, q3⟩ := hO
      rw [hlen] at q2
      have Q1 := Lib.hid q1
      have HO := Lib.hid q2
      have Q3 := Lib.hid q3
      have HC := part_any hR
      obtain ⟨y, hy⟩ : ∃ y, y = dPart s (rep (dPart s) k σ).2 := ⟨_, rfl⟩
      rw [← hy] at HC
      obtain ⟨⟨ss, ev, pp, x1, x2, x3⟩, σ'⟩ := y
      have HC := Lib.hid HC
      have HY := Lib.hid hy
      clear hR hG hlen hy q1 q2 q3
      go_wp2_with fail
      refine HC.out.mono ?_
      rintro e w2 ⟨A1, c1, A2, c2, rfl, hS, hP, hR2, hG2⟩
      have HS := Lib.hid (show Own_sem w2 w.heap.size (.slice A1 ss.length c1) ss from own_base hS hs)
      have HP := Lib.hid (show Own_byt w2 w.heap.size (.slice A2 pp.length c2) pp from own_base hP hs)
      have HR2 := Lib.hid hR2
      have HG2 := Lib.hid (only_trans HG.out hG2)
      have hs2 := hG2.size
      have hown := World.ownsRow.kept HO.out hG2 (.inr (fun e => by have := (World.ownsRow.lt HO.out g e).1; omega))
      have Q32 := Lib.hid (fun i hi => And.intro (own_old (Q3.out i hi).1 hG2 hg) (own_old (Q3.out i hi).2 hG2 hg))
      have HOWN := Lib.hid hown
      clear hR2 hG2 hS hP
      go_wp2_with (at_builtin; refine wpList_append_own _ rfl _ _ 24 rfl w.heap.size 56 i0 (.agg #[.slice none 0 0, .int .u8 0, .slice none 0 0, .int .u8 0, .int .u8 0, .int .u8 0]) 6 64 Tryd.underlying24 hi hz0 hz1 hz2 rfl (by decide) u5 k _ rfl (hown.alloc _) ⟨w2.heap.size, 0, none⟩ 1 1 (pcell ((.slice A1 ss.length c1, .slice A2 pp.length c2), (ss, ev, pp, x1, x2, x3))) rfl rfl ?c1 ?c2 ?c3 ?c4 ?c5 ?_)
      case c1 => exact newsE rfl 56
      case c2 => intro u hu; simp [pcell] at hu; rcases hu with rfl | rfl | rfl | rfl | rfl | rfl <;> rfl
      case c3 => unfold maxLen; omega
      case c4 => omega
      case c5 => simp; omega
      intro v3 w3 hO3 hG3 _
      have HO3 : Hid (OwnP w3 w.heap.size v3 (rep (dPart s) (k + 1) σ).1) := by
        show OwnP _ _ _ _
        rw [rep_succ, ← HY.out]
        exact OwnP.push (w2 := w2.alloc _) (x := (.slice A1 ss.length c1, .slice A2 pp.length c2)) Q1.out HL.out (fun i hi => ⟨World.ownsRow.alloc (Q32.out i hi).1 _, World.ownsRow.alloc (Q32.out i hi).2 _⟩) (World.ownsRow.alloc HS.out _) (World.ownsRow.alloc HP.out _) (HOWN.out.alloc _) hG3 hO3
      have hb3 : ∀ j, u5.ownBlock = some j → w.heap.size ≤ j := fun j e => (World.ownsRow.lt HO.out j e).1
      have HR3 : Hid (RdS w3 g b cap s (rep (dPart s) (k + 1) σ).2) := by
        show RdS _ _ _ _ _ _
        rw [rep_succ, ← HY.out]
        have hbl := Rd.lt HR.out
        exact Rd.grown (HR2.out.alloc _) hG3 (fun e => by have := hb3 _ e.symm; omega) (fun e => by have := hb3 _ e.symm; omega)
      have HG3 : Hid (w.grownBy w3 (some g)) := only_after HG2.out hG3 hb3
      clear hO3 hG3 hown
      go_wp2
      go_roundw
      case rel => exact ⟨k + 1, by omega, by go_num, HO3.out, HR3.out, HG3.out⟩
      case measure => simp [intOf]; omega
    · obtain rfl : k = m := by omega
      clear hO hR hG hlen
      go_wp2_with fail
      go_ret
      exact ⟨_, rfl, HOC.out, HR'.out, HG.out⟩
end
end Go.Proofs.YtkgkjkghdllkhaaDoor
