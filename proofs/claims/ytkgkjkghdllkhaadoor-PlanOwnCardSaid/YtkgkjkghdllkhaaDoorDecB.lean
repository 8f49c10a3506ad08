/-
  Lists that the reader of plans reads: of elements without lists of their own.
-/
import Derived.Test.YtkgkjkghdllkhaaDoorDecC
import Derived.Lib.AppendZerosOnto
namespace Go.Proofs.YtkgkjkghdllkhaaDoor
open Go.RowKit

theorem only_after {w w2 w3 : World} {o : Obj} {g : Nat} {row : Option Nat} (h2 : w.grownBy w2 (some g)) (h3 : (w2.alloc o).grownBy w3 row) (hb : ∀ j, row = some j → w.heap.size ≤ j) : w.grownBy w3 (some g) := by
  have h4 := only_trans (only_then h2 ((Below.refl w2.heap.size w2).alloc (Nat.le_refl _) o)) (World.grownBy.refl _ (some g))
  refine ⟨h3.os.trans h4.os, h3.tape.trans h4.tape, h3.output.trans h4.output, Nat.le_trans h4.size h3.size, fun k hk hne => ?_⟩
  exact (h3.block k (Nat.lt_of_lt_of_le hk h4.size) (fun e => by have := hb k e.symm; omega)).trans (h4.block k hk hne)
theorem rep_succ {α : Type} (f : St → α × St) (n : Nat) (σ : St) : rep f (n + 1) σ = ((rep f n σ).1 ++ [(f (rep f n σ).2).1], (f (rep f n σ).2).2) := rfl
theorem newsE {w : World} {C : Array Value} {l : List Value} (h : C.toList = l) (t : TypeId) : ∀ j u, l[j]? = some u → (w.alloc (.cells C t)).cell? ((⟨w.heap.size, 0, none⟩ : Addr).add j) = some u := fun j u hu => by
  rw [add_lit, Nat.zero_add, World.cell?_alloc_at _ _ _ _ rfl, ← Array.getElem?_toList, h]
  exact hu

def byV (z : Int) : List Value := [.int .u8 z]
theorem info51_win : (Tryd.prog.info? 51).map (fun i => (i.zero, i.size, i.bytes)) = some (some (.agg #[.int .u16 0, .int .u16 0, .int .u8 0, .int .u8 0]), 4, 6) := by kernel_rfl
set_option maxHeartbeats 1000000 in
set_option maxRecDepth 100000 in
theorem growZ_win (n : Nat) (w : World) (h0 : 0 < n) (hn : n ≤ 100000) :
    Calls Tryd.prog 92 #[.slice none 0 0, .int .i64 n] w fun e w' => e = .returned (.slice (some ⟨w.heap.size, 0, none⟩) 0 (grownCap w n 0 51)) ∧
      ∃ cur : Array Value, w' = w.drew.alloc (.cells cur 51) ∧ cur.size = grownCap w n 0 51 * 4 := by
  obtain ⟨i0, hi, hz0, hz1, hz2⟩ := info_parts info51_win
  have hold : (Builtin.firstCells i0.size 0 (.slice none 0 0)).run Tryd.prog w.drew = .ok ([] : List Value).toArray w.drew := run_firstCells_none w.drew i0.size 0 0 0
  have hfit : Builtin.nextslicecap (0 + n) 0 * i0.bytes ≤ 281474976710656 := growslice_fits (by omega) (by rw [hz2]; omega)
  have hG : n ≤ grownCap w n 0 51 := grownCap_ge w _ _ _
  have hrz : ∀ ty, (Builtin.append_ #[49, 3] ty #[.slice none 0 0, .int .i64 (n : Int)]).run Tryd.prog w =
      .ok (.slice (some ⟨w.heap.size, 0, none⟩) n (grownCap w n 0 51)) (w.drew.alloc (.cells (#[] ++ Builtin.zeroCells (Value.cells (.agg #[.int .u16 0, .int .u16 0, .int .u8 0, .int .u8 0])) n ++ Builtin.zeroCells (Value.cells (.agg #[.int .u16 0, .int .u16 0, .int .u8 0, .int .u8 0])) (grownCap w n 0 51 - n)) 51)) := fun ty => by
    have h := Lib.run_append_grow_zeros w 49 3 ty 51 i0 (.agg #[.int .u16 0, .int .u16 0, .int .u8 0, .int .u8 0]) .i64 .i64 Tryd.underlying49 Tryd.underlying3 hi hz0 none 0 0 [] hold n (by omega) (by omega) (by omega) (by omega) (by rw [hz2]; omega) hfit
    simp only [Nat.zero_add] at h
    exact h
  obtain ⟨cur, hcur⟩ : ∃ cur, cur = (#[] ++ Builtin.zeroCells (Value.cells (.agg #[.int .u16 0, .int .u16 0, .int .u8 0, .int .u8 0])) n ++ Builtin.zeroCells (Value.cells (.agg #[.int .u16 0, .int .u16 0, .int .u8 0, .int .u8 0])) (grownCap w n 0 51 - n)) := ⟨_, rfl⟩
  have hsz : cur.size = grownCap w n 0 51 * 4 := by
    rw [hcur, Array.size_append, Array.size_append, size_zeroCells, size_zeroCells, show (Value.cells (.agg #[.int .u16 0, .int .u16 0, .int .u8 0, .int .u8 0])).size = 4 from rfl]
    show 0 + n * 4 + (grownCap w n 0 51 - n) * 4 = _
    omega
  rw [← hcur] at hrz
  clear hcur hold hfit
  have hG63 : grownCap w n 0 51 ≤ 9223372036854775807 := by
    have := grownCap_le_maxLen w n 0 51 (by unfold maxLen; omega)
    unfold maxLen at this
    omega
  generalize grownCap w n 0 51 = G at *
  have HS := Lib.hid hsz
  clear hsz
  go_enter Tryd.func92, Tryd.ntmps92
  go_wp2_with (at_builtin; refine Lib.wpList_append_run _ rfl _ _ _ _ rfl _ _ rfl rfl _ _ (hrz _) ?_)
  all_goals (go_ret; exact ⟨rfl, _, rfl, HS.out⟩)
set_option maxHeartbeats 1000000 in
set_option maxRecDepth 100000 in
theorem grow_win (n : Nat) (w : World) (hn : n ≤ 100000) :
    Calls Tryd.prog 92 #[.slice none 0 0, .int .i64 n] w fun e w' => ∃ v, e = .returned v ∧ w'.ownsRow w.heap.size 51 4 v 0 [] ∧ Below w.heap.size w w' := by
  by_cases h0 : 0 < n
  · exact (growZ_win n w h0 hn).mono fun _ _ ⟨he, cur, hw, hc⟩ => by
      subst hw
      refine ⟨_, he, World.ownsRow_made w.drew cur _ (Nat.le_refl _) ?_ hc, ((Below.refl _ _).drew).alloc (Nat.le_refl _) _⟩
      exact grownCap_le_maxLen w n 0 51 (by unfold maxLen; omega)
  · obtain rfl : n = 0 := by omega
    go_enter Tryd.func92, Tryd.ntmps92
    go_wp2
    go_ret
    exact ⟨_, rfl, World.ownsRow_nil _ _ _ _, Below.refl _ _⟩

/-- A list of the call's own. -/
def Own_win (w : World) (base : Nat) (v : Value) (xs : List WinA) : Prop := w.ownsRow base 51 4 v xs.length (xs.flatMap winV)
def Rel_win (w : World) (g b cap : Nat) (s : ByteArray) (σ : St) (m : Nat) (v i : Value) (wr : World) : Prop :=
  ∃ k : Nat, k ≤ m ∧ i = .int .i64 k ∧ Own_win wr w.heap.size v (rep (dWin s) k σ).1 ∧ RdS wr g b cap s (rep (dWin s) k σ).2 ∧ w.grownBy wr (some g)
set_option maxHeartbeats 4000000 in
set_option maxRecDepth 100000 in
theorem list_win {w : World} {g b cap : Nat} {s : ByteArray} {σ : St} (n : Int) (hn0 : 0 ≤ n) (hn : n ≤ 65535) (h : RdS w g b cap s σ) :
    Calls Tryd.prog 81 #[.int .i64 n, .func (.func 82) #[.agg #[gp g]] #[]] w fun e w' => ∃ v, e = .returned v ∧ Own_win w' w.heap.size v (rep (dWin s) n.toNat σ).1 ∧ RdS w' g b cap s (rep (dWin s) n.toNat σ).2 ∧ w.grownBy w' (some g) := by
  obtain ⟨m, rfl⟩ : ∃ m : Nat, n = m := ⟨n.toNat, by omega⟩
  simp only [Int.toNat_natCast]
  obtain ⟨i0, hi, hz0, hz1, hz2⟩ := info_parts info51_win
  have hg := h.glt
  have HR := Lib.hid h
  have HGR := Lib.hid (grow_win m w (by omega))
  clear h
  go_enter Tryd.func81, Tryd.ntmps81
  go_wp2_with fail
  refine HGR.out.mono ?_
  rintro e w1 ⟨v1, rfl, hO1, hB1⟩
  have HO1 := Lib.hid hO1
  have HB1 := Lib.hid hB1
  clear hO1 hB1 HGR
  go_wp2_with fail
  go_loopw [5, 9] (fun v i wr => Rel_win w g b cap s σ m v i wr) (fun _ i _ => m - (intOf i).toNat)
  case atStart => exact ⟨0, Nat.zero_le _, rfl, HO1.out, HR.out.below HB1.out, only_below HB1.out _⟩
  case round =>
    obtain ⟨k, hk, rfl, hO, hR, hG⟩ := hrel
    have hs := hG.size
    have hlen := rep_length (dWin s) k σ
    have HL := Lib.hid hlen
    have HG := Lib.hid hG
    have HO : Hid (wr.ownsRow w.heap.size 51 4 u5 k ((rep (dWin s) k σ).1.flatMap winV)) := by
      have := hO
      unfold Own_win at this
      rw [hlen] at this
      exact this
    have HR' := Lib.hid hR
    by_cases hlt : k < m
    · have HC := win_any hR
      obtain ⟨y, hy⟩ : ∃ y, y = dWin s (rep (dWin s) k σ).2 := ⟨_, rfl⟩
      rw [← hy] at HC
      obtain ⟨⟨x1, x2, x3, x4⟩, σ'⟩ := y
      try simp only [winV] at HC
      have HC := Lib.hid HC
      have HY := Lib.hid hy
      clear hO hR hG hlen hy
      go_wp2_with fail
      refine HC.out.mono ?_
      rintro e w2 ⟨rfl, hR2, hG2⟩
      have HR2 := Lib.hid hR2
      have HG2 := Lib.hid (only_trans HG.out hG2)
      have hs2 := hG2.size
      have hown := World.ownsRow.kept HO.out hG2 (.inr (fun e => by have := (World.ownsRow.lt HO.out g e).1; omega))
      clear hR2 hG2
      go_wp2_with (at_builtin; refine wpList_append_own _ rfl _ _ 49 rfl w.heap.size 51 i0 (.agg #[.int .u16 0, .int .u16 0, .int .u8 0, .int .u8 0]) 4 6 Tryd.underlying49 hi hz0 hz1 hz2 rfl (by decide) u5 k _ rfl (hown.alloc _) ⟨w2.heap.size, 0, none⟩ 1 1 (winV (x1, x2, x3, x4)) rfl rfl ?c1 ?c2 ?c3 ?c4 ?c5 ?_)
      case c1 => exact newsE rfl 51
      case c2 => intro u hu; simp [winV] at hu; rcases hu with rfl | rfl | rfl | rfl <;> rfl
      case c3 => unfold maxLen; omega
      case c4 => omega
      case c5 => simp; omega
      intro v3 w3 hO3 hG3 _
      have HO3 : Hid (Own_win w3 w.heap.size v3 (rep (dWin s) (k + 1) σ).1) := by
        show Own_win _ _ _ _
        rw [rep_succ, ← HY.out]
        unfold Own_win
        rw [List.length_append, HL.out, List.flatMap_append, List.flatMap_cons, List.flatMap_nil, List.append_nil]
        exact hO3
      have hb3 : ∀ j, u5.ownBlock = some j → w.heap.size ≤ j := fun j e => (World.ownsRow.lt HO.out j e).1
      have HR3 : Hid (RdS w3 g b cap s (rep (dWin s) (k + 1) σ).2) := by
        show RdS _ _ _ _ _ _
        rw [rep_succ, ← HY.out]
        have hbl := Rd.lt HR.out
        exact Rd.grown (HR2.out.alloc _) hG3 (fun e => by have := hb3 _ e.symm; omega) (fun e => by have := hb3 _ e.symm; omega)
      have HG3 : Hid (w.grownBy w3 (some g)) := only_after HG2.out hG3 hb3
      clear hO3 hG3 hown
      go_wp2
      go_roundw
      case rel => exact ⟨k + 1, by omega, by go_num, HO3.out, HR3.out, HG3.out⟩
      case measure => simp [intOf]; omega
    · obtain rfl : k = m := by omega
      have HO' := Lib.hid hO
      clear hO hR hG hlen
      go_wp2_with fail
      go_ret
      exact ⟨_, rfl, HO'.out, HR'.out, HG.out⟩
theorem info58_sem : (Tryd.prog.info? 58).map (fun i => (i.zero, i.size, i.bytes)) = some (some (.agg #[.int .u8 0, .int .u8 0]), 2, 2) := by kernel_rfl
set_option maxHeartbeats 1000000 in
set_option maxRecDepth 100000 in
theorem growZ_sem (n : Nat) (w : World) (h0 : 0 < n) (hn : n ≤ 100000) :
    Calls Tryd.prog 93 #[.slice none 0 0, .int .i64 n] w fun e w' => e = .returned (.slice (some ⟨w.heap.size, 0, none⟩) 0 (grownCap w n 0 58)) ∧
      ∃ cur : Array Value, w' = w.drew.alloc (.cells cur 58) ∧ cur.size = grownCap w n 0 58 * 2 := by
  obtain ⟨i0, hi, hz0, hz1, hz2⟩ := info_parts info58_sem
  have hold : (Builtin.firstCells i0.size 0 (.slice none 0 0)).run Tryd.prog w.drew = .ok ([] : List Value).toArray w.drew := run_firstCells_none w.drew i0.size 0 0 0
  have hfit : Builtin.nextslicecap (0 + n) 0 * i0.bytes ≤ 281474976710656 := growslice_fits (by omega) (by rw [hz2]; omega)
  have hG : n ≤ grownCap w n 0 58 := grownCap_ge w _ _ _
  have hrz : ∀ ty, (Builtin.append_ #[52, 3] ty #[.slice none 0 0, .int .i64 (n : Int)]).run Tryd.prog w =
      .ok (.slice (some ⟨w.heap.size, 0, none⟩) n (grownCap w n 0 58)) (w.drew.alloc (.cells (#[] ++ Builtin.zeroCells (Value.cells (.agg #[.int .u8 0, .int .u8 0])) n ++ Builtin.zeroCells (Value.cells (.agg #[.int .u8 0, .int .u8 0])) (grownCap w n 0 58 - n)) 58)) := fun ty => by
    have h := Lib.run_append_grow_zeros w 52 3 ty 58 i0 (.agg #[.int .u8 0, .int .u8 0]) .i64 .i64 Tryd.underlying52 Tryd.underlying3 hi hz0 none 0 0 [] hold n (by omega) (by omega) (by omega) (by omega) (by rw [hz2]; omega) hfit
    simp only [Nat.zero_add] at h
    exact h
  obtain ⟨cur, hcur⟩ : ∃ cur, cur = (#[] ++ Builtin.zeroCells (Value.cells (.agg #[.int .u8 0, .int .u8 0])) n ++ Builtin.zeroCells (Value.cells (.agg #[.int .u8 0, .int .u8 0])) (grownCap w n 0 58 - n)) := ⟨_, rfl⟩
  have hsz : cur.size = grownCap w n 0 58 * 2 := by
    rw [hcur, Array.size_append, Array.size_append, size_zeroCells, size_zeroCells, show (Value.cells (.agg #[.int .u8 0, .int .u8 0])).size = 2 from rfl]
    show 0 + n * 2 + (grownCap w n 0 58 - n) * 2 = _
    omega
  rw [← hcur] at hrz
  clear hcur hold hfit
  have hG63 : grownCap w n 0 58 ≤ 9223372036854775807 := by
    have := grownCap_le_maxLen w n 0 58 (by unfold maxLen; omega)
    unfold maxLen at this
    omega
  generalize grownCap w n 0 58 = G at *
  have HS := Lib.hid hsz
  clear hsz
  go_enter Tryd.func93, Tryd.ntmps93
  go_wp2_with (at_builtin; refine Lib.wpList_append_run _ rfl _ _ _ _ rfl _ _ rfl rfl _ _ (hrz _) ?_)
  all_goals (go_ret; exact ⟨rfl, _, rfl, HS.out⟩)
set_option maxHeartbeats 1000000 in
set_option maxRecDepth 100000 in
theorem grow_sem (n : Nat) (w : World) (hn : n ≤ 100000) :
    Calls Tryd.prog 93 #[.slice none 0 0, .int .i64 n] w fun e w' => ∃ v, e = .returned v ∧ w'.ownsRow w.heap.size 58 2 v 0 [] ∧ Below w.heap.size w w' := by
  by_cases h0 : 0 < n
  · exact (growZ_sem n w h0 hn).mono fun _ _ ⟨he, cur, hw, hc⟩ => by
      subst hw
      refine ⟨_, he, World.ownsRow_made w.drew cur _ (Nat.le_refl _) ?_ hc, ((Below.refl _ _).drew).alloc (Nat.le_refl _) _⟩
      exact grownCap_le_maxLen w n 0 58 (by unfold maxLen; omega)
  · obtain rfl : n = 0 := by omega
    go_enter Tryd.func93, Tryd.ntmps93
    go_wp2
    go_ret
    exact ⟨_, rfl, World.ownsRow_nil _ _ _ _, Below.refl _ _⟩

/-- A list of the call's own. -/
def Own_sem (w : World) (base : Nat) (v : Value) (xs : List SemA) : Prop := w.ownsRow base 58 2 v xs.length (xs.flatMap semV)
def Rel_sem (w : World) (g b cap : Nat) (s : ByteArray) (σ : St) (m : Nat) (v i : Value) (wr : World) : Prop :=
  ∃ k : Nat, k ≤ m ∧ i = .int .i64 k ∧ Own_sem wr w.heap.size v (rep (dSem s) k σ).1 ∧ RdS wr g b cap s (rep (dSem s) k σ).2 ∧ w.grownBy wr (some g)
set_option maxHeartbeats 4000000 in
set_option maxRecDepth 100000 in
theorem list_sem {w : World} {g b cap : Nat} {s : ByteArray} {σ : St} (n : Int) (hn0 : 0 ≤ n) (hn : n ≤ 65535) (h : RdS w g b cap s σ) :
    Calls Tryd.prog 84 #[.int .i64 n, .func (.func 85) #[.agg #[gp g]] #[]] w fun e w' => ∃ v, e = .returned v ∧ Own_sem w' w.heap.size v (rep (dSem s) n.toNat σ).1 ∧ RdS w' g b cap s (rep (dSem s) n.toNat σ).2 ∧ w.grownBy w' (some g) := by
  obtain ⟨m, rfl⟩ : ∃ m : Nat, n = m := ⟨n.toNat, by omega⟩
  simp only [Int.toNat_natCast]
  obtain ⟨i0, hi, hz0, hz1, hz2⟩ := info_parts info58_sem
  have hg := h.glt
  have HR := Lib.hid h
  have HGR := Lib.hid (grow_sem m w (by omega))
  clear h
  go_enter Tryd.func84, Tryd.ntmps84
  go_wp2_with fail
  refine HGR.out.mono ?_
  rintro e w1 ⟨v1, rfl, hO1, hB1⟩
  have HO1 := Lib.hid hO1
  have HB1 := Lib.hid hB1
  clear hO1 hB1 HGR
  go_wp2_with fail
  go_loopw [5, 9] (fun v i wr => Rel_sem w g b cap s σ m v i wr) (fun _ i _ => m - (intOf i).toNat)
  case atStart => exact ⟨0, Nat.zero_le _, rfl, HO1.out, HR.out.below HB1.out, only_below HB1.out _⟩
  case round =>
    obtain ⟨k, hk, rfl, hO, hR, hG⟩ := hrel
    have hs := hG.size
    have hlen := rep_length (dSem s) k σ
    have HL := Lib.hid hlen
    have HG := Lib.hid hG
    have HO : Hid (wr.ownsRow w.heap.size 58 2 u5 k ((rep (dSem s) k σ).1.flatMap semV)) := by
      have := hO
      unfold Own_sem at this
      rw [hlen] at this
      exact this
    have HR' := Lib.hid hR
    by_cases hlt : k < m
    · have HC := sem_any hR
      obtain ⟨y, hy⟩ : ∃ y, y = dSem s (rep (dSem s) k σ).2 := ⟨_, rfl⟩
      rw [← hy] at HC
      obtain ⟨⟨x1, x2⟩, σ'⟩ := y
      try simp only [semV] at HC
      have HC := Lib.hid HC
      have HY := Lib.hid hy
      clear hO hR hG hlen hy
      go_wp2_with fail
      refine HC.out.mono ?_
      rintro e w2 ⟨rfl, hR2, hG2⟩
      have HR2 := Lib.hid hR2
      have HG2 := Lib.hid (only_trans HG.out hG2)
      have hs2 := hG2.size
      have hown := World.ownsRow.kept HO.out hG2 (.inr (fun e => by have := (World.ownsRow.lt HO.out g e).1; omega))
      clear hR2 hG2
      go_wp2_with (at_builtin; refine wpList_append_own _ rfl _ _ 52 rfl w.heap.size 58 i0 (.agg #[.int .u8 0, .int .u8 0]) 2 2 Tryd.underlying52 hi hz0 hz1 hz2 rfl (by decide) u5 k _ rfl (hown.alloc _) ⟨w2.heap.size, 0, none⟩ 1 1 (semV (x1, x2)) rfl rfl ?c1 ?c2 ?c3 ?c4 ?c5 ?_)
      case c1 => exact newsE rfl 58
      case c2 => intro u hu; simp [semV] at hu; rcases hu with rfl | rfl <;> rfl
      case c3 => unfold maxLen; omega
      case c4 => omega
      case c5 => simp; omega
      intro v3 w3 hO3 hG3 _
      have HO3 : Hid (Own_sem w3 w.heap.size v3 (rep (dSem s) (k + 1) σ).1) := by
        show Own_sem _ _ _ _
        rw [rep_succ, ← HY.out]
        unfold Own_sem
        rw [List.length_append, HL.out, List.flatMap_append, List.flatMap_cons, List.flatMap_nil, List.append_nil]
        exact hO3
      have hb3 : ∀ j, u5.ownBlock = some j → w.heap.size ≤ j := fun j e => (World.ownsRow.lt HO.out j e).1
      have HR3 : Hid (RdS w3 g b cap s (rep (dSem s) (k + 1) σ).2) := by
        show RdS _ _ _ _ _ _
        rw [rep_succ, ← HY.out]
        have hbl := Rd.lt HR.out
        exact Rd.grown (HR2.out.alloc _) hG3 (fun e => by have := hb3 _ e.symm; omega) (fun e => by have := hb3 _ e.symm; omega)
      have HG3 : Hid (w.grownBy w3 (some g)) := only_after HG2.out hG3 hb3
      clear hO3 hG3 hown
      go_wp2
      go_roundw
      case rel => exact ⟨k + 1, by omega, by go_num, HO3.out, HR3.out, HG3.out⟩
      case measure => simp [intOf]; omega
    · obtain rfl : k = m := by omega
      have HO' := Lib.hid hO
      clear hO hR hG hlen
      go_wp2_with fail
      go_ret
      exact ⟨_, rfl, HO'.out, HR'.out, HG.out⟩
theorem info5_byt : (Tryd.prog.info? 5).map (fun i => (i.zero, i.size, i.bytes)) = some (some (.int .u8 0), 1, 1) := by kernel_rfl
set_option maxHeartbeats 1000000 in
set_option maxRecDepth 100000 in
theorem growZ_byt (n : Nat) (w : World) (h0 : 0 < n) (hn : n ≤ 100000) :
    Calls Tryd.prog 89 #[.slice none 0 0, .int .i64 n] w fun e w' => e = .returned (.slice (some ⟨w.heap.size, 0, none⟩) 0 (grownCap w n 0 5)) ∧
      ∃ cur : Array Value, w' = w.drew.alloc (.cells cur 5) ∧ cur.size = grownCap w n 0 5 * 1 := by
  obtain ⟨i0, hi, hz0, hz1, hz2⟩ := info_parts info5_byt
  have hold : (Builtin.firstCells i0.size 0 (.slice none 0 0)).run Tryd.prog w.drew = .ok ([] : List Value).toArray w.drew := run_firstCells_none w.drew i0.size 0 0 0
  have hfit : Builtin.nextslicecap (0 + n) 0 * i0.bytes ≤ 281474976710656 := growslice_fits (by omega) (by rw [hz2]; omega)
  have hG : n ≤ grownCap w n 0 5 := grownCap_ge w _ _ _
  have hrz : ∀ ty, (Builtin.append_ #[31, 3] ty #[.slice none 0 0, .int .i64 (n : Int)]).run Tryd.prog w =
      .ok (.slice (some ⟨w.heap.size, 0, none⟩) n (grownCap w n 0 5)) (w.drew.alloc (.cells (#[] ++ Builtin.zeroCells (Value.cells (.int .u8 0)) n ++ Builtin.zeroCells (Value.cells (.int .u8 0)) (grownCap w n 0 5 - n)) 5)) := fun ty => by
    have h := Lib.run_append_grow_zeros w 31 3 ty 5 i0 (.int .u8 0) .i64 .i64 Tryd.underlying31 Tryd.underlying3 hi hz0 none 0 0 [] hold n (by omega) (by omega) (by omega) (by omega) (by rw [hz2]; omega) hfit
    simp only [Nat.zero_add] at h
    exact h
  obtain ⟨cur, hcur⟩ : ∃ cur, cur = (#[] ++ Builtin.zeroCells (Value.cells (.int .u8 0)) n ++ Builtin.zeroCells (Value.cells (.int .u8 0)) (grownCap w n 0 5 - n)) := ⟨_, rfl⟩
  have hsz : cur.size = grownCap w n 0 5 * 1 := by
    rw [hcur, Array.size_append, Array.size_append, size_zeroCells, size_zeroCells, show (Value.cells (.int .u8 0)).size = 1 from rfl]
    show 0 + n * 1 + (grownCap w n 0 5 - n) * 1 = _
    omega
  rw [← hcur] at hrz
  clear hcur hold hfit
  have hG63 : grownCap w n 0 5 ≤ 9223372036854775807 := by
    have := grownCap_le_maxLen w n 0 5 (by unfold maxLen; omega)
    unfold maxLen at this
    omega
  generalize grownCap w n 0 5 = G at *
  have HS := Lib.hid hsz
  clear hsz
  go_enter Tryd.func89, Tryd.ntmps89
  go_wp2_with (at_builtin; refine Lib.wpList_append_run _ rfl _ _ _ _ rfl _ _ rfl rfl _ _ (hrz _) ?_)
  all_goals (go_ret; exact ⟨rfl, _, rfl, HS.out⟩)
set_option maxHeartbeats 1000000 in
set_option maxRecDepth 100000 in
theorem grow_byt (n : Nat) (w : World) (hn : n ≤ 100000) :
    Calls Tryd.prog 89 #[.slice none 0 0, .int .i64 n] w fun e w' => ∃ v, e = .returned v ∧ w'.ownsRow w.heap.size 5 1 v 0 [] ∧ Below w.heap.size w w' := by
  by_cases h0 : 0 < n
  · exact (growZ_byt n w h0 hn).mono fun _ _ ⟨he, cur, hw, hc⟩ => by
      subst hw
      refine ⟨_, he, World.ownsRow_made w.drew cur _ (Nat.le_refl _) ?_ hc, ((Below.refl _ _).drew).alloc (Nat.le_refl _) _⟩
      exact grownCap_le_maxLen w n 0 5 (by unfold maxLen; omega)
  · obtain rfl : n = 0 := by omega
    go_enter Tryd.func89, Tryd.ntmps89
    go_wp2
    go_ret
    exact ⟨_, rfl, World.ownsRow_nil _ _ _ _, Below.refl _ _⟩

/-- A list of the call's own. -/
def Own_byt (w : World) (base : Nat) (v : Value) (xs : List Int) : Prop := w.ownsRow base 5 1 v xs.length (xs.flatMap byV)
def Rel_byt (w : World) (g b cap : Nat) (s : ByteArray) (σ : St) (m : Nat) (v i : Value) (wr : World) : Prop :=
  ∃ k : Nat, k ≤ m ∧ i = .int .i64 k ∧ Own_byt wr w.heap.size v (rep (d8 s) k σ).1 ∧ RdS wr g b cap s (rep (d8 s) k σ).2 ∧ w.grownBy wr (some g)
set_option maxHeartbeats 4000000 in
set_option maxRecDepth 100000 in
theorem list_byt {w : World} {g b cap : Nat} {s : ByteArray} {σ : St} (n : Int) (hn0 : 0 ≤ n) (hn : n ≤ 65535) (h : RdS w g b cap s σ) :
    Calls Tryd.prog 86 #[.int .i64 n, .func (.func 61) #[gp g] #[]] w fun e w' => ∃ v, e = .returned v ∧ Own_byt w' w.heap.size v (rep (d8 s) n.toNat σ).1 ∧ RdS w' g b cap s (rep (d8 s) n.toNat σ).2 ∧ w.grownBy w' (some g) := by
  obtain ⟨m, rfl⟩ : ∃ m : Nat, n = m := ⟨n.toNat, by omega⟩
  simp only [Int.toNat_natCast]
  obtain ⟨i0, hi, hz0, hz1, hz2⟩ := info_parts info5_byt
  have hg := h.glt
  have HR := Lib.hid h
  have HGR := Lib.hid (grow_byt m w (by omega))
  clear h
  go_enter Tryd.func86, Tryd.ntmps86
  go_wp2_with fail
  refine HGR.out.mono ?_
  rintro e w1 ⟨v1, rfl, hO1, hB1⟩
  have HO1 := Lib.hid hO1
  have HB1 := Lib.hid hB1
  clear hO1 hB1 HGR
  go_wp2_with fail
  go_loopw [5, 9] (fun v i wr => Rel_byt w g b cap s σ m v i wr) (fun _ i _ => m - (intOf i).toNat)
  case atStart => exact ⟨0, Nat.zero_le _, rfl, HO1.out, HR.out.below HB1.out, only_below HB1.out _⟩
  case round =>
    obtain ⟨k, hk, rfl, hO, hR, hG⟩ := hrel
    have hs := hG.size
    have hlen := rep_length (d8 s) k σ
    have HL := Lib.hid hlen
    have HG := Lib.hid hG
    have HO : Hid (wr.ownsRow w.heap.size 5 1 u5 k ((rep (d8 s) k σ).1.flatMap byV)) := by
      have := hO
      unfold Own_byt at this
      rw [hlen] at this
      exact this
    have HR' := Lib.hid hR
    by_cases hlt : k < m
    · have HC := eight_all hR
      obtain ⟨y, hy⟩ : ∃ y, y = d8 s (rep (d8 s) k σ).2 := ⟨_, rfl⟩
      rw [← hy] at HC
      obtain ⟨x1, σ'⟩ := y
      have HC := Lib.hid HC
      have HY := Lib.hid hy
      clear hO hR hG hlen hy
      go_wp2_with fail
      refine HC.out.mono ?_
      rintro e w2 ⟨rfl, hR2, hG2⟩
      have HR2 := Lib.hid hR2
      have HG2 := Lib.hid (only_trans HG.out hG2)
      have hs2 := hG2.size
      have hown := World.ownsRow.kept HO.out hG2 (.inr (fun e => by have := (World.ownsRow.lt HO.out g e).1; omega))
      clear hR2 hG2
      go_wp2_with (at_builtin; refine wpList_append_own _ rfl _ _ 31 rfl w.heap.size 5 i0 (.int .u8 0) 1 1 Tryd.underlying31 hi hz0 hz1 hz2 rfl (by decide) u5 k _ rfl (hown.alloc _) ⟨w2.heap.size, 0, none⟩ 1 1 (byV x1) rfl rfl ?c1 ?c2 ?c3 ?c4 ?c5 ?_)
      case c1 => exact newsE rfl 5
      case c2 => intro u hu; simp [byV] at hu; subst hu; rfl
      case c3 => unfold maxLen; omega
      case c4 => omega
      case c5 => simp; omega
      intro v3 w3 hO3 hG3 _
      have HO3 : Hid (Own_byt w3 w.heap.size v3 (rep (d8 s) (k + 1) σ).1) := by
        show Own_byt _ _ _ _
        rw [rep_succ, ← HY.out]
        unfold Own_byt
        rw [List.length_append, HL.out, List.flatMap_append, List.flatMap_cons, List.flatMap_nil, List.append_nil]
        exact hO3
      have hb3 : ∀ j, u5.ownBlock = some j → w.heap.size ≤ j := fun j e => (World.ownsRow.lt HO.out j e).1
      have HR3 : Hid (RdS w3 g b cap s (rep (d8 s) (k + 1) σ).2) := by
        show RdS _ _ _ _ _ _
        rw [rep_succ, ← HY.out]
        have hbl := Rd.lt HR.out
        exact Rd.grown (HR2.out.alloc _) hG3 (fun e => by have := hb3 _ e.symm; omega) (fun e => by have := hb3 _ e.symm; omega)
      have HG3 : Hid (w.grownBy w3 (some g)) := only_after HG2.out hG3 hb3
      clear hO3 hG3 hown
      go_wp2
      go_roundw
      case rel => exact ⟨k + 1, by omega, by go_num, HO3.out, HR3.out, HG3.out⟩
      case measure => simp [intOf]; omega
    · obtain rfl : k = m := by omega
      have HO' := Lib.hid hO
      clear hO hR hG hlen
      go_wp2_with fail
      go_ret
      exact ⟨_, rfl, HO'.out, HR'.out, HG.out⟩
theorem info60_chan : (Tryd.prog.info? 60).map (fun i => (i.zero, i.size, i.bytes)) = some (some (.agg #[.int .u8 0, .int .u8 0, .int .u8 0, .int .u8 0, .int .u8 0, .int .u16 0]), 6, 8) := by kernel_rfl
set_option maxHeartbeats 1000000 in
set_option maxRecDepth 100000 in
theorem growZ_chan (n : Nat) (w : World) (h0 : 0 < n) (hn : n ≤ 100000) :
    Calls Tryd.prog 87 #[.slice none 0 0, .int .i64 n] w fun e w' => e = .returned (.slice (some ⟨w.heap.size, 0, none⟩) 0 (grownCap w n 0 60)) ∧
      ∃ cur : Array Value, w' = w.drew.alloc (.cells cur 60) ∧ cur.size = grownCap w n 0 60 * 6 := by
  obtain ⟨i0, hi, hz0, hz1, hz2⟩ := info_parts info60_chan
  have hold : (Builtin.firstCells i0.size 0 (.slice none 0 0)).run Tryd.prog w.drew = .ok ([] : List Value).toArray w.drew := run_firstCells_none w.drew i0.size 0 0 0
  have hfit : Builtin.nextslicecap (0 + n) 0 * i0.bytes ≤ 281474976710656 := growslice_fits (by omega) (by rw [hz2]; omega)
  have hG : n ≤ grownCap w n 0 60 := grownCap_ge w _ _ _
  have hrz : ∀ ty, (Builtin.append_ #[25, 3] ty #[.slice none 0 0, .int .i64 (n : Int)]).run Tryd.prog w =
      .ok (.slice (some ⟨w.heap.size, 0, none⟩) n (grownCap w n 0 60)) (w.drew.alloc (.cells (#[] ++ Builtin.zeroCells (Value.cells (.agg #[.int .u8 0, .int .u8 0, .int .u8 0, .int .u8 0, .int .u8 0, .int .u16 0])) n ++ Builtin.zeroCells (Value.cells (.agg #[.int .u8 0, .int .u8 0, .int .u8 0, .int .u8 0, .int .u8 0, .int .u16 0])) (grownCap w n 0 60 - n)) 60)) := fun ty => by
    have h := Lib.run_append_grow_zeros w 25 3 ty 60 i0 (.agg #[.int .u8 0, .int .u8 0, .int .u8 0, .int .u8 0, .int .u8 0, .int .u16 0]) .i64 .i64 Tryd.underlying25 Tryd.underlying3 hi hz0 none 0 0 [] hold n (by omega) (by omega) (by omega) (by omega) (by rw [hz2]; omega) hfit
    simp only [Nat.zero_add] at h
    exact h
  obtain ⟨cur, hcur⟩ : ∃ cur, cur = (#[] ++ Builtin.zeroCells (Value.cells (.agg #[.int .u8 0, .int .u8 0, .int .u8 0, .int .u8 0, .int .u8 0, .int .u16 0])) n ++ Builtin.zeroCells (Value.cells (.agg #[.int .u8 0, .int .u8 0, .int .u8 0, .int .u8 0, .int .u8 0, .int .u16 0])) (grownCap w n 0 60 - n)) := ⟨_, rfl⟩
  have hsz : cur.size = grownCap w n 0 60 * 6 := by
    rw [hcur, Array.size_append, Array.size_append, size_zeroCells, size_zeroCells, show (Value.cells (.agg #[.int .u8 0, .int .u8 0, .int .u8 0, .int .u8 0, .int .u8 0, .int .u16 0])).size = 6 from rfl]
    show 0 + n * 6 + (grownCap w n 0 60 - n) * 6 = _
    omega
  rw [← hcur] at hrz
  clear hcur hold hfit
  have hG63 : grownCap w n 0 60 ≤ 9223372036854775807 := by
    have := grownCap_le_maxLen w n 0 60 (by unfold maxLen; omega)
    unfold maxLen at this
    omega
  generalize grownCap w n 0 60 = G at *
  have HS := Lib.hid hsz
  clear hsz
  go_enter Tryd.func87, Tryd.ntmps87
  go_wp2_with (at_builtin; refine Lib.wpList_append_run _ rfl _ _ _ _ rfl _ _ rfl rfl _ _ (hrz _) ?_)
  all_goals (go_ret; exact ⟨rfl, _, rfl, HS.out⟩)
set_option maxHeartbeats 1000000 in
set_option maxRecDepth 100000 in
theorem grow_chan (n : Nat) (w : World) (hn : n ≤ 100000) :
    Calls Tryd.prog 87 #[.slice none 0 0, .int .i64 n] w fun e w' => ∃ v, e = .returned v ∧ w'.ownsRow w.heap.size 60 6 v 0 [] ∧ Below w.heap.size w w' := by
  by_cases h0 : 0 < n
  · exact (growZ_chan n w h0 hn).mono fun _ _ ⟨he, cur, hw, hc⟩ => by
      subst hw
      refine ⟨_, he, World.ownsRow_made w.drew cur _ (Nat.le_refl _) ?_ hc, ((Below.refl _ _).drew).alloc (Nat.le_refl _) _⟩
      exact grownCap_le_maxLen w n 0 60 (by unfold maxLen; omega)
  · obtain rfl : n = 0 := by omega
    go_enter Tryd.func87, Tryd.ntmps87
    go_wp2
    go_ret
    exact ⟨_, rfl, World.ownsRow_nil _ _ _ _, Below.refl _ _⟩

/-- A list of the call's own. -/
def Own_chan (w : World) (base : Nat) (v : Value) (xs : List ChanA) : Prop := w.ownsRow base 60 6 v xs.length (xs.flatMap chanV)
def Rel_chan (w : World) (g b cap : Nat) (s : ByteArray) (σ : St) (m : Nat) (v i : Value) (wr : World) : Prop :=
  ∃ k : Nat, k ≤ m ∧ i = .int .i64 k ∧ Own_chan wr w.heap.size v (rep (dChan s) k σ).1 ∧ RdS wr g b cap s (rep (dChan s) k σ).2 ∧ w.grownBy wr (some g)
set_option maxHeartbeats 4000000 in
set_option maxRecDepth 100000 in
theorem list_chan {w : World} {g b cap : Nat} {s : ByteArray} {σ : St} (n : Int) (hn0 : 0 ≤ n) (hn : n ≤ 65535) (h : RdS w g b cap s σ) :
    Calls Tryd.prog 66 #[.int .i64 n, .func (.func 67) #[.agg #[gp g]] #[]] w fun e w' => ∃ v, e = .returned v ∧ Own_chan w' w.heap.size v (rep (dChan s) n.toNat σ).1 ∧ RdS w' g b cap s (rep (dChan s) n.toNat σ).2 ∧ w.grownBy w' (some g) := by
  obtain ⟨m, rfl⟩ : ∃ m : Nat, n = m := ⟨n.toNat, by omega⟩
  simp only [Int.toNat_natCast]
  obtain ⟨i0, hi, hz0, hz1, hz2⟩ := info_parts info60_chan
  have hg := h.glt
  have HR := Lib.hid h
  have HGR := Lib.hid (grow_chan m w (by omega))
  clear h
  go_enter Tryd.func66, Tryd.ntmps66
  go_wp2_with fail
  refine HGR.out.mono ?_
  rintro e w1 ⟨v1, rfl, hO1, hB1⟩
  have HO1 := Lib.hid hO1
  have HB1 := Lib.hid hB1
  clear hO1 hB1 HGR
  go_wp2_with fail
  go_loopw [5, 9] (fun v i wr => Rel_chan w g b cap s σ m v i wr) (fun _ i _ => m - (intOf i).toNat)
  case atStart => exact ⟨0, Nat.zero_le _, rfl, HO1.out, HR.out.below HB1.out, only_below HB1.out _⟩
  case round =>
    obtain ⟨k, hk, rfl, hO, hR, hG⟩ := hrel
    have hs := hG.size
    have hlen := rep_length (dChan s) k σ
    have HL := Lib.hid hlen
    have HG := Lib.hid hG
    have HO : Hid (wr.ownsRow w.heap.size 60 6 u5 k ((rep (dChan s) k σ).1.flatMap chanV)) := by
      have := hO
      unfold Own_chan at this
      rw [hlen] at this
      exact this
    have HR' := Lib.hid hR
    by_cases hlt : k < m
    · have HC := chan_any hR
      obtain ⟨y, hy⟩ : ∃ y, y = dChan s (rep (dChan s) k σ).2 := ⟨_, rfl⟩
      rw [← hy] at HC
      obtain ⟨⟨x1, x2, x3, x4, x5, x6⟩, σ'⟩ := y
      try simp only [chanV] at HC
      have HC := Lib.hid HC
      have HY := Lib.hid hy
      clear hO hR hG hlen hy
      go_wp2_with fail
      refine HC.out.mono ?_
      rintro e w2 ⟨rfl, hR2, hG2⟩
      have HR2 := Lib.hid hR2
      have HG2 := Lib.hid (only_trans HG.out hG2)
      have hs2 := hG2.size
      have hown := World.ownsRow.kept HO.out hG2 (.inr (fun e => by have := (World.ownsRow.lt HO.out g e).1; omega))
      clear hR2 hG2
      go_wp2_with (at_builtin; refine wpList_append_own _ rfl _ _ 25 rfl w.heap.size 60 i0 (.agg #[.int .u8 0, .int .u8 0, .int .u8 0, .int .u8 0, .int .u8 0, .int .u16 0]) 6 8 Tryd.underlying25 hi hz0 hz1 hz2 rfl (by decide) u5 k _ rfl (hown.alloc _) ⟨w2.heap.size, 0, none⟩ 1 1 (chanV (x1, x2, x3, x4, x5, x6)) rfl rfl ?c1 ?c2 ?c3 ?c4 ?c5 ?_)
      case c1 => exact newsE rfl 60
      case c2 => intro u hu; simp [chanV] at hu; rcases hu with rfl | rfl | rfl | rfl | rfl | rfl <;> rfl
      case c3 => unfold maxLen; omega
      case c4 => omega
      case c5 => simp; omega
      intro v3 w3 hO3 hG3 _
      have HO3 : Hid (Own_chan w3 w.heap.size v3 (rep (dChan s) (k + 1) σ).1) := by
        show Own_chan _ _ _ _
        rw [rep_succ, ← HY.out]
        unfold Own_chan
        rw [List.length_append, HL.out, List.flatMap_append, List.flatMap_cons, List.flatMap_nil, List.append_nil]
        exact hO3
      have hb3 : ∀ j, u5.ownBlock = some j → w.heap.size ≤ j := fun j e => (World.ownsRow.lt HO.out j e).1
      have HR3 : Hid (RdS w3 g b cap s (rep (dChan s) (k + 1) σ).2) := by
        show RdS _ _ _ _ _ _
        rw [rep_succ, ← HY.out]
        have hbl := Rd.lt HR.out
        exact Rd.grown (HR2.out.alloc _) hG3 (fun e => by have := hb3 _ e.symm; omega) (fun e => by have := hb3 _ e.symm; omega)
      have HG3 : Hid (w.grownBy w3 (some g)) := only_after HG2.out hG3 hb3
      clear hO3 hG3 hown
      go_wp2
      go_roundw
      case rel => exact ⟨k + 1, by omega, by go_num, HO3.out, HR3.out, HG3.out⟩
      case measure => simp [intOf]; omega
    · obtain rfl : k = m := by omega
      have HO' := Lib.hid hO
      clear hO hR hG hlen
      go_wp2_with fail
      go_ret
      exact ⟨_, rfl, HO'.out, HR'.out, HG.out⟩
theorem info62_pair : (Tryd.prog.info? 62).map (fun i => (i.zero, i.size, i.bytes)) = some (some (.agg #[.int .u8 0, .int .u8 0]), 2, 2) := by kernel_rfl
set_option maxHeartbeats 1000000 in
set_option maxRecDepth 100000 in
theorem growZ_pair (n : Nat) (w : World) (h0 : 0 < n) (hn : n ≤ 100000) :
    Calls Tryd.prog 88 #[.slice none 0 0, .int .i64 n] w fun e w' => e = .returned (.slice (some ⟨w.heap.size, 0, none⟩) 0 (grownCap w n 0 62)) ∧
      ∃ cur : Array Value, w' = w.drew.alloc (.cells cur 62) ∧ cur.size = grownCap w n 0 62 * 2 := by
  obtain ⟨i0, hi, hz0, hz1, hz2⟩ := info_parts info62_pair
  have hold : (Builtin.firstCells i0.size 0 (.slice none 0 0)).run Tryd.prog w.drew = .ok ([] : List Value).toArray w.drew := run_firstCells_none w.drew i0.size 0 0 0
  have hfit : Builtin.nextslicecap (0 + n) 0 * i0.bytes ≤ 281474976710656 := growslice_fits (by omega) (by rw [hz2]; omega)
  have hG : n ≤ grownCap w n 0 62 := grownCap_ge w _ _ _
  have hrz : ∀ ty, (Builtin.append_ #[26, 3] ty #[.slice none 0 0, .int .i64 (n : Int)]).run Tryd.prog w =
      .ok (.slice (some ⟨w.heap.size, 0, none⟩) n (grownCap w n 0 62)) (w.drew.alloc (.cells (#[] ++ Builtin.zeroCells (Value.cells (.agg #[.int .u8 0, .int .u8 0])) n ++ Builtin.zeroCells (Value.cells (.agg #[.int .u8 0, .int .u8 0])) (grownCap w n 0 62 - n)) 62)) := fun ty => by
    have h := Lib.run_append_grow_zeros w 26 3 ty 62 i0 (.agg #[.int .u8 0, .int .u8 0]) .i64 .i64 Tryd.underlying26 Tryd.underlying3 hi hz0 none 0 0 [] hold n (by omega) (by omega) (by omega) (by omega) (by rw [hz2]; omega) hfit
    simp only [Nat.zero_add] at h
    exact h
  obtain ⟨cur, hcur⟩ : ∃ cur, cur = (#[] ++ Builtin.zeroCells (Value.cells (.agg #[.int .u8 0, .int .u8 0])) n ++ Builtin.zeroCells (Value.cells (.agg #[.int .u8 0, .int .u8 0])) (grownCap w n 0 62 - n)) := ⟨_, rfl⟩
  have hsz : cur.size = grownCap w n 0 62 * 2 := by
    rw [hcur, Array.size_append, Array.size_append, size_zeroCells, size_zeroCells, show (Value.cells (.agg #[.int .u8 0, .int .u8 0])).size = 2 from rfl]
    show 0 + n * 2 + (grownCap w n 0 62 - n) * 2 = _
    omega
  rw [← hcur] at hrz
  clear hcur hold hfit
  have hG63 : grownCap w n 0 62 ≤ 9223372036854775807 := by
    have := grownCap_le_maxLen w n 0 62 (by unfold maxLen; omega)
    unfold maxLen at this
    omega
  generalize grownCap w n 0 62 = G at *
  have HS := Lib.hid hsz
  clear hsz
  go_enter Tryd.func88, Tryd.ntmps88
  go_wp2_with (at_builtin; refine Lib.wpList_append_run _ rfl _ _ _ _ rfl _ _ rfl rfl _ _ (hrz _) ?_)
  all_goals (go_ret; exact ⟨rfl, _, rfl, HS.out⟩)
set_option maxHeartbeats 1000000 in
set_option maxRecDepth 100000 in
theorem grow_pair (n : Nat) (w : World) (hn : n ≤ 100000) :
    Calls Tryd.prog 88 #[.slice none 0 0, .int .i64 n] w fun e w' => ∃ v, e = .returned v ∧ w'.ownsRow w.heap.size 62 2 v 0 [] ∧ Below w.heap.size w w' := by
  by_cases h0 : 0 < n
  · exact (growZ_pair n w h0 hn).mono fun _ _ ⟨he, cur, hw, hc⟩ => by
      subst hw
      refine ⟨_, he, World.ownsRow_made w.drew cur _ (Nat.le_refl _) ?_ hc, ((Below.refl _ _).drew).alloc (Nat.le_refl _) _⟩
      exact grownCap_le_maxLen w n 0 62 (by unfold maxLen; omega)
  · obtain rfl : n = 0 := by omega
    go_enter Tryd.func88, Tryd.ntmps88
    go_wp2
    go_ret
    exact ⟨_, rfl, World.ownsRow_nil _ _ _ _, Below.refl _ _⟩

/-- A list of the call's own. -/
def Own_pair (w : World) (base : Nat) (v : Value) (xs : List PairA) : Prop := w.ownsRow base 62 2 v xs.length (xs.flatMap semV)
def Rel_pair (w : World) (g b cap : Nat) (s : ByteArray) (σ : St) (m : Nat) (v i : Value) (wr : World) : Prop :=
  ∃ k : Nat, k ≤ m ∧ i = .int .i64 k ∧ Own_pair wr w.heap.size v (rep (dPair s) k σ).1 ∧ RdS wr g b cap s (rep (dPair s) k σ).2 ∧ w.grownBy wr (some g)
set_option maxHeartbeats 4000000 in
set_option maxRecDepth 100000 in
theorem list_pair {w : World} {g b cap : Nat} {s : ByteArray} {σ : St} (n : Int) (hn0 : 0 ≤ n) (hn : n ≤ 65535) (h : RdS w g b cap s σ) :
    Calls Tryd.prog 68 #[.int .i64 n, .func (.func 69) #[.agg #[gp g]] #[]] w fun e w' => ∃ v, e = .returned v ∧ Own_pair w' w.heap.size v (rep (dPair s) n.toNat σ).1 ∧ RdS w' g b cap s (rep (dPair s) n.toNat σ).2 ∧ w.grownBy w' (some g) := by
  obtain ⟨m, rfl⟩ : ∃ m : Nat, n = m := ⟨n.toNat, by omega⟩
  simp only [Int.toNat_natCast]
  obtain ⟨i0, hi, hz0, hz1, hz2⟩ := info_parts info62_pair
  have hg := h.glt
  have HR := Lib.hid h
  have HGR := Lib.hid (grow_pair m w (by omega))
  clear h
  go_enter Tryd.func68, Tryd.ntmps68
  go_wp2_with fail
  refine HGR.out.mono ?_
  rintro e w1 ⟨v1, rfl, hO1, hB1⟩
  have HO1 := Lib.hid hO1
  have HB1 := Lib.hid hB1
  clear hO1 hB1 HGR
  go_wp2_with fail
  go_loopw [5, 9] (fun v i wr => Rel_pair w g b cap s σ m v i wr) (fun _ i _ => m - (intOf i).toNat)
  case atStart => exact ⟨0, Nat.zero_le _, rfl, HO1.out, HR.out.below HB1.out, only_below HB1.out _⟩
  case round =>
    obtain ⟨k, hk, rfl, hO, hR, hG⟩ := hrel
    have hs := hG.size
    have hlen := rep_length (dPair s) k σ
    have HL := Lib.hid hlen
    have HG := Lib.hid hG
    have HO : Hid (wr.ownsRow w.heap.size 62 2 u5 k ((rep (dPair s) k σ).1.flatMap semV)) := by
      have := hO
      unfold Own_pair at this
      rw [hlen] at this
      exact this
    have HR' := Lib.hid hR
    by_cases hlt : k < m
    · have HC := pair_any hR
      obtain ⟨y, hy⟩ : ∃ y, y = dPair s (rep (dPair s) k σ).2 := ⟨_, rfl⟩
      rw [← hy] at HC
      obtain ⟨⟨x1, x2⟩, σ'⟩ := y
      try simp only [semV] at HC
      have HC := Lib.hid HC
      have HY := Lib.hid hy
      clear hO hR hG hlen hy
      go_wp2_with fail
      refine HC.out.mono ?_
      rintro e w2 ⟨rfl, hR2, hG2⟩
      have HR2 := Lib.hid hR2
      have HG2 := Lib.hid (only_trans HG.out hG2)
      have hs2 := hG2.size
      have hown := World.ownsRow.kept HO.out hG2 (.inr (fun e => by have := (World.ownsRow.lt HO.out g e).1; omega))
      clear hR2 hG2
      go_wp2_with (at_builtin; refine wpList_append_own _ rfl _ _ 26 rfl w.heap.size 62 i0 (.agg #[.int .u8 0, .int .u8 0]) 2 2 Tryd.underlying26 hi hz0 hz1 hz2 rfl (by decide) u5 k _ rfl (hown.alloc _) ⟨w2.heap.size, 0, none⟩ 1 1 (semV (x1, x2)) rfl rfl ?c1 ?c2 ?c3 ?c4 ?c5 ?_)
      case c1 => exact newsE rfl 62
      case c2 => intro u hu; simp [semV] at hu; rcases hu with rfl | rfl <;> rfl
      case c3 => unfold maxLen; omega
      case c4 => omega
      case c5 => simp; omega
      intro v3 w3 hO3 hG3 _
      have HO3 : Hid (Own_pair w3 w.heap.size v3 (rep (dPair s) (k + 1) σ).1) := by
        show Own_pair _ _ _ _
        rw [rep_succ, ← HY.out]
        unfold Own_pair
        rw [List.length_append, HL.out, List.flatMap_append, List.flatMap_cons, List.flatMap_nil, List.append_nil]
        exact hO3
      have hb3 : ∀ j, u5.ownBlock = some j → w.heap.size ≤ j := fun j e => (World.ownsRow.lt HO.out j e).1
      have HR3 : Hid (RdS w3 g b cap s (rep (dPair s) (k + 1) σ).2) := by
        show RdS _ _ _ _ _ _
        rw [rep_succ, ← HY.out]
        have hbl := Rd.lt HR.out
        exact Rd.grown (HR2.out.alloc _) hG3 (fun e => by have := hb3 _ e.symm; omega) (fun e => by have := hb3 _ e.symm; omega)
      have HG3 : Hid (w.grownBy w3 (some g)) := only_after HG2.out hG3 hb3
      clear hO3 hG3 hown
      go_wp2
      go_roundw
      case rel => exact ⟨k + 1, by omega, by go_num, HO3.out, HR3.out, HG3.out⟩
      case measure => simp [intOf]; omega
    · obtain rfl : k = m := by omega
      have HO' := Lib.hid hO
      clear hO hR hG hlen
      go_wp2_with fail
      go_ret
      exact ⟨_, rfl, HO'.out, HR'.out, HG.out⟩
end Go.Proofs.YtkgkjkghdllkhaaDoor
