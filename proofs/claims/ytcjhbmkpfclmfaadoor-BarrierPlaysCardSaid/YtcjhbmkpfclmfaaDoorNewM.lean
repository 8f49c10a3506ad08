/-
  A new machine.
-/
import Derived.Test.YtcjhbmkpfclmfaaDoorRnd
import Derived.Deep.AppendLies
import Derived.Laws.IdiomStrings
import Derived.Lib.SliceRun
import Derived.Laws.AppendOwnNone
namespace Go.Proofs.YtcjhbmkpfclmfaaDoor
open Go.RowKit

theorem info80 : (Tryd.prog.info? 80).map (fun i => (i.zero, i.size, i.bytes)) = some (some .nilIface, 1, 16) := by kernel_rfl
theorem info4 : (Tryd.prog.info? 4).map (fun i => (i.zero, i.size, i.bytes)) = some (some (.bool false), 1, 1) := by kernel_rfl
/-- Values in a list from an address on. -/
def ValsAt (w : World) (A : Option Addr) (n : Nat) (p : Nat → Value) : Prop := ∀ i, i < n → ∃ b o, A = some ⟨b, o, none⟩ ∧ w.cell? ⟨b, o + i, none⟩ = some (p i)
theorem ValsAt.keep {w w' : World} {A : Option Addr} {n : Nat} {p : Nat → Value} (h : ValsAt w A n p) (hB : Below w.heap.size w w') : ValsAt w' A n p := fun i hi => by
  obtain ⟨b, o, e, hc⟩ := h i hi
  exact ⟨b, o, e, kept hc hB⟩
/-- Values in a row of their own. -/
def RowP (H n : Nat) (p : Nat → Value) (w : World) (e : Ending) (w' : World) : Prop :=
  ∃ A cap TB, e = .returned (.slice A n cap) ∧ H ≤ TB ∧ (∀ i, i < n → A = some ⟨TB, 0, none⟩ ∧ w'.cell? ⟨TB, i, none⟩ = some (p i)) ∧ Below H w w'
theorem rowP_of {H n : Nat} {p : Nat → Value} {w w' : World} {v : Value} (h : w'.ownsRow H 80 1 v n ((List.range n).map p)) (hB : Below H w w') : RowP H n p w (.returned v) w' := by
  rcases h.2 with ⟨rfl, rfl⟩ | ⟨g, cap, cur, rfl, hg, hr, h1, h2, h3, h4⟩
  · exact ⟨none, 0, H, rfl, Nat.le_refl _, fun i hi => absurd hi (by omega), hB⟩
  · refine ⟨_, cap, g, rfl, hg, fun i hi => ⟨rfl, ?_⟩, hB⟩
    rw [World.ownsRow.cellAt h i (by omega), List.getElem?_map, List.getElem?_range hi]
    rfl
theorem add_off (b o j : Nat) : (⟨b, o, none⟩ : Addr).add j = ⟨b, o + j, none⟩ := by cases j <;> simp [Addr.add]
set_option maxHeartbeats 1000000 in
theorem clone_any (A : Option Addr) (n c : Nat) (p : Nat → Value) (w : World) (hA : ValsAt w A n p) (hp : ∀ i, i < n → (p i).oneCell' = true) (hn : n ≤ 1000) :
    Calls Tryd.prog 32 #[.slice A n c] w fun e w' => RowP w.heap.size n p w e w' := by
  have q23 := fun (w : World) (a : Option Addr) (n c n' c' : Nat) => Lib.run_eql_slice_nil (P := Tryd.prog) w 73 80 a n c n' c' Tryd.underlying73
  cases A with
  | none =>
    have h0 : n = 0 := by
      rcases Nat.eq_zero_or_pos n with h | h
      · exact h
      · obtain ⟨b, o, e, _⟩ := hA 0 h; cases e
    subst h0
    clear hA hp
    go_enter Tryd.func32, Tryd.ntmps32
    go_wp2_with fail
    go_ret
    exact ⟨none, 0, w.heap.size, rfl, Nat.le_refl _, fun i hi => absurd hi (by omega), Below.refl _ _⟩
  | some a =>
    obtain ⟨i0, hi, hz0, hz1, hz2⟩ := info_parts info80
    have hown : (w.alloc (.cells #[] 80)).ownsRow w.heap.size 80 1 (.slice (some ⟨w.heap.size, 0, none⟩) 0 0) 0 [] := World.ownsRow_lit w #[] 0 (Nat.le_refl _) (by decide) rfl
    have hB : Below w.heap.size w (w.alloc (.cells #[] 80)) := (Below.refl _ _).alloc (Nat.le_refl _) _
    have hnews : ∀ j u, ((List.range n).map p)[j]? = some u → (w.alloc (.cells #[] 80)).cell? (a.add j) = some u := by
      intro j u hu
      have hj : j < n := by have := (List.getElem?_eq_some_iff.1 hu).1; simpa using this
      obtain ⟨b, o, e, hc⟩ := hA j hj
      injection e with e
      subst e
      rw [List.getElem?_map, List.getElem?_range hj] at hu
      injection hu with hu
      subst hu
      rw [add_off]
      exact kept hc hB
    have hone : ∀ u ∈ (List.range n).map p, u.oneCell' = true := by
      intro u hu
      obtain ⟨i, hi, rfl⟩ := List.mem_map.1 hu
      exact hp i (List.mem_range.1 hi)
    have hlen : ((List.range n).map p).length = n := by simp
    obtain ⟨xs, hxs⟩ : ∃ xs, xs = (List.range n).map p := ⟨_, rfl⟩
    rw [← hxs] at hnews hone hlen
    have HNW := Lib.hid hnews
    have HB := Lib.hid hB
    have HLN := Lib.hid hlen
    have HON := Lib.hid hone
    have HXS := Lib.hid hxs
    clear hA hB hnews hlen hone hxs hp
    go_enter Tryd.func32, Tryd.ntmps32
    go_wp2_with (at_builtin; refine wpList_append_own _ rfl _ _ 73 rfl w.heap.size 80 i0 .nilIface 1 16 Tryd.underlying73 hi hz0 hz1 hz2 rfl (by decide) _ _ _ rfl hown a n c xs rfl ?c0 ?c1 ?c2 ?c3 ?c4 ?c5 ?_)
    case c0 => rw [HLN.out, Nat.mul_one]
    case c1 => exact HNW.out
    case c2 => exact HON.out
    case c3 => unfold maxLen; simp; omega
    case c4 => simp; omega
    case c5 => simp
    intro v' w1 hown' hgrow _
    have hO : w1.ownsRow w.heap.size 80 1 v' n xs := by simpa using hown'
    have HO := Lib.hid hO
    have HB1 := Lib.hid (HB.out.grown hgrow (by simp) (fun k hk => (World.ownsRow.lt hown k hk).1))
    clear hown' hgrow hown hO
    go_wp2_with fail
    go_ret
    exact rowP_of (by rw [← HXS.out]; exact HO.out) HB1.out
/-- What New does. -/
def NewM (g n : Nat) (p : Nat → Value) (w : World) (e : Ending) (w' : World) : Prop :=
  ∃ X A TB cap D, e = .returned (.pointer (some ⟨X, 0, none⟩)) ∧ MachAt w' X g A TB n cap D p (fun _ => false) ∧ w.heap.size ≤ X ∧ w.heap.size ≤ TB ∧ w.heap.size ≤ D ∧ X < w'.heap.size ∧ TB < w'.heap.size ∧ Below w.heap.size w w'
/-- The tasks' values before who is done. -/
theorem newM_one {g n : Nat} {p : Nat → Value} {w w1 : World} {A : Option Addr} {cap TB : Nat} (hT : ∀ i, i < n → A = some ⟨TB, 0, none⟩ ∧ w1.cell? ⟨TB, i, none⟩ = some (p i)) (hTB : w.heap.size ≤ TB) (hB : Below w.heap.size w w1) :
    NewM g n p w (.returned (.pointer (some ⟨w1.heap.size + 1, 0, none⟩))) ((w1.alloc (.cells (madeCells #[.bool false] n) 4)).alloc (.cells #[.pointer (some ⟨g, 0, none⟩), .slice A n cap, .slice (some ⟨w1.heap.size, 0, none⟩) n n] 78)) := by
  have hs := hB.size
  have hlt : 0 < n → TB < w1.heap.size := fun h0 => by have := cell_lt (hT 0 h0).2; exact this
  refine ⟨w1.heap.size + 1, A, if n = 0 then w1.heap.size + 1 else TB, cap, w1.heap.size, rfl, ⟨al_new _ _ _ 0 _ (by simp) rfl, al_new _ _ _ 1 _ (by simp) rfl, al_new _ _ _ 2 _ (by simp) rfl, fun i hi => ?_, (World.rowIs_made w1 (.bool false) n 4).alloc _, by omega, by split <;> omega⟩, by omega, by split <;> omega, by omega, by simp, by simp; split <;> omega, (hB.alloc hs _).alloc (by simp; omega) _⟩
  rw [if_neg (by omega)]
  obtain ⟨e, hc⟩ := hT i hi
  exact ⟨e, al_cell (al_cell hc)⟩
/-- Who is done before the tasks' values. -/
theorem newM_two {g n : Nat} {p : Nat → Value} {w w1 : World} {A : Option Addr} {cap TB : Nat} (hT : ∀ i, i < n → A = some ⟨TB, 0, none⟩ ∧ w1.cell? ⟨TB, i, none⟩ = some (p i)) (hTB : (w.drew.alloc (.cells (madeCells #[.bool false] n) 4)).heap.size ≤ TB)
    (hB : Below (w.drew.alloc (.cells (madeCells #[.bool false] n) 4)).heap.size (w.drew.alloc (.cells (madeCells #[.bool false] n) 4)) w1) :
    NewM g n p w (.returned (.pointer (some ⟨w1.heap.size, 0, none⟩))) (w1.alloc (.cells #[.pointer (some ⟨g, 0, none⟩), .slice A n cap, .slice (some ⟨w.heap.size, 0, none⟩) n n] 78)) := by
  have hs := hB.size
  simp at hs hTB
  have hlt : 0 < n → TB < w1.heap.size := fun h0 => by have := cell_lt (hT 0 h0).2; exact this
  have hB0 : Below w.heap.size w w1 := ((Below.refl _ _).drew.alloc (Nat.le_refl _) _).trans (hB.mono (by simp))
  have hrow : w1.rowIs w.heap.size 4 n fun _ => .bool false := (World.rowIs_made w.drew (.bool false) n 4).of_block (hB.block _ (by simp))
  refine ⟨w1.heap.size, A, if n = 0 then w1.heap.size else TB, cap, w.heap.size, rfl, ⟨al_new _ _ _ 0 _ rfl rfl, al_new _ _ _ 1 _ rfl rfl, al_new _ _ _ 2 _ rfl rfl, fun i hi => ?_, hrow.alloc _, by omega, by split <;> omega⟩, by omega, by split <;> omega, by omega, by simp, by simp; split <;> omega, hB0.alloc (by omega) _⟩
  rw [if_neg (by omega)]
  obtain ⟨e, hc⟩ := hT i hi
  exact ⟨e, al_cell hc⟩
set_option maxHeartbeats 2000000 in
set_option maxRecDepth 100000 in
theorem new_mach (g : Nat) (A : Option Addr) (n c : Nat) (p : Nat → Value) (w : World) (hA : ValsAt w A n p) (hp : ∀ i, i < n → (p i).oneCell' = true) (hn : n ≤ 1000) :
    Calls Tryd.prog 27 #[.pointer (some ⟨g, 0, none⟩), .slice A n c] w fun e w' => NewM g n p w e w' := by
  have hmk := fun W => run_make_row' (P := Tryd.prog) 76 4 (.bool false) 1 Tryd.underlying76 info4 rfl .i64 .i64 n (by omega) (by omega) W
  have HC := Lib.hid (fun W (hB : Below w.heap.size w W) => clone_any A n c p W (hA.keep hB) hp hn)
  clear hA hp
  go_enter Tryd.func27, Tryd.ntmps27
  go_wp2_with fail
  go_region_held3 (fun _ => True) (trivial)
    (first
      | (go_at_call 32
         refine (HC.out _ (by first | exact (Below.refl _ _).drew | exact ((Below.refl _ _).drew).alloc (Nat.le_refl _) _)).mono ?_
         rintro e w1 ⟨A1, cap1, TB, rfl, hTB, hT, hB1⟩
         have HT := Lib.hid hT
         have HB1 := Lib.hid hB1
         clear hT hB1))
  · go_wp2_with fail
    go_ret
    exact newM_one HT.out hTB (by have := HB1.out; exact ⟨this.os, this.tape, this.output, this.size, this.block⟩)
  · go_wp2_with fail
    go_ret
    exact newM_two HT.out hTB HB1.out
end Go.Proofs.YtcjhbmkpfclmfaaDoor
