/-
  A piece of the walk.
-/
import Derived.Test.YtoaaeamogpdcgaaDoorWalkPlaysMain
namespace Go.Proofs.YtoaaeamogpdcgaaDoor
open Go.RowKit
set_option linter.all false in
set_option maxHeartbeats 8000000 in
set_option maxRecDepth 100000 in
theorem part_WalkPlays_F3 : part_WalkPlays.F3 := by
  set_option tactic.hygienic false in intro
  set_option tactic.hygienic false in intros
  cases z with
  | true =>
    have hin := of_decide_eq_true HZ.out.symm
    obtain ⟨i, hi⟩ : ∃ i : Nat, a = i := ⟨a.toNat, by omega⟩
    have hi40 : i < 40 := by omega
    have hi0 : (0 : Int) ≤ i := by omega
    have hi1 : (i : Int) < 40 := by omega
    rw [hi] at k0
    have HI2 := Lib.hid hi
    have hf := HF6.out i
    have hcw := HU6.out.cell hi40
    rw [Nat.zero_add] at hcw
    have hne : w.heap.size ≠ w5.heap.size := by have := cell_lt HK.out.1; (dsimp only at this); omega
    have hne2 : w5.heap.size ≠ w.heap.size := fun e => hne e.symm
    clear hin hi
    go_wp2_with fail
    have hs6 := HS6.out
    have hsl := HSQ.out.lo
    have hsq0 := HSQ.out.keep HB56.out
    have hlt := HSQ.out.rd.k.lt
    have hltB := HSQ.out.wr.k.lt
    have hmm := HSQ.out.mem
    have hC6 : Chg (fun k => k = w5.heap.size) W6 (W6.setCell ⟨w5.heap.size, i, none⟩ (.int .u32 pc)) := (Chg.refl (S := fun k => k = w5.heap.size) W6).set (a := ⟨w5.heap.size, i, none⟩) rfl _
    have hsq1 := hsq0.out hC6 ⟨fun x => by (obtain ⟨c, _, _, hm⟩ := hmm; have := hm.ltg; have x : g = w5.heap.size := x; dsimp only at this; omega), fun x => by (obtain ⟨c, _, _, hm⟩ := hmm; have := hm.row.lt; have x : b = w5.heap.size := x; dsimp only at this; omega), fun x => by (have x : B = w5.heap.size := x; dsimp only at hltB; omega), fun x => by (have x : W4.heap.size = w5.heap.size := x; dsimp only at hlt; omega)⟩ (fun xb xo xe xh => by (have := HWI.out.2.2.1 xb xo xe; have xh : xb = w5.heap.size := xh; dsimp only at hltB; omega)) (fun k hk => by (have hk : k = w5.heap.size := hk; omega))
    refine (sq_store2 hsq1 (by omega) i i pc rfl hi40 hx).mono ?_
    rintro e x2 ⟨rfl, hsq2, hC2⟩
    have HR2 := Lib.hid (And.intro hsq2 hC2)
    have HC6 := Lib.hid hC6
    have HHL := Lib.hid (And.intro hlt (And.intro hltB hmm))
    clear hsq2 hC2 hC6 hsq1 hsq0 hlt hltB hmm hsl hs6
    go_wp2_with fail
    go_meet
    case rel => exact ⟨_, 1, Nat.le_refl _, HR2.out.1, ((HU6.out.set0 hi40 pc).chgS HR2.out.2 (fun xb xo xe xh => by
      obtain ⟨c, _, _, hm⟩ := HHL.out.2.2
      have h1 := hm.ltg
      have h2 := hm.row.lt
      injection xe with xe
      injection xe with xe
      have xh : xb = g ∨ xb = b := xh
      (try dsimp only at h1 h2)
      omega)), (HC6.out.mono fun k hk => .inr (.inr hk)).trans (HR2.out.2.mono fun k hk => by rcases hk with hk | hk; exact .inl hk; exact .inr (.inl hk))⟩
  | false =>
    have := of_decide_eq_false HZ.out.symm
    go_wp2_with fail
    go_meet
    case rel => exact ⟨_, 0, by omega, HSQ.out.keep HB56.out, HU6.out, Chg.refl _⟩
end Go.Proofs.YtoaaeamogpdcgaaDoor
