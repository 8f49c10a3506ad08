/-
  A piece of the walk.
-/
import Derived.Test.YtoaaeamogpdcgaaDoorWalkPlaysMain
namespace Go.Proofs.YtoaaeamogpdcgaaDoor
open Go.RowKit
set_option linter.all false in
set_option maxHeartbeats 8000000 in
set_option maxRecDepth 100000 in
theorem part_WalkPlays_S2 : part_WalkPlays.S2 := by
  set_option tactic.hygienic false in intro
  set_option tactic.hygienic false in intros
  go_wp2_with fail
  refine (dnew_any a A L ca F w3 ((HV.out.keep HB4.out).up HB4.out.size) HFEW.out.1 (by have := HAA.out; omega)).mono ?_
  rintro e w4 ⟨hB5, h5⟩
  rcases h5 with ⟨hall, _⟩ | ⟨_, rfl⟩
  · exact absurd (hall ib hib) hbad
  unfold nilS
  have HB5 := Lib.hid (HB4.out.trans (hB5.mono HB4.out.size))
  obtain ⟨W4, hW4⟩ : ∃ W4, W4 = w4.alloc (.cells #[.slice none 0 0, .slice none 0 0, .slice none 0 0, .slice none 0 0, .int .i64 0, .bool false] 40) := ⟨_, rfl⟩
  have hB45 : Below w4.heap.size w4 W4 := by rw [hW4]; exact (Below.refl _ _).alloc (Nat.le_refl _) _
  have p0' := kept p0 hB5
  have p1' := kept p1 hB5
  have p2' := kept p2 hB5
  have hpl : w.heap.size < w4.heap.size := cell_lt p0'
  have k0 := kept p0' hB45
  have k1 := kept p1' hB45
  have k2 := kept p2' hB45
  have HB6 := Lib.hid (HB5.out.trans (hB45.mono HB5.out.size))
  have HW4 := Lib.hid hW4
  clear hW4 hB45 hB5 p0 p1 p2
  by_cases hN : 1 ≤ pn ∧ pn ≤ 32
  · obtain ⟨nn, hnn⟩ : ∃ nn : Nat, pn = nn := ⟨pn.toNat, by omega⟩
    have HNN := Lib.hid (And.intro hN hnn)
    clear hN hnn
    go_wp2_with fail
    rw [← HW4.out]
    refine (newr_yes a pn nn W4 HNN.out.2 (by have := HNN.out; omega) (by have := HNN.out; omega) (by have := HAA.out; omega)).mono ?_
    rintro e w5 ⟨rfl, _, hB7, _⟩
    have m0 := kept k0 hB7
    have m1 := kept k1 hB7
    have m2 := kept k2 hB7
    have HB7 := Lib.hid (HB6.out.trans (hB7.mono HB6.out.size))
    clear hB7
    go_wp2_with fail
    refine (dwords_any pn _).mono ?_
    rintro e x1 ⟨rfl, rfl⟩
    rw [fitB_yes HNN.out.1]
    go_wp2_with fail
    go_ret
    exact ⟨rfl, HB7.out⟩
  · have HNN := Lib.hid hN
    clear hN
    go_wp2_with fail
    rw [← HW4.out]
    refine (newr_no a pn W4 HNN.out).mono ?_
    rintro e w5 ⟨rfl, hw5⟩
    subst hw5
    go_wp2_with fail
    refine (dwords_any pn _).mono ?_
    rintro e x1 ⟨rfl, rfl⟩
    rw [fitB_no HNN.out]
    go_wp2_with fail
    go_ret
    exact ⟨rfl, HB6.out⟩
end Go.Proofs.YtoaaeamogpdcgaaDoor
