/-
  The chapter's example holds.
-/
import Derived.Test.YtoaaeamogpdcgaaDoorAwk
namespace Go.Proofs.YtoaaeamogpdcgaaDoor
open Go.RowKit

theorem ex_ok (p : Option Addr) : ∀ i, i < 1 → okV (exF p) i := fun i _ => ⟨⟨by show 1 ≤ 2; omega, by show 2 ≤ 32; omega⟩, rfl⟩
theorem ex_len (p : Option Addr) : 1 * (exF p 0).n ≤ 2000000 := by have : (exF p 0).n = 2 := rfl; omega
theorem ex_wf : Wf (exS.L * exS.k.n) exS.V := flat_wf (n := 2) (L := 1) (F := exF none) (by decide) fun i _ j hj => by
  match j, hj with
  | 0, _ => exact (by decide : (0:Int) ≤ 1 ∧ (1:Int) < 4294967296)
  | 1, _ => exact (by decide : (0:Int) ≤ 2 ∧ (2:Int) < 4294967296)
set_option maxHeartbeats 8000000 in
set_option maxRecDepth 100000 in
theorem awake_any (w : World) (hG : GOk w) : Calls Tryd.prog 9 #[] w fun e w' => e = .returned (.bool true) ∧ Below w.heap.size w w' := by
  have h6 := six_of hG
  have HG := Lib.hid hG
  have HN := Lib.hid (new_one 3 (by omega) (by omega) 3 rfl w)
  clear hG
  go_enter Tryd.func9, Tryd.ntmps9
  go_wp2_with fail
  with_reducible refine HN.out.mono ?_
  rintro e w1 ⟨g, b, rfl, hM1, hg1, hb1, hB1⟩
  have HM1 := Lib.hid hM1
  have HI := Lib.hid (And.intro hg1 hb1)
  have HB1 := Lib.hid hB1
  clear hM1 hg1 hb1 hB1 HN
  go_wp2_with fail
  with_reducible refine (neww_any 0 _ 1 1 (exF (some ⟨w1.heap.size, 0, none⟩)) _ (ex_vers w1 _ _ rfl rfl) (by omega) (fun _ => ex_len _) (by omega) (by omega)).mono ?_
  rintro e w2 ⟨hB2, h2⟩
  rcases h2 with ⟨_, B, G, cap, rfl, hB, hG1, hG2, hB', hW⟩ | ⟨⟨i, hi, hn⟩, _⟩
  · have hs1 : w1.heap.size + 1 + 1 = ((w1.alloc (.cells #[.int .u32 1, .int .u32 2] 22)).alloc (.cells #[.slice (some ⟨w1.heap.size, 0, none⟩) 2 2] 37)).heap.size := by simp
    have HB2 := Lib.hid ((((Below.refl _ w1).alloc (Nat.le_refl _) _).alloc (by simp) _).trans (hB2.mono (by simp; omega)))
    have HW2 : Hid (WriterAt w2 B (exS.k.ph : Nat) (some ⟨G, 0, none⟩) cap exS) := Lib.hid hW
    have HO2 : Hid (w1.heap.size < G ∧ G < B ∧ B < w2.heap.size) := Lib.hid ⟨by simp at hG1; omega, hG2, hB'⟩
    clear hB2 hG1 hG2 hB' hW hB hs1
    go_wp2_with fail
    refine (newr_yes 0 2 2 w2 rfl (by omega) (by omega) (by omega)).mono ?_
    rintro e w3 ⟨rfl, hR, hB3, hz3⟩
    have HB3 := Lib.hid (HB1.out.trans ((HB2.out.trans (hB3.mono HB2.out.size)).mono HB1.out.size))
    have HS : Hid (Sq w.heap.size w3 ⟨g, b, 3, B, w2.heap.size, some ⟨G, 0, none⟩, cap⟩ (fun _ => 0) 0 exS exr0) := Lib.hid (sq_of ((HM1.out.keep HB2.out).keep hB3) (HW2.out.keep hB3) hR (HG.out.keep HB3.out) (fun _ _ => by decide) ex_wf h6 ⟨HI.out.1, HI.out.2, by have := HM1.out.ltg; have := HO2.out; omega, by have := HM1.out.row.lt; have := HO2.out; omega, HO2.out.2.1, HO2.out.2.2⟩ (by decide))
    clear hR hB3 hz3 HW2 HM1 HB1 HB2
    go_wp2_with fail
    refine (sq_store HS.out (by decide) 1 1 7 rfl (show 1 < 3 by decide) (by decide)).mono ?_
    rintro e w4 ⟨rfl, hS, hB⟩
    have HS1 : Hid (Sq w.heap.size w4 ⟨g, b, 3, B, w2.heap.size, some ⟨G, 0, none⟩, cap⟩ (upd (fun _ => 0) 1 7) 1 exS exr0) := Lib.hid hS
    have HB4 := Lib.hid (HB3.out.trans hB)
    clear hS hB
    go_wp2_with fail
    refine (sq_store HS1.out (by decide) 2 2 8 rfl (show 2 < 3 by decide) (by decide)).mono ?_
    rintro e w5 ⟨rfl, hS, hB⟩
    have HS2 : Hid (Sq w.heap.size w5 ⟨g, b, 3, B, w2.heap.size, some ⟨G, 0, none⟩, cap⟩ (exf 0) 2 (exs 0) exr0) := Lib.hid hS
    have HB5 := Lib.hid (HB4.out.trans hB)
    clear hS hB
    go_wp2_with fail
    refine (sq_write HS2.out (by decide) false ex1).mono ?_
    rintro e w6 ⟨rfl, hS, hB⟩
    have HS3 : Hid (Sq w.heap.size w6 ⟨g, b, 3, B, w2.heap.size, some ⟨G, 0, none⟩, cap⟩ (exf 1) 3 (exs 1) exr0) := Lib.hid hS
    have HB6 := Lib.hid (HB5.out.trans hB)
    clear hS hB
    go_wp2_with fail
    refine (sq_write HS3.out (by decide) false ex2).mono ?_
    rintro e w7 ⟨rfl, hS, hB⟩
    have HS4 : Hid (Sq w.heap.size w7 ⟨g, b, 3, B, w2.heap.size, some ⟨G, 0, none⟩, cap⟩ (exf 2) 4 (exs 2) exr0) := Lib.hid hS
    have HB7 := Lib.hid (HB6.out.trans hB)
    clear hS hB
    go_wp2_with fail
    refine (sq_read HS4.out (by decide) (by decide) false er1).mono ?_
    rintro e w8 ⟨rfl, hS, hB⟩
    have HS5 : Hid (Sq w.heap.size w8 ⟨g, b, 3, B, w2.heap.size, some ⟨G, 0, none⟩, cap⟩ (exf 2) 5 (exs 2) exr1) := Lib.hid hS
    have HB8 := Lib.hid (HB7.out.trans hB)
    clear hS hB
    go_wp2_with fail
    refine (sq_tries HS5.out 0 (by rw [ert.1]; rfl)).mono ?_
    rintro e x1 ⟨rfl, rfl⟩
    go_wp2_with fail
    refine (sq_written HS5.out 0 (by rw [ert.2.2.1]; rfl)).mono ?_
    rintro e x2 ⟨rfl, rfl⟩
    go_wp2_with fail
    refine (sq_write HS5.out (by decide) false ex3).mono ?_
    rintro e w9 ⟨rfl, hS, hB⟩
    have HS6 : Hid (Sq w.heap.size w9 ⟨g, b, 3, B, w2.heap.size, some ⟨G, 0, none⟩, cap⟩ (exf 3) 6 (exs 3) exr1) := Lib.hid hS
    have HB9 := Lib.hid (HB8.out.trans hB)
    clear hS hB
    go_wp2_with fail
    refine (sq_write HS6.out (by decide) true ex4).mono ?_
    rintro e w10 ⟨rfl, hS, hB⟩
    have HS7 : Hid (Sq w.heap.size w10 ⟨g, b, 3, B, w2.heap.size, some ⟨G, 0, none⟩, cap⟩ (exf 4) 7 (exs 4) (exr 0)) := Lib.hid hS
    have HB10 := Lib.hid (HB9.out.trans hB)
    clear hS hB
    go_wp2_with fail
    refine (sq_written HS7.out 1 (by rw [ert.2.2.2.1]; rfl)).mono ?_
    rintro e x3 ⟨rfl, rfl⟩
    go_wp2_with fail
    refine (sq_read HS7.out (by decide) (by decide) false er2).mono ?_
    rintro e w11 ⟨rfl, hS, hB⟩
    have HS8 : Hid (Sq w.heap.size w11 ⟨g, b, 3, B, w2.heap.size, some ⟨G, 0, none⟩, cap⟩ (exf 4) 8 (exs 4) (exr 1)) := Lib.hid hS
    have HB11 := Lib.hid (HB10.out.trans hB)
    clear hS hB
    go_wp2_with fail
    refine (sq_read HS8.out (by decide) (by decide) false er3).mono ?_
    rintro e w12 ⟨rfl, hS, hB⟩
    have HS9 : Hid (Sq w.heap.size w12 ⟨g, b, 3, B, w2.heap.size, some ⟨G, 0, none⟩, cap⟩ (exf 4) 9 (exs 4) (exr 2)) := Lib.hid hS
    have HB12 := Lib.hid (HB11.out.trans hB)
    clear hS hB
    go_wp2_with fail
    refine (sq_read HS9.out (by decide) (by decide) false er4).mono ?_
    rintro e w13 ⟨rfl, hS, hB⟩
    have HS10 : Hid (Sq w.heap.size w13 ⟨g, b, 3, B, w2.heap.size, some ⟨G, 0, none⟩, cap⟩ (exf 4) 10 (exs 4) (exr 3)) := Lib.hid hS
    have HB13 := Lib.hid (HB12.out.trans hB)
    clear hS hB
    go_wp2_with fail
    refine (sq_got_no HS10.out ert.2.2.2.2.1).mono ?_
    rintro e x4 ⟨rfl, rfl⟩
    go_wp2_with fail
    refine (sq_read HS10.out (by decide) (by decide) true er5).mono ?_
    rintro e w14 ⟨rfl, hS, hB⟩
    have HS11 : Hid (Sq w.heap.size w14 ⟨g, b, 3, B, w2.heap.size, some ⟨G, 0, none⟩, cap⟩ (exf 4) 11 (exs 4) (exr 4)) := Lib.hid hS
    have HB14 := Lib.hid (HB13.out.trans hB)
    clear hS hB
    go_wp2_with fail
    refine (sq_got_yes HS11.out ert.2.2.2.2.2.1).mono ?_
    rintro e w99 ⟨d, rfl, hrow, _, hS, hB⟩
    have HSZ := Lib.hid hS
    have HBZ := Lib.hid (HB14.out.trans (hB.mono HB14.out.size))
    have r0 := hrow.cell (i := 0) (by omega)
    have r1 := hrow.cell (i := 1) (by omega)
    rw [ert.2.2.2.2.2.2.2.1] at r0
    rw [ert.2.2.2.2.2.2.2.2] at r1
    rw [ert.2.2.2.2.2.2.1]
    clear hrow hS hB
    go_wp2_with fail
    refine (sq_tries HSZ.out 1 (by rw [ert.2.1]; rfl)).mono ?_
    rintro e x5 ⟨rfl, rfl⟩
    go_wp2_with fail
    go_ret
    exact ⟨rfl, HBZ.out⟩
  · exact absurd (ex_ok _ i hi) hn
end Go.Proofs.YtoaaeamogpdcgaaDoor
