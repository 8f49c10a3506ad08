/-
  The chapter's example: awake answers true, and changes nothing that was there.
-/
import Derived.Test.YtamcmkeoiomeiaaDoorWhy
import Derived.Test.YtamcmkeoiomeiaaDoorReads
import Derived.Test.YtamcmkeoiomeiaaDoorTwo
namespace Go.Proofs.YtamcmkeoiomeiaaDoor
open Go.RowKit

def s4 : ByteArray := ⟨#[1, 2, 3, 4]⟩
theorem s4_size : s4.size = 4 := rfl
theorem s4_lit (w : World) : At (w.alloc (.cells #[.int .u8 1, .int .u8 2, .int .u8 3, .int .u8 4] 5)) ⟨w.heap.size, 0, none⟩ s4 := by
  refine At.of_cells fun j hj => ?_
  rw [add_lit, World.cell?_alloc_at _ _ _ _ rfl]
  rw [s4_size] at hj
  match j, hj with
  | 0, _ => rfl
  | 1, _ => rfl
  | 2, _ => rfl
  | 3, _ => rfl

/-- A step of a reader that lies in memory of the call's own. -/
theorem below_only {B g : Nat} {a w w' : World} (h : Below B a w) (hs : B ≤ a.heap.size) (hO : w.grownBy w' (some g)) (hg : B ≤ g) : Below B a w' :=
  h.grown hO (Nat.le_trans hs h.size) (fun k hk => by injection hk with hk; omega)

section
variable {w : World} {g b cap : Nat}
theorem aw_new (w : World) : Calls Tryd.prog 9 #[.slice (some ⟨w.heap.size, 0, none⟩) 4 4] (w.alloc (.cells #[.int .u8 1, .int .u8 2, .int .u8 3, .int .u8 4] 5)) fun e w' =>
    ∃ g b cap, e = .returned (.pointer (some ⟨g, 0, none⟩)) ∧ Rd w' g b cap s4 0 false ∧ w.heap.size ≤ g ∧ Below w.heap.size w w' := by
  have h := new_any ⟨w.heap.size, 0, none⟩ 4 s4 _ (s4_lit w) (by rw [s4_size]; decide)
  rw [s4_size] at h
  refine h.mono ?_
  rintro e w' ⟨g, b, cap, he, hR, hg, _, hB⟩
  simp at hg
  exact ⟨g, b, cap, he, hR, by omega, ((Below.refl _ w).alloc (Nat.le_refl _) _).trans (hB.mono (by simp))⟩
theorem aw_eight (h : Rd w g b cap s4 0 false) : Calls Tryd.prog 22 #[.pointer (some ⟨g, 0, none⟩)] w fun e w' => e = .returned (.int .u8 1) ∧ Rd w' g b cap s4 1 false ∧ w.grownBy w' (some g) :=
  eight_ok h (by rw [s4_size]; decide)
theorem aw_sixteen (h : Rd w g b cap s4 1 false) : Calls Tryd.prog 21 #[.pointer (some ⟨g, 0, none⟩)] w fun e w' => e = .returned (.int .u16 515) ∧ Rd w' g b cap s4 3 false ∧ w.grownBy w' (some g) :=
  sixteen_ok h (by rw [s4_size]; decide)
theorem aw_end (h : Rd w g b cap s4 3 false) : Calls Tryd.prog 15 #[.pointer (some ⟨g, 0, none⟩)] w fun e w' => ∃ f, e = .returned (.iface 56 (.pointer (some ⟨f, 0, none⟩))) ∧ w'.cell? ⟨f, 0, none⟩ = some (.int .i64 3) ∧ w'.cell? ⟨f, 0 + 1, none⟩ = some (.int .i64 21) ∧ Below w.heap.size w w' :=
  (end_more h (by rw [s4_size]; decide)).mono fun _ _ ⟨n, he, hw⟩ => ⟨_, he, by rw [hw]; exact World.cell?_alloc_at _ _ _ _ rfl, by rw [hw]; exact World.cell?_alloc_at _ _ _ _ rfl, by rw [hw]; exact (below_drewN (Below.refl _ _) n).alloc (Nat.le_refl _) _⟩
theorem aw_err (h : Rd w g b cap s4 3 true) : Calls Tryd.prog 13 #[.pointer (some ⟨g, 0, none⟩)] w fun e w' => ∃ f, e = .returned (.iface 56 (.pointer (some ⟨f, 0, none⟩))) ∧ w'.cell? ⟨f, 0, none⟩ = some (.int .i64 3) ∧ w'.cell? ⟨f, 0 + 1, none⟩ = some (.int .i64 20) ∧ Below w.heap.size w w' :=
  (err_bad h).mono fun _ _ ⟨he, hw⟩ => ⟨_, he, by rw [hw]; exact World.cell?_alloc_at _ _ _ _ rfl, by rw [hw]; exact World.cell?_alloc_at _ _ _ _ rfl, by rw [hw]; exact (Below.refl _ _).alloc (Nat.le_refl _) _⟩
theorem aw_six2 (h : Rd w g b cap s4 3 false) : Calls Tryd.prog 21 #[.pointer (some ⟨g, 0, none⟩)] w fun e w' => e = .returned (.int .u16 0) ∧ Rd w' g b cap s4 3 true ∧ w.grownBy w' (some g) :=
  sixteen_no h (by decide)
theorem aw_eight2 (h : Rd w g b cap s4 3 true) : Calls Tryd.prog 22 #[.pointer (some ⟨g, 0, none⟩)] w fun e w' => e = .returned (.int .u8 0) ∧ Rd w' g b cap s4 3 true ∧ w.grownBy w' (some g) :=
  eight_no h (by decide)
theorem aw_two (w : World) : Calls Tryd.prog 20 #[.slice none 0 0, .int .u16 515] w fun e w' => ∃ h c, e = .returned (.slice (some ⟨h, 0, none⟩) 2 c) ∧ w'.cell? ⟨h, 0, none⟩ = some (.int .u8 2) ∧ w'.cell? ⟨h, 1, none⟩ = some (.int .u8 3) ∧ Below w.heap.size w w' := by
  refine (two_nil 515 w (by decide) (by decide)).mono ?_
  rintro e w' ⟨v, he, hO, hv, hB⟩
  rcases hO.2 with ⟨hn, _⟩ | ⟨h, c, cur, rfl, _, _, _⟩
  · exact absurd hn hv
  · have c0 := World.ownsRow.cells hO (g := h) rfl 0 _ rfl
    have c1 := World.ownsRow.cells hO (g := h) rfl 1 _ rfl
    rw [add_lit] at c0 c1
    exact ⟨h, c, he, c0, c1, hB⟩
end

set_option maxHeartbeats 2000000 in
set_option maxRecDepth 100000 in
theorem awake_any (w : World) (hG : GOk w) : Calls Tryd.prog 10 #[] w fun e w' => e = .returned (.bool true) ∧ Below w.heap.size w w' := by
  have HG := Lib.hid hG
  have h0 := hG.lt
  clear hG
  go_enter Tryd.func10, Tryd.ntmps10
  go_wp2_with fail
  refine (aw_new w).mono ?_
  rintro e w1 ⟨g, b, cap, rfl, hR, hg, hB⟩
  have HR := Lib.hid hR
  have HB := Lib.hid hB
  clear hR hB
  go_wp2_with fail
  refine (aw_eight HR.out).mono ?_
  rintro e w2 ⟨rfl, hR, hO⟩
  have HR2 := Lib.hid hR
  have HB2 := Lib.hid (below_only HB.out (Nat.le_refl _) hO hg)
  clear hR hO HR HB
  go_wp2_with fail
  refine (aw_sixteen HR2.out).mono ?_
  rintro e w3 ⟨rfl, hR, hO⟩
  have HR3 := Lib.hid hR
  have HB3 := Lib.hid (below_only HB2.out (Nat.le_refl _) hO hg)
  clear hR hO HR2 HB2
  go_wp2_with fail
  refine (aw_end HR3.out).mono ?_
  rintro e w4 ⟨f, rfl, c0, c1, hB⟩
  have HR4 := Lib.hid (HR3.out.below hB)
  have HB4 := Lib.hid (HB3.out.trans (hB.mono HB3.out.size))
  have HW := Lib.hid (why_fail0 f 0 21 3 w4 (HG.out.below HB4.out h0) c0 c1)
  clear c0 c1 hB HR3 HB3
  go_wp2_with fail
  refine HW.out.mono ?_
  rintro e w5 ⟨rfl, hB⟩
  have HR5 := Lib.hid (HR4.out.below hB)
  have HB5 := Lib.hid (HB4.out.trans (hB.mono HB4.out.size))
  clear hB HR4 HB4 HW
  go_wp2_with fail
  refine (aw_six2 HR5.out).mono ?_
  rintro e w6 ⟨rfl, hR, hO⟩
  have HR6 := Lib.hid hR
  have HB6 := Lib.hid (below_only HB5.out (Nat.le_refl _) hO hg)
  clear hR hO HR5 HB5
  go_wp2_with fail
  refine (aw_err HR6.out).mono ?_
  rintro e w7 ⟨f, rfl, c0, c1, hB⟩
  have HR7 := Lib.hid (HR6.out.below hB)
  have HB7 := Lib.hid (HB6.out.trans (hB.mono HB6.out.size))
  have HW := Lib.hid (why_fail0 f 0 20 3 w7 (HG.out.below HB7.out h0) c0 c1)
  clear c0 c1 hB HR6 HB6
  go_wp2_with fail
  refine HW.out.mono ?_
  rintro e w8 ⟨rfl, hB⟩
  have HR8 := Lib.hid (HR7.out.below hB)
  have HB8 := Lib.hid (HB7.out.trans (hB.mono HB7.out.size))
  clear hB HR7 HB7 HW
  go_wp2_with fail
  refine (aw_eight2 HR8.out).mono ?_
  rintro e w9 ⟨rfl, hR, hO⟩
  have HR9 := Lib.hid hR
  have HB9 := Lib.hid (below_only HB8.out (Nat.le_refl _) hO hg)
  clear hR hO HR8 HB8
  go_wp2_with fail
  refine (aw_two _).mono ?_
  rintro e wa ⟨h, c, rfl, c0, c1, hB⟩
  have HRa := Lib.hid (HR9.out.below hB)
  have HBa := Lib.hid (HB9.out.trans (hB.mono HB9.out.size))
  clear hB HR9 HB9
  go_wp2_with (go_at_call 17; refine (at_any HRa.out).mono ?_; rintro e w' ⟨rfl, rfl⟩)
  go_ret
  exact ⟨rfl, HBa.out⟩
end Go.Proofs.YtamcmkeoiomeiaaDoor
