/-
  The closures that compare two waiters.
-/
import Derived.Test.YtagfhlnedaagbaaSmall
import Derived.Deep.RegionLaw
import Derived.Deep.DeepCutAuto
import Derived.Deep.RegionHeld3
namespace Go.Proofs.Ytagfhlnedaagbaa
open Go.RowKit

/-- How the order's closure compares two numbers. -/
def ordC (lk : Int → Int × Int × Int) (x y : Int) : Int := orI (cmpI (lk y).1 (lk x).1) (cmpI (lk x).2.2 (lk y).2.2)
/-- Behind a call that only makes memory. -/
def Made (w w' : World) : Prop := Below w.heap.size w w' ∧ w.drawn ≤ w'.drawn
theorem Made.refl (w : World) : Made w w := ⟨Below.refl _ _, Nat.le_refl _⟩
theorem Made.alloc {w w' : World} (h : Made w w') (o : Obj) : Made w (w'.alloc o) := ⟨h.1.alloc h.1.size _, h.2⟩
theorem Made.drew {w w' : World} (h : Made w w') : Made w w'.drew := ⟨h.1.drew, Nat.le_succ_of_le h.2⟩
theorem Made.trans {w w' w'' : World} (h : Made w w') (k : Made w' w'') : Made w w'' := ⟨below_two h.1 k.1, Nat.le_trans h.2 k.2⟩
/-- Two waiters in blocks of their own. -/
def In2 (w wx : World) (v6 v7 : Value) (a0 a1 a2 d0 d1 d2 : Int) : Prop := ∃ i j : Nat, v6 = .pointer (some ⟨i, 0, none⟩) ∧ v7 = .pointer (some ⟨j, 0, none⟩) ∧
  (wx.cell? ⟨i, 0, none⟩ = some (nV a0) ∧ wx.cell? ⟨i, 1, none⟩ = some (nV a1) ∧ wx.cell? ⟨i, 2, none⟩ = some (nV a2)) ∧
  (wx.cell? ⟨j, 0, none⟩ = some (nV d0) ∧ wx.cell? ⟨j, 1, none⟩ = some (nV d1) ∧ wx.cell? ⟨j, 2, none⟩ = some (nV d2)) ∧ Made w wx
theorem In2.one (w : World) (a0 a1 a2 d0 d1 d2 : Int) (t t' : TypeId) : In2 w (((w.alloc (.cells #[nV a0, nV a1, nV a2] t)).alloc (.cells #[nV d0, nV d1, nV d2] t')).drew) (.pointer (some ⟨w.heap.size, 0, none⟩)) (.pointer (some ⟨w.heap.size + 1, 0, none⟩)) a0 a1 a2 d0 d1 d2 :=
  ⟨_, _, rfl, rfl, ⟨al_cell (al_new _ _ _ 0 _ rfl rfl), al_cell (al_new _ _ _ 1 _ rfl rfl), al_cell (al_new _ _ _ 2 _ rfl rfl)⟩,
    ⟨al_new _ _ _ 0 _ (by simp) rfl, al_new _ _ _ 1 _ (by simp) rfl, al_new _ _ _ 2 _ (by simp) rfl⟩, (((Made.refl w).alloc _).alloc _).drew⟩
theorem In2.two (w : World) (a0 a1 a2 d0 d1 d2 : Int) (t t' : TypeId) : In2 w (((w.alloc (.cells #[nV d0, nV d1, nV d2] t)).alloc (.cells #[nV a0, nV a1, nV a2] t')).drew) (.pointer (some ⟨w.heap.size + 1, 0, none⟩)) (.pointer (some ⟨w.heap.size, 0, none⟩)) a0 a1 a2 d0 d1 d2 :=
  ⟨_, _, rfl, rfl, ⟨al_new _ _ _ 0 _ (by simp) rfl, al_new _ _ _ 1 _ (by simp) rfl, al_new _ _ _ 2 _ (by simp) rfl⟩,
    ⟨al_cell (al_new _ _ _ 0 _ rfl rfl), al_cell (al_new _ _ _ 1 _ rfl rfl), al_cell (al_new _ _ _ 2 _ rfl rfl)⟩, (((Made.refl w).alloc _).alloc _).drew⟩
set_option maxHeartbeats 1000000 in
theorem order1_any {g b p n : Nat} {hs : Int → Bool} {lk : Int → Int × Int × Int} (x y : Int) (hx : I64 x) (hy : I64 y) (w : World) (c0 : w.cell? ⟨g, 0, none⟩ = some (.map (some b))) (hm : MapAt w b hs lk n) (hp : w.cell? ⟨p, 0, none⟩ = some (.pointer (some ⟨g, 0, none⟩))) :
    Calls Try.prog 47 #[nV x, nV y, .pointer (some ⟨p, 0, none⟩)] w fun e w' => e = .returned (nV (ordC lk x y)) ∧ Made w w' := by
  have lg : g < w.heap.size := cell_lt c0
  have lp : p < w.heap.size := cell_lt hp
  have hB : ∀ o1 o2, Below w.heap.size w (((w.alloc o1).alloc o2).drew) := fun o1 o2 => (((Below.refl _ _).alloc (Nat.le_refl _) _).alloc (by simp) _).drew
  have hB1 : ∀ o1, Below w.heap.size w ((w.alloc o1).drew) := fun o1 => ((Below.refl _ _).alloc (Nat.le_refl _) _).drew
  have hB0 : Below w.heap.size w w.drew := (Below.refl _ _).drew
  have hgx := fun o1 o2 => (hm.keep (hB o1 o2)).get hx
  have hgy := fun o1 o2 => (hm.keep (hB o1 o2)).get hy
  have hgx1 := fun o1 => (hm.keep (hB1 o1)).get hx
  have hgy1 := fun o1 => (hm.keep (hB1 o1)).get hy
  have hgx0 := (hm.keep hB0).get hx
  have hgy0 := (hm.keep hB0).get hy
  clear hB hB1 hB0
  obtain ⟨e, he⟩ : ∃ e, e = ordC lk x y := ⟨_, rfl⟩
  rw [← he]
  unfold ordC at he
  obtain ⟨a, ha⟩ : ∃ a, a = lk x := ⟨_, rfl⟩
  obtain ⟨d, hd⟩ : ∃ d, d = lk y := ⟨_, rfl⟩
  simp only [← ha] at hgx hgx1 hgx0
  simp only [← hd] at hgy hgy1 hgy0
  rw [← ha, ← hd] at he
  obtain ⟨a0, a1, a2⟩ := a
  obtain ⟨d0, d1, d2⟩ := d
  simp only [wV] at hgx hgy hgx1 hgy1 hgx0 hgy0
  dsimp only at he
  have HE := Lib.hid he
  clear he ha hd hm
  go_enter Try.func47, Try.ntmps47
  go_wp2_with fail
  go_cut [6, 7] (fun v6 v7 wx => In2 w wx v6 v7 a0 a1 a2 d0 d1 d2)
  case first =>
    go_region
    all_goals go_wp2_with fail
    all_goals go_meet
    all_goals first | exact In2.one _ _ _ _ _ _ _ _ _ | exact In2.two _ _ _ _ _ _ _ _ _ | skip
  case rest =>
    obtain ⟨i, j, rfl, rfl, ⟨ci0, ci1, ci2⟩, ⟨cj0, cj1, cj2⟩, hM⟩ := hcut
    have HM := Lib.hid hM
    clear hM hgx hgy hgx1 hgy1 hgx0 hgy0
    go_wp2_with fail
    go_region_held3 (fun w' => w'.cell? ⟨j, 0, none⟩ = some (nV d0) ∧ w'.cell? ⟨i, 0, none⟩ = some (nV a0) ∧ w'.cell? ⟨i, 2, none⟩ = some (nV a2) ∧ w'.cell? ⟨j, 2, none⟩ = some (nV d2)) (go_keep)
      (first
       | (with_reducible refine (cmp_any _ _ _).mono ?_; rintro e w' ⟨rfl, rfl⟩)
       | (with_reducible refine (or_any (cmpI d0 a0) (cmpI a2 d2) _ _ (by simp) (by simp)).mono ?_; rintro e w' ⟨rfl, rfl⟩))
    all_goals go_wp2_with fail
    all_goals go_ret
    all_goals exact ⟨by rw [HE.out]; rfl, (HM.out.alloc _).drew⟩
end Go.Proofs.Ytagfhlnedaagbaa
