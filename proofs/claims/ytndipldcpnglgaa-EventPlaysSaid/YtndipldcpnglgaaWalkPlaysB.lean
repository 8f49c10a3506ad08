/-
  A piece of the walk.
-/
import Derived.Test.YtndipldcpnglgaaWalkPlaysMain
namespace Go.Proofs.Ytndipldcpnglgaa
open Go.RowKit
set_option linter.all false in
set_option maxHeartbeats 8000000 in
set_option maxRecDepth 100000 in
theorem part_WalkPlays_B : part_WalkPlays.B := by
  set_option tactic.hygienic false in intro
  set_option tactic.hygienic false in intros
  have hrl : (L.map toD).length ≤ 1000 := by rw [HPA.out.rel.len]; have := HBD.out.q; omega
  have HC1 := Lib.hid (setd_any v X.S.now X.up (L.map toD) wa HPA.out.row hrl)
  clear hrl
  go_wp2_with fail
  with_reducible refine HC1.out.mono ?_
  rintro e w1 ⟨d, rfl, hNd, hB1, hdg⟩
  rw [HPA.out.rel.ids HPA.out.sb.sm.ln.ok] at hNd
  have HBDN : Bd (k + 1) X.set := HBD.out.line true (Nat.zero_le _) rfl
  obtain ⟨dA, dc, rfl, _⟩ := hNd.len
  obtain ⟨G, hG⟩ : ∃ G, G = X.S.nums := ⟨_, rfl⟩
  have hGl : G.length ≤ 100000 := by rw [hG, nums_len]; have := HBD.out.q; omega
  rw [← hG] at hNd hdg ⊢
  have HG := Lib.hid hG
  clear a0 a1 a2 fz d1 d2 d3 HC1 hG
  obtain ⟨w2a, hw2a⟩ : ∃ w2a, w2a = w1.alloc (.cells #[.slice none 0 0, nV X.S.now, .bool true] 29) := ⟨_, rfl⟩
  have hB2 : Below w1.heap.size w1 w2a := by rw [hw2a]; exact (Below.refl _ _).alloc (Nat.le_refl _) _
  have hBa2 := hB1.trans (hB2.mono hB1.size)
  obtain ⟨a0, a1, a2, fz⟩ := HPA.out.bx.keep hBa2
  have z0 : w2a.cell? ⟨w1.heap.size, 0, none⟩ = some (.slice none 0 0) := by rw [hw2a]; exact al_new _ _ _ 0 _ rfl rfl
  have z1 : w2a.cell? ⟨w1.heap.size, 1, none⟩ = some (nV X.S.now) := by rw [hw2a]; exact al_new _ _ _ 1 _ rfl rfl
  have z2 : w2a.cell? ⟨w1.heap.size, 2, none⟩ = some (.bool true) := by rw [hw2a]; exact al_new _ _ _ 2 _ rfl rfl
  obtain ⟨w2, hw2⟩ : ∃ w2, w2 = ((w2a.setCell ⟨pb, 0, none⟩ (.slice none 0 0)).setCell ⟨pb, 1, none⟩ (.int .i64 X.S.now)).setCell ⟨pb, 2, none⟩ (.bool true) := ⟨_, rfl⟩
  obtain ⟨t0, t1, t2, hcg⟩ := threeOf a0 a1 a2 hw2
  have hfz2 : ∀ j, w2.frozen? ⟨pb, j, none⟩ = false := fun j => by rw [hw2, World.frozen?_setCell, World.frozen?_setCell, World.frozen?_setCell]; exact fz j
  have hC12 : Chg (fun k => k = pb) w1 w2 := (Chg.of_below hB2).trans hcg
  have hSB := HPA.out.mid hB1 hC12
  have hdf : ∀ x, (Value.slice dA G.length dc).ownBlock = some x → ¬ SBlk s g b vq x ∧ x ≠ pb := fun x hx => by
    have h1 := hdg x hx
    have h2 := HPA.out.lt
    exact ⟨fun hk => by have := HPA.out.sb.sm.blk_lt hk; omega, by omega⟩
  have hN2 := (hNd.keep hB2).chg hcg (fun x hx => (hdf x hx).2)
  have HN2 := Lib.hid (And.intro hN2 hdf)
  have HST := Lib.hid (show ∀ w4, EvP s g b vq X.set w2 w4 → Hid (PlK w.heap.size w w4 s pb (k + 1)) from fun w4 hP => by
    obtain ⟨vq', h⟩ := HPA.out.step (L' := []) hB1 (DR.nil 0 _) (fun x hx => by cases hx) hC12 (X' := X.set) (v' := .slice none 0 0) ⟨t0, t1, t2, hfz2⟩ hP (Rel.clear X.S)
    exact ⟨g, b, vq', _, X.set, [], h, HBDN⟩)
  have HC2 := Lib.hid (set_few hSB (HBD.out.few hk60))
  clear hB1 hB2 hBa2 hcg hC12 t0 t1 t2 hfz2 hSB hNd hdg hN2 hdf
  go_upto_region 18 with fail
  rw [← hw2a]
  clear hw2a
  go_upto_region 19 with fail
  rw [← hw2]
  clear hw2 a0 a1 a2 z0 z1 z2 fz
  go_wp2_with fail
  with_reducible refine HC2.out.mono ?_
  rintro e w4 ⟨d4, v4, rfl, hN4, h1, h2, h3, _⟩
  rw [← HG.out] at hN4
  have hHX := HST.out w4 ⟨v4, h1, h2, h3⟩
  have hN2 := HN2.out.1.chg h2 (fun x hx => (HN2.out.2 x hx).1)
  obtain ⟨eA, ec, rfl, _⟩ := hN4.len
  have hsm := same_any eA dA ec dc G G w4 hN4.ints hN2.ints hGl
  have HSM := Lib.hid hsm
  clear hsm hN4 h1 h2 h3 hN2 HST HC2
  go_wp2_with fail
  with_reducible refine HSM.out.mono ?_
  rintro e w5 ⟨he, hB5⟩
  rw [decide_eq_true (show G = G from rfl)] at he
  obtain rfl := he
  have HX : Hid (PlK w.heap.size w w5 s pb (k + 1)) := by
    obtain ⟨g6, b6, vq6, v6, X6, L6, hp, hb⟩ := hHX.out
    exact ⟨g6, b6, vq6, v6, X6, L6, hp.keep hB5, hb⟩
  clear hB5 hHX HSM
  go_wp2_with fail
  all_goals go_meet
  all_goals exact HX
end Go.Proofs.Ytndipldcpnglgaa
