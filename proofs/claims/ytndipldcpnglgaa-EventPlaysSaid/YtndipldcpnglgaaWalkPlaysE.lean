/-
  A piece of the walk.
-/
import Derived.Test.YtndipldcpnglgaaWalkPlaysMain
namespace Go.Proofs.Ytndipldcpnglgaa
open Go.RowKit
set_option linter.all false in
set_option maxHeartbeats 8000000 in
set_option maxRecDepth 100000 in
theorem part_WalkPlays_E : part_WalkPlays.E := by
  set_option tactic.hygienic false in intro
  set_option tactic.hygienic false in intros
  have hrl : (L.map toD).length ≤ 1000 := by rw [HPA.out.rel.len]; have := HBD.out.q; omega
  have hmt := meth_exp g
  have HC1 := Lib.hid (expd_any v X.S.now y3 (L.map toD) wa HPA.out.row hrl)
  clear hrl
  go_wp2_with fail
  with_reducible refine HC1.out.mono ?_
  rintro e w1 hG
  obtain ⟨v', d, L', rfl, hD, hNd, hrel, hB1, hdg, hS⟩ := exp_alike HPA.out.rel HPA.out.sb.sm.ln.ok hG
  have HBDN : Bd (k + 1) ⟨X.S.expire y3, X.up⟩ := HBD.out.line X.up (expire_len X.S y3).1 (expire_len X.S y3).2
  obtain ⟨dA, dc, rfl, _⟩ := hNd.len
  clear a0 a1 a2 fz d1 d2 d3 HC1 hG
  obtain ⟨A', c', rfl, _⟩ := hD.len
  rw [List.length_map] at hD hS ⊢
  obtain ⟨w2a, hw2a⟩ : ∃ w2a, w2a = w1.alloc (.cells #[.slice A' L'.length c', nV (X.S.expire y3).now] 27) := ⟨_, rfl⟩
  have hB2 : Below w1.heap.size w1 w2a := by rw [hw2a]; exact (Below.refl _ _).alloc (Nat.le_refl _) _
  have hBa2 := hB1.trans (hB2.mono hB1.size)
  have hbx2 := HPA.out.bx.keep hBa2
  obtain ⟨a0, a1, a2, fz⟩ := hbx2
  have z0 : w2a.cell? ⟨w1.heap.size, 0, none⟩ = some (.slice A' L'.length c') := by rw [hw2a]; exact al_new _ _ _ 0 _ rfl rfl
  have z1 : w2a.cell? ⟨w1.heap.size, 1, none⟩ = some (nV (X.S.expire y3).now) := by rw [hw2a]; exact al_new _ _ _ 1 _ rfl rfl
  obtain ⟨V2, hV2⟩ : ∃ V2 : Value, V2 = .slice A' L'.length c' := ⟨_, rfl⟩
  obtain ⟨w2, hw2⟩ : ∃ w2, w2 = (w2a.setCell ⟨pb, 0, none⟩ V2).setCell ⟨pb, 1, none⟩ (.int .i64 ((X.S.expire y3).now)) := ⟨_, rfl⟩
  have hbw : Box3 w2 pb V2 ((X.S.expire y3).now) X.up := by rw [hw2]; exact Box3.set01 ⟨a0, a1, a2, fz⟩
  have hcg : Chg (fun k => k = pb) w2a w2 := by rw [hw2]; exact Chg.set (S := fun k => k = pb) (a := ⟨pb, 1, none⟩) (Chg.set (S := fun k => k = pb) (a := ⟨pb, 0, none⟩) (Chg.refl w2a) rfl _) rfl _
  have hC12 : Chg (fun k => k = pb) w1 w2 := (Chg.of_below hB2).trans hcg
  obtain ⟨e1, e2, e3⟩ := HCL.out w2a hBa2 w2 hcg
  have hSB := HPA.out.mid hB1 hC12
  have k0 := hSB.sm.c0
  have HSB := Lib.hid hSB
  have HST := Lib.hid (show ∀ w4, LnP g b vq (X.S.expire y3) w2 w4 → Hid (PlK w.heap.size w w4 s pb (k + 1)) from fun w4 hP => by
    obtain ⟨vq', h⟩ := HPA.out.step (L' := L') hB1 hD hS hC12 (X' := ⟨(X.S.expire y3), X.up⟩) (v' := .slice A' L'.length c') (by rw [← hV2]; exact hbw) (hSB.sm.line hP) hrel
    exact ⟨g, b, vq', _, _, L', h, HBDN⟩)
  have hdf : ∀ x, (Value.slice dA ((X.S.goneE y3).map fun a => (a.id.val : Int)).length dc).ownBlock = some x → ¬ Blk g b vq x ∧ x ≠ pb := fun x hx => by
    have h1 := hdg x hx
    have h2 := HPA.out.lt
    exact ⟨fun hk => by have := HPA.out.sb.sm.blk_lt (.inr hk); omega, by omega⟩
  have hN2 := (hNd.keep hB2).chg hcg (fun x hx => (hdf x hx).2)
  have HN2 := Lib.hid (And.intro hN2 hdf)
  have HC2 := Lib.hid (exp_any y3 w2.drew (hSB.sm.ln.keep (below_dn w2 1)) (Nat.le_trans (HBD.out.few hk60).1 (by omega)))
  have hgl : ((X.S.goneE y3).map fun a => (a.id.val : Int)).length ≤ 100000 := by
    have h1 := (HBD.out.few hk60).1
    rw [List.length_map]
    unfold Ln.goneE Ln.gone
    split
    · rw [(sortBy_perm _ _).length_eq]
      exact Nat.le_trans (List.length_filter_le _ _) (by omega)
    · simp
  obtain ⟨G, hG⟩ : ∃ G, G = (X.S.goneE y3).map fun a => (a.id.val : Int) := ⟨_, rfl⟩
  rw [← hG] at HN2 hgl
  obtain ⟨E, hE⟩ : ∃ E, E = X.S.expE y3 := ⟨_, rfl⟩
  have HGE := Lib.hid (And.intro hG hE)
  obtain ⟨n5, hn5⟩ : ∃ n5, n5 = G.length := ⟨_, rfl⟩
  have HN5 := Lib.hid hn5
  rw [← hG, ← hE, ← hn5]
  clear hD hB1 hB2 hBa2 hS hcg hC12 hbw hSB hrel hN2 hdf hdg hNd hG hE hn5
  go_upto_region 31 with fail
  rw [← hw2a]
  clear hw2a
  go_upto_region 32 with fail
  rw [← hV2, ← hw2]
  clear hw2 hV2 a0 a1 a2 z0 z1 fz
  go_cut [21, 22] (fun dv ev wx => ev = .int .i64 E ∧ ∃ (eA : Option Addr) (ec : Nat), dv = .slice eA n5 ec ∧ Hid (Ints wx eA G ∧ Ints wx dA G ∧ LnP g b vq (X.S.expire y3) w2 wx))
  case first =>
    go_region_law ((go_simp; (with_reducible refine HC2.out.mono ?_); (rintro e w4 ⟨d', he, hN4, ⟨vq', k1, k2, k3⟩, _⟩); (rw [← HGE.out.2] at he); (rw [← HGE.out.1] at hN4); (obtain rfl := he); (obtain ⟨eA, ec, rfl, _⟩ := hN4.len)))
    all_goals have k2' : Chg (Blk g b vq) w2 w4 := ⟨k2.os, k2.tape, k2.output, k2.size, k2.block⟩
    all_goals have hX : Hid (Ints w4 eA G ∧ Ints w4 dA G ∧ LnP g b vq (X.S.expire y3) w2 w4) := ⟨hN4.ints, (HN2.out.1.chg k2' (fun x hx => (HN2.out.2 x hx).1)).ints, same_ln k1 k2' k3⟩
    all_goals clear k1 k2 k2' k3 hN4
    all_goals rw [← HN5.out]
    all_goals go_wp2_with fail
    all_goals go_meet
    all_goals exact ⟨rfl, eA, ec, rfl, hX⟩
  case rest =>
    obtain ⟨rfl, eA, ec, rfl, HH⟩ := hcut
    have hsm := same_any eA dA ec dc G G wc HH.out.1 HH.out.2.1 hgl
    rw [← HN5.out] at hsm
    have HSM := Lib.hid hsm
    clear hsm
    go_wp2_with fail
    with_reducible refine HSM.out.mono ?_
    rintro e w5 ⟨he, hB5⟩
    rw [decide_eq_true (show G = G from rfl)] at he
    obtain rfl := he
    have HX : Hid (PlK w.heap.size w w5 s pb (k + 1)) := HST.out w5 (by obtain ⟨vq', k1, k2, k3⟩ := HH.out.2.2; exact ⟨vq', k1.keep hB5, k2.trans (Chg.of_below hB5), k3⟩)
    clear hB5
    go_wp2_with fail
    all_goals go_meet
    all_goals exact HX
end Go.Proofs.Ytndipldcpnglgaa
