/-
  A call on the code's line beside the document's: Expire, and no call; any call.
-/
import Derived.Test.YtagfhlnedaagbaaDoesR
namespace Go.Proofs.Ytagfhlnedaagbaa
open Go.RowKit

/-- What the document's Expire answers, beside the code's line. -/
def ExpA (S : Ln) (t : Int) (v : Value) (w : World) (e : Ending) (w' : World) : Prop := ∃ v' d L', e = .returned (.tuple #[.agg #[v', nV (S.expire t).now], d, .int .i64 (S.expE t)]) ∧ DR 0 w' v' (L'.map toD) ∧ Nums w' d ((S.goneE t).map fun a => (a.id.val : Int)) ∧ Rel (S.expire t) L' ∧ Below w.heap.size w w' ∧ (∀ x, d.ownBlock = some x → w.heap.size ≤ x) ∧ Src v v' w.heap.size
theorem exp_alike {S : Ln} {L : List Wt} {t : Int} {v : Value} {w w' : World} {e : Ending} (h : Rel S L) (ok : Ok S) (hE : ExpG v (L.map toD) S.now t w e w') : ExpA S t v w e w' := by
  unfold ExpG at hE
  by_cases hb : t < S.now ∨ 1099511627776 < t
  · rw [if_pos hb] at hE
    obtain ⟨v', rfl, h1, h2, h3⟩ := hE
    have he : S.expE t = 144 := by unfold Ln.expE; rw [if_pos hb]
    have hx : S.expire t = S := by unfold Ln.expire; rw [he]; rfl
    have hg : S.goneE t = [] := by unfold Ln.goneE; rw [he]; rfl
    refine ⟨v', _, L, by rw [he, hx], h1, by rw [hg]; exact Nums.nil _, by rw [hx]; exact h, h2, (fun x e => by cases e), h3⟩
  · rw [if_neg hb] at hE
    obtain ⟨v', d, outs, l', rfl, h1, h2, h3, h4, h5, h6⟩ := hE
    have he : S.expE t = 0 := by unfold Ln.expE; rw [if_neg hb]
    obtain ⟨g1, L', g2, g3⟩ := h.exp ok he h1
    have hnow : (S.expire t).now = t := by unfold Ln.expire; rw [if_pos he]
    exact ⟨v', d, L', by rw [he, hnow], by rw [← g2]; exact h2, by rw [← g1]; exact h3, g3, h4, h5, h6⟩
set_option maxRecDepth 100000 in
set_option maxHeartbeats 8000000 in
theorem does_rel_exp {g b : Nat} {v vd : Value} {S : Ln} {L : List Wt} (y1 y2 y3 : Int) (hy1 : I64 y1) (w : World) (h : LnAt w g b v S) (hA : DR 0 w vd (L.map toD)) (hap : ∀ x, vd.ownBlock = some x → ¬ Blk g b v x) (hR : Rel S L) (hn : S.q.length ≤ 900) (_ : S.n ≤ 900) :
    Calls Try.prog 10 #[.pointer (some ⟨g, 0, none⟩), .agg #[vd, nV S.now], .agg #[nV 3, nV y1, nV y2, nV y3]] w fun e w' => DoR g b v (S.expire y3) vd w e w' := by
  have hl : (L.map toD).length ≤ 1000 := by rw [hR.len]; omega
  obtain ⟨dA0, dc0, rfl, _⟩ := hA.len
  obtain ⟨nd, hnd⟩ : ∃ nd, nd = (L.map toD).length := ⟨_, rfl⟩
  rw [← hnd] at hA hap ⊢
  have HP := Lib.hid (fun W (hB : Below w.heap.size w W) => expd_any (.slice dA0 nd dc0) S.now y3 (L.map toD) W (hA.keep hB) hl)
  clear hnd
  have HQ := Lib.hid (fun W (hB : Below w.heap.size w W) => exp_any y3 W (h.keep hB) (by omega))
  have H := Lib.hid (And.intro h (And.intro hA (And.intro hap hR)))
  have HLT := Lib.hid (fun k (hk : Blk g b v k) => h.blk_lt hk)
  have HY1 := Lib.hid hy1
  clear h hA hap hR hy1
  go_enter Try.func10, Try.ntmps10
  go_wp2_with fail
  obtain ⟨p, hp⟩ : ∃ p, p = w.heap.size := ⟨_, rfl⟩
  obtain ⟨p1, hp1⟩ : ∃ p1, p1 = w.heap.size + 1 := ⟨_, rfl⟩
  obtain ⟨q, hq⟩ : ∃ q, q = w.heap.size + 1 + 1 := ⟨_, rfl⟩
  obtain ⟨wb, hwb⟩ : ∃ wb, wb = (((w.alloc (.cells #[.slice dA0 nd dc0, nV S.now] 27)).alloc (.cells #[nV 3, nV y1, nV y2, nV y3] 32)).alloc (.cells #[.slice none 0 0, .int .i64 0] 27)) := ⟨_, rfl⟩
  have hX : Bx wb p1 q y1 y2 y3 := by rw [hwb]; exact bx_new' w _ _ 3 y1 y2 y3 hp1 hq
  have hBb : Below w.heap.size w wb := by rw [hwb]; exact (((Below.refl _ _).alloc (Nat.le_refl _) _).alloc (by simp) _).alloc (by simp; omega) _
  have hql : q < wb.heap.size := by rw [hwb, hq]; simp
  have hqw : w.heap.size ≤ p1 ∧ w.heap.size ≤ q := by omega
  rw [← hwb, ← hq, ← hp1, ← hp]
  clear hwb hp hp1 hq
  with_reducible refine (HP.out wb hBb).mono ?_
  rintro e w1 hG0
  obtain ⟨v1, d, L', rfl, hD, hNd, hR', hB1, hdg, hS⟩ := exp_alike H.out.2.2.2 H.out.1.ok hG0
  clear hG0
  obtain ⟨A1, c1, rfl, _⟩ := hD.len
  obtain ⟨dA, dc, rfl, _⟩ := hNd.len
  obtain ⟨G, hG⟩ : ∃ G, G = (S.goneE y3).map fun a => (a.id.val : Int) := ⟨_, rfl⟩
  have hGl : G.length ≤ 100000 := by
    rw [hG, List.length_map]; unfold Ln.goneE Ln.gone
    split
    · rw [(sortBy_perm _ _).length_eq]; exact Nat.le_trans (List.length_filter_le _ _) (by omega)
    · simp
  rw [← hG] at hNd hdg ⊢
  obtain ⟨nG, hnG⟩ : ∃ nG, nG = G.length := ⟨_, rfl⟩
  rw [← hnG] at hNd hdg ⊢
  obtain ⟨E, hE⟩ : ∃ E, E = S.expE y3 := ⟨_, rfl⟩
  rw [← hE]
  obtain ⟨nw, hnw⟩ : ∃ nw, nw = (S.expire y3).now := ⟨_, rfl⟩
  rw [← hnw]
  have HE := Lib.hid (And.intro hG (And.intro hnG (And.intro hE hnw)))
  clear hG hnG hE hnw
  obtain ⟨n1, hn1⟩ : ∃ n1, n1 = (L'.map toD).length := ⟨_, rfl⟩
  rw [← hn1]
  rw [← hn1] at hD hS
  obtain ⟨w2, hw2⟩ : ∃ w2, w2 = w1.alloc (.cells #[.slice A1 n1 c1, nV nw] 27) := ⟨_, rfl⟩
  have hB2 : Below w1.heap.size w1 w2 := by rw [hw2]; exact (Below.refl _ _).alloc (Nat.le_refl _) _
  have hB12 : Below wb.heap.size wb w2 := hB1.trans (hB2.mono hB1.size)
  have hBw2 : Below w.heap.size w w2 := hBb.trans (hB12.mono hBb.size)
  have hX2 := hX.keep hB12
  have z0 : w2.cell? ⟨w1.heap.size, 0, none⟩ = some (.slice A1 n1 c1) := by rw [hw2]; exact al_new _ _ _ 0 _ rfl rfl
  have z1 : w2.cell? ⟨w1.heap.size, 1, none⟩ = some (nV nw) := by rw [hw2]; exact al_new _ _ _ 1 _ rfl rfl
  have ht8 : w.heap.size ≤ w1.heap.size := Nat.le_trans hBb.size hB1.size
  have HFIN := Lib.hid (show ∀ w3 W, LnP g b v (S.expire y3) w2 w3 → Chg (fun k => k = q) w3 W → DoR g b v (S.expire y3) (.slice dA0 nd dc0) w (.returned (.tuple #[.agg #[.slice A1 n1 c1, nV (S.expire y3).now], .bool true])) W from fun w3 W hP hC =>
    does_fin H.out.1 H.out.2.1 H.out.2.2.1 hBb hB1 hS hD hB2 hP hC ⟨hqw.2, hql⟩ hR')
  have HC := Lib.hid (HQ.out w2.drew (hBw2.drew))
  have HC0 := Lib.hid (HQ.out w2 hBw2)
  have HFA := Lib.hid (show ∀ w3, LnP g b v (S.expire y3) w2 w3 → Bx w3 p1 q y1 y2 y3 ∧ w3.cell? ⟨w1.heap.size, 0, none⟩ = some (.slice A1 n1 c1) ∧ w3.cell? ⟨w1.heap.size, 1, none⟩ = some (nV nw) from fun w3 hP => by
    obtain ⟨v', k1, k2, k3⟩ := hP
    exact ⟨hX2.chg k2 (fun hk => by have := HLT.out _ hk; omega) (fun hk => by have := HLT.out _ hk; omega), k2.cell z0 (fun hk => by have : w1.heap.size < w.heap.size := HLT.out _ hk; omega), k2.cell z1 (fun hk => by have : w1.heap.size < w.heap.size := HLT.out _ hk; omega)⟩)
  have hNd2 := hNd.keep hB2
  have hdf : ∀ x, (Value.slice dA nG dc).ownBlock = some x → ¬ Blk g b v x := fun x hx hk => by
    have h1 := hdg x hx
    have h2 := HLT.out x hk
    omega
  have HN2 := Lib.hid (And.intro hNd2 hdf)
  obtain ⟨a1, a2, a3, r0, r1, fq⟩ := hX2
  clear hB1 hB2 hB12 hBw2 hX hBb HQ hD hS hR' HC HP hn1 hNd hNd2 hdf hdg
  go_upto_region 14 with fail
  rw [← hw2]
  clear hw2
  go_wp2_with fail
  with_reducible refine HC0.out.mono ?_
  rintro e w3 ⟨d', he, hN3, ⟨v', k1, k2, k3⟩, _⟩
  rw [← HE.out.2.2.1] at he
  rw [← HE.out.1] at hN3
  obtain rfl := he
  have hP : LnP g b v (S.expire y3) w2 w3 := same_ln k1 k2 k3
  obtain ⟨⟨b1, b2, b3, s0, s1, gq⟩, u0, u1⟩ := HFA.out w3 hP
  have HX3 := Lib.hid (HFA.out w3 hP).1
  have hNd3 := HN2.out.1.chg k2 HN2.out.2
  obtain ⟨eA, ec, rfl, _⟩ := hN3.len
  have HSM := Lib.hid (fun W (hB : Below w3.heap.size w3 W) => same_any eA dA ec dc G G W (hN3.ints.keep hB) (hNd3.ints.keep hB) hGl)
  rw [← HE.out.2.1] at HSM ⊢
  have HP3 := Lib.hid hP
  clear k1 k2 k3 hP hNd3 hN3 HN2 HC0 HFA
  go_upto_region 15 with fail
  have hkk : ∀ W, Below w3.heap.size w3 W → ((W.cell? ⟨w1.heap.size, 0, none⟩ = some (.slice A1 n1 c1) ∧ W.cell? ⟨w1.heap.size, 1, none⟩ = some (nV nw)) ∧ Bx W p1 q y1 y2 y3) := fun W hB => ⟨⟨kept u0 hB, kept u1 hB⟩, HX3.out.keep hB⟩
  have HKK := Lib.hid hkk
  have HS0 := Lib.hid (HSM.out w3.drew (below_dn w3 1))
  have ee : (E == E) = true := by simp
  clear hkk HSM
  go_cut [7] (fun bv wx => bv = .bool true ∧ Hid (∃ wS, Below w3.heap.size w3 wS ∧ wx = (wS.setCell ⟨q, 0, none⟩ (.slice A1 n1 c1)).setCell ⟨q, 1, none⟩ (nV nw)))
  case first =>
    go_region_law ((go_simp; (with_reducible refine HS0.out.mono ?_); (rintro e wS ⟨he, hBS⟩); (rw [decide_eq_true (show G = G from rfl)] at he); (obtain rfl := he); (obtain ⟨⟨m0, m1⟩, ⟨_, _, _, m2, m3, m4⟩⟩ := HKK.out wS ((below_dn w3 1).trans hBS))))
    all_goals go_wp2_with fail
    all_goals go_meet
    all_goals exact ⟨rfl, wS, (below_dn w3 1).trans hBS, rfl⟩
  case rest =>
    obtain ⟨rfl, HW⟩ := hcut
    obtain ⟨wS, hBS, hW⟩ := HW.out
    have hXS := HX3.out.keep hBS
    obtain ⟨t0, t1, hcg⟩ := twoSet hXS.q0 hXS.q1 hW
    obtain ⟨v', k1, k2, k3⟩ := HP3.out
    have HF := Lib.hid (HFIN.out wS _ ⟨v', k1.keep hBS, k2.trans (Chg.of_below hBS), k3⟩ hcg)
    rw [← HE.out.2.2.2] at HF
    clear hW k1 k2 k3 a1 a2 a3 r0 r1 fq z0 z1
    go_wp2_with fail
    refine bodyPost_ret (by simp [results, Try.results10, go_sem, t0, t1]; try rfl) rfl ?_
    exact HF.out
set_option maxRecDepth 100000 in
set_option maxHeartbeats 4000000 in
theorem does_rel_other {g b : Nat} {v vd : Value} {S : Ln} {L : List Wt} (y0 y1 y2 y3 : Int) (w : World) (h : LnAt w g b v S) (hA : DR 0 w vd (L.map toD)) (hap : ∀ x, vd.ownBlock = some x → ¬ Blk g b v x) (hR : Rel S L) (h0 : ¬ y0 = 0) (h1 : ¬ y0 = 1) (h2 : ¬ y0 = 2) (h3 : ¬ y0 = 3) :
    Calls Try.prog 10 #[.pointer (some ⟨g, 0, none⟩), .agg #[vd, nV S.now], .agg #[nV y0, nV y1, nV y2, nV y3]] w fun e w' => DoR g b v S vd w e w' := by
  obtain ⟨dA0, dc0, rfl, _⟩ := hA.len
  obtain ⟨nd, hnd⟩ : ∃ nd, nd = (L.map toD).length := ⟨_, rfl⟩
  rw [← hnd] at hA hap ⊢
  have H := Lib.hid (And.intro h (And.intro hA (And.intro hap hR)))
  clear h hA hap hR hnd
  go_enter Try.func10, Try.ntmps10
  go_wp2_with fail
  go_returns
  have hB : Below w.heap.size w ((((w.alloc (.cells #[.slice dA0 nd dc0, nV S.now] 27)).alloc (.cells #[nV y0, nV y1, nV y2, nV y3] 32)).alloc (.cells #[.slice dA0 nd dc0, .int .i64 S.now] 27))) := (((Below.refl _ _).alloc (Nat.le_refl _) _).alloc (by simp) _).alloc (by simp; omega) _
  exact ⟨_, L, v, rfl, H.out.1.keep hB, Chg.of_below hB, .inl rfl, H.out.2.2.2, H.out.2.1.keep hB, H.out.2.2.1, fun x e => .inl e⟩
theorem does_rel {g b : Nat} {v vd : Value} {S : Ln} {L : List Wt} (y : CallA) (hy : WfCall y) (w : World) (h : LnAt w g b v S) (hA : DR 0 w vd (L.map toD)) (hap : ∀ x, vd.ownBlock = some x → ¬ Blk g b v x) (hR : Rel S L) (hn : S.q.length ≤ 900) (hN : S.n ≤ 900) :
    Calls Try.prog 10 #[.pointer (some ⟨g, 0, none⟩), .agg #[vd, nV S.now], .agg #[nV y.1, nV y.2.1, nV y.2.2.1, nV y.2.2.2]] w fun e w' => DoR g b v (S.act y) vd w e w' := by
  obtain ⟨y0, y1, y2, y3⟩ := y
  unfold Ln.act
  by_cases h0 : y0 = 0
  · subst h0
    exact does_rel_put y1 y2 y3 hy.2.1 w h hA hap hR hn hN
  · rw [if_neg h0]
    by_cases h1 : y0 = 1
    · subst h1
      exact does_rel_take y1 y2 y3 hy.2.1 w h hA hap hR hn hN
    · rw [if_neg h1]
      by_cases h2 : y0 = 2
      · subst h2
        exact does_rel_drop y1 y2 y3 hy.2.1 w h hA hap hR hn hN
      · rw [if_neg h2]
        by_cases h3 : y0 = 3
        · subst h3
          exact does_rel_exp y1 y2 y3 hy.2.1 w h hA hap hR hn hN
        · rw [if_neg h3]
          exact does_rel_other y0 y1 y2 y3 w h hA hap hR h0 h1 h2 h3
end Go.Proofs.Ytagfhlnedaagbaa
