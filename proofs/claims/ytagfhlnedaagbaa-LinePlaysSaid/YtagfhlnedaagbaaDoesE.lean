/-
  A call on the code's line beside an empty line of the document's: the tick.
-/
import Derived.Test.YtagfhlnedaagbaaDoes
namespace Go.Proofs.Ytagfhlnedaagbaa
open Go.RowKit

/-- Expire of the document's empty line, whatever it answers. -/
theorem expE_any (t : Int) (w : World) : Calls Try.prog 24 #[.agg #[.slice none 0 0, nV 0], nV t] w fun e w' => ∃ (A1 : Option Addr) (n1 c1 : Nat) (nw : Int) (d : Value) (E : Int) (outs : List Int), e = .returned (.tuple #[.agg #[.slice A1 n1 c1, nV nw], d, .int .i64 E]) ∧ Nums w' d outs ∧ (∀ x, d.ownBlock = some x → w.heap.size ≤ x) ∧ Below w.heap.size w w' := by
  refine (expd_any (.slice none 0 0) 0 t [] w (DR.nil 0 w) (by simp)).mono fun e w' h => ?_
  unfold ExpG at h
  split at h
  · obtain ⟨v', rfl, h1, h2, _⟩ := h
    obtain ⟨A1, c1, rfl, _⟩ := h1.len
    exact ⟨A1, _, c1, 0, _, _, [], rfl, Nums.nil _, (fun x e => by cases e), h2⟩
  · obtain ⟨v', d, outs, l', rfl, _, h1, h2, h3, h4, _⟩ := h
    obtain ⟨A1, c1, rfl, _⟩ := h1.len
    exact ⟨A1, _, c1, t, d, _, outs, rfl, h2, h4, h3⟩
set_option maxRecDepth 100000 in
set_option maxHeartbeats 8000000 in
theorem does_exp {g b : Nat} {v : Value} {S : Ln} (y1 y2 y3 : Int) (w : World) (h : LnAt w g b v S) (hn : S.q.length ≤ 1000) :
    Calls Try.prog 10 #[.pointer (some ⟨g, 0, none⟩), .agg #[.slice none 0 0, nV 0], .agg #[nV 3, nV y1, nV y2, nV y3]] w fun e w' => DoP g b v (S.expire y3) w e w' := by
  have HP := Lib.hid (fun W => expE_any y3 W)
  have HQ := Lib.hid (fun W (hB : Below w.heap.size w W) => exp_any y3 W (h.keep hB) hn)
  have H := Lib.hid h
  have HLT := Lib.hid (fun k (hk : Blk g b v k) => h.blk_lt hk)
  clear h
  go_enter Try.func10, Try.ntmps10
  go_wp2_with fail
  obtain ⟨p, hp⟩ : ∃ p, p = w.heap.size := ⟨_, rfl⟩
  obtain ⟨p1, hp1⟩ : ∃ p1, p1 = w.heap.size + 1 := ⟨_, rfl⟩
  obtain ⟨q, hq⟩ : ∃ q, q = w.heap.size + 1 + 1 := ⟨_, rfl⟩
  obtain ⟨wb, hwb⟩ : ∃ wb, wb = (((w.alloc (.cells #[.slice none 0 0, nV 0] 27)).alloc (.cells #[nV 3, nV y1, nV y2, nV y3] 32)).alloc (.cells #[.slice none 0 0, .int .i64 0] 27)) := ⟨_, rfl⟩
  have hX : Bx wb p1 q y1 y2 y3 := by rw [hwb]; exact bx_new w 3 y1 y2 y3 hp1 hq
  have hBb : Below w.heap.size w wb := by rw [hwb]; exact (((Below.refl _ _).alloc (Nat.le_refl _) _).alloc (by simp) _).alloc (by simp; omega) _
  have hql : q < wb.heap.size := by rw [hwb, hq]; simp
  have hqw : w.heap.size ≤ p1 ∧ w.heap.size ≤ q := by omega
  rw [← hwb, ← hq, ← hp1, ← hp]
  clear hwb hp hp1 hq
  with_reducible refine (HP.out wb).mono ?_
  rintro e w1 ⟨A1, n1, c1, nw, d, E, outs, rfl, hNd, hdg, hB1⟩
  obtain ⟨dA, dc, rfl, _⟩ := hNd.len
  clear HP
  obtain ⟨w2, hw2⟩ : ∃ w2, w2 = w1.alloc (.cells #[.slice A1 n1 c1, nV nw] 27) := ⟨_, rfl⟩
  have hB2 : Below w1.heap.size w1 w2 := by rw [hw2]; exact (Below.refl _ _).alloc (Nat.le_refl _) _
  have hB12 : Below wb.heap.size wb w2 := hB1.trans (hB2.mono hB1.size)
  have hBw2 : Below w.heap.size w w2 := hBb.trans (hB12.mono hBb.size)
  have hX2 := hX.keep hB12
  have z0 : w2.cell? ⟨w1.heap.size, 0, none⟩ = some (.slice A1 n1 c1) := by rw [hw2]; exact al_new _ _ _ 0 _ rfl rfl
  have z1 : w2.cell? ⟨w1.heap.size, 1, none⟩ = some (nV nw) := by rw [hw2]; exact al_new _ _ _ 1 _ rfl rfl
  have HX2 := Lib.hid hX2
  have HBW := Lib.hid hBw2
  have hq2 : q < w2.heap.size := Nat.lt_of_lt_of_le hql hB12.size
  have HC := Lib.hid (HQ.out w2 hBw2)
  have hN2 := hNd.keep hB2
  have hdf : ∀ x, (Value.slice dA outs.length dc).ownBlock = some x → ¬ Blk g b v x := fun x hx hb => by have := hdg x hx; have := HLT.out x hb; have := hBb.size; omega
  have HN2 := Lib.hid (And.intro hN2 hdf)
  clear hN2 hdf hNd
  have ht8 : w.heap.size ≤ w1.heap.size := Nat.le_trans hBb.size hB1.size
  have HFA := Lib.hid (show ∀ w3, LnP g b v (S.expire y3) w2 w3 → Bx w3 p1 q y1 y2 y3 ∧ w3.cell? ⟨w1.heap.size, 0, none⟩ = some (.slice A1 n1 c1) ∧ w3.cell? ⟨w1.heap.size, 1, none⟩ = some (nV nw) from fun w3 hP => by
    obtain ⟨v', k1, k2, k3⟩ := hP
    have k2' : Chg (Blk g b v) w2 w3 := ⟨k2.os, k2.tape, k2.output, k2.size, k2.block⟩
    exact ⟨hX2.chg k2' (fun hk => by have := HLT.out _ hk; omega) (fun hk => by have := HLT.out _ hk; omega), k2'.cell z0 (fun hk => by have : w1.heap.size < w.heap.size := HLT.out _ hk; omega), k2'.cell z1 (fun hk => by have : w1.heap.size < w.heap.size := HLT.out _ hk; omega)⟩)
  obtain ⟨a1, a2, a3, r0, r1, fq⟩ := hX2
  clear hB1 hB2 hB12 hBw2 hX hBb HQ
  go_upto_region 14 with fail
  rw [← hw2]
  clear hw2 hdg
  go_wp2_with fail
  with_reducible refine HC.out.mono ?_
  rintro e w3 ⟨d', rfl, hN3, ⟨v', k1, k2, k3⟩, hd3⟩
  have hP : LnP g b v (S.expire y3) w2 w3 := same_ln k1 k2 k3
  obtain ⟨⟨b1, b2, b3, s0, s1, gq⟩, u0, u1⟩ := HFA.out w3 hP
  have HX3 := Lib.hid (HFA.out w3 hP).1
  have hNd3 := HN2.out.1.chg k2 HN2.out.2
  obtain ⟨eA, ec, rfl, _⟩ := hN3.len
  have HSM := Lib.hid (fun W (hB : Below w3.heap.size w3 W) => same_any eA dA ec dc _ _ W (hN3.ints.keep hB) (hNd3.ints.keep hB) (by rw [List.length_map]; unfold Ln.goneE Ln.gone; split; (rw [(sortBy_perm _ _).length_eq]; exact Nat.le_trans (List.length_filter_le _ _) (by omega)); (simp)))
  have HP3 := Lib.hid hP
  obtain ⟨n3, hn3⟩ : ∃ n3, n3 = ((S.goneE y3).map fun a => (a.id.val : Int)).length := ⟨_, rfl⟩
  rw [← hn3]
  rw [← hn3] at HSM
  obtain ⟨no, hno⟩ : ∃ no, no = outs.length := ⟨_, rfl⟩
  rw [← hno]
  rw [← hno] at HSM
  clear hn3 hno k1 k2 k3 hP hNd3 hN3 hd3 HN2 HC HFA
  obtain ⟨E', hE'⟩ : ∃ E', E' = S.expE y3 := ⟨_, rfl⟩
  rw [← hE']
  clear hE'
  go_upto_region 15 with fail
  have hkk : ∀ W, Below w3.heap.size w3 W → ((W.cell? ⟨w1.heap.size, 0, none⟩ = some (.slice A1 n1 c1) ∧ W.cell? ⟨w1.heap.size, 1, none⟩ = some (nV nw)) ∧ Bx W p1 q y1 y2 y3) := fun W hB => ⟨⟨kept u0 hB, kept u1 hB⟩, HX3.out.keep hB⟩
  have HKK := Lib.hid hkk
  have HS0 := Lib.hid (HSM.out w3.drew (below_dn w3 1))
  clear hkk HSM
  go_cut [7] (fun bv wx => ∃ ok, bv = .bool ok ∧ Hid (∃ wS, Below w3.heap.size w3 wS ∧ wx = (wS.setCell ⟨q, 0, none⟩ (.slice A1 n1 c1)).setCell ⟨q, 1, none⟩ (nV nw)))
  case first =>
    by_cases hE : E' = E
    · subst hE
      have e1 : (E' == E') = true := by simp
      go_region_law ((go_simp; (with_reducible refine HS0.out.mono ?_); (rintro e wS ⟨rfl, hBS⟩); (obtain ⟨⟨m0, m1⟩, ⟨_, _, _, m2, m3, m4⟩⟩ := HKK.out wS ((below_dn w3 1).trans hBS))))
      all_goals go_wp2_with fail
      all_goals go_meet
      all_goals exact ⟨_, rfl, wS, (below_dn w3 1).trans hBS, rfl⟩
    · have e1 : (E' == E) = false := by simpa using hE
      go_region
      all_goals go_wp2_with fail
      all_goals go_meet
      all_goals exact ⟨_, rfl, w3.drew, below_dn w3 1, rfl⟩
  case rest =>
    obtain ⟨ok, rfl, HW⟩ := hcut
    obtain ⟨wS, hBS, hW⟩ := HW.out
    have hX3 := (HKK.out wS hBS).2
    obtain ⟨t0, t1, hcg⟩ := twoSet hX3.q0 hX3.q1 hW
    clear hW a1 a2 a3 r0 r1 fq z0 z1
    go_wp2_with fail
    refine bodyPost_ret (by simp [results, Try.results10, go_sem, t0, t1]; try rfl) rfl ?_
    have hPS : LnP g b v (S.expire y3) w2 wS := by
      obtain ⟨v', k1, k2, k3⟩ := HP3.out
      exact ⟨v', k1.keep hBS, k2.trans (Chg.of_below hBS), k3⟩
    exact ⟨_, _, rfl, lnp_wrap H.out HBW.out hPS hcg ⟨hqw.2, hq2⟩⟩
end Go.Proofs.Ytagfhlnedaagbaa
