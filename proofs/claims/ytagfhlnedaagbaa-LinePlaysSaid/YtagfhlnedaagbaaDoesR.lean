/-
  A call on the code's line beside the document's, which says the same.
-/
import Derived.Test.YtagfhlnedaagbaaMade
import Derived.Test.YtagfhlnedaagbaaDocS
import Derived.Deep.CutBlock
namespace Go.Proofs.Ytagfhlnedaagbaa
open Go.RowKit

/-- Behind a call on both. -/
def DoR (g b : Nat) (v : Value) (S' : Ln) (vd : Value) (w : World) (e : Ending) (w' : World) : Prop :=
  ∃ vd' L' v', e = .returned (.tuple #[.agg #[vd', nV S'.now], .bool true]) ∧ LnAt w' g b v' S' ∧ Chg (Blk g b v) w w' ∧ Slid v v' w ∧ Rel S' L' ∧ DR 0 w' vd' (L'.map toD) ∧ (∀ x, vd'.ownBlock = some x → ¬ Blk g b v' x) ∧ Src vd vd' w.heap.size
theorem does_fin {g b q : Nat} {v vd v1 : Value} {S S' : Ln} {L' : List Wt} {l : List DW} {w wb w1 w2 w3 W : World} (h : LnAt w g b v S) (hA : DR 0 w vd l) (hap : ∀ x, vd.ownBlock = some x → ¬ Blk g b v x) (hb : Below w.heap.size w wb) (hB1 : Below wb.heap.size wb w1) (hS : Src vd v1 wb.heap.size) (hD : DR 0 w1 v1 (L'.map toD)) (hB2 : Below w1.heap.size w1 w2)
    (hP : LnP g b v S' w2 w3) (hC : Chg (fun k => k = q) w3 W) (hq : w.heap.size ≤ q ∧ q < wb.heap.size) (hR : Rel S' L') :
    DoR g b v S' vd w (.returned (.tuple #[.agg #[v1, nV S'.now], .bool true])) W := by
  have s1 := hb.size
  have s2 := hB1.size
  have s3 := hB2.size
  have hBw : Below w.heap.size w w2 := (hb.trans (hB1.mono s1)).trans (hB2.mono (Nat.le_trans s1 s2))
  have hwr := hP
  obtain ⟨v', h1, h2, h3⟩ := hP
  have hx : ∀ x, v1.ownBlock = some x → x < w1.heap.size ∧ ¬ Blk g b v x ∧ x ≠ q := fun x e => by
    refine ⟨hD.lt e, ?_⟩
    rcases hS x e with e' | e'
    · have := hA.lt e'
      exact ⟨hap x e', by omega⟩
    · exact ⟨fun hk => by have := h.blk_lt hk; omega, by omega⟩
  have hn : ∀ x, v1.ownBlock = some x → ¬ Blk g b v' x := fun x e hk => by
    obtain ⟨a1, a2, a3⟩ := hx x e
    rcases hk with k | k | k
    · exact a2 (.inl k)
    · exact a2 (.inr (.inl k))
    · rcases h3 with h3 | ⟨z, e1, e2⟩
      · exact a2 (.inr (.inr (by rw [← h3]; exact k)))
      · rw [e1] at k; injection k with k; omega
  have hq' : w.heap.size ≤ q ∧ q < w2.heap.size := by omega
  have hgl := h.ltg
  have hbl := h.ltb
  refine ⟨v1, L', v', rfl, h1.chg hC (fun k hk e => ?_), ?_, ?_, hR, ?_, hn, fun x e => ?_⟩
  · subst e
    rcases hk with k | k | k
    · omega
    · omega
    · rcases h3 with h3 | ⟨z, e1, e2⟩
      · rw [h3] at k; have := h.row.lt k; omega
      · rw [e1] at k; injection k with k; omega
  · refine ⟨(hC.os.trans h2.os).trans hBw.os, (hC.tape.trans h2.tape).trans hBw.tape, (hC.output.trans h2.output).trans hBw.output, Nat.le_trans hBw.size (Nat.le_trans h2.size hC.size), fun k hk hn => ?_⟩
    rw [hC.block k (by have := h2.size; have := hBw.size; omega) (by omega), h2.block k (by have := hBw.size; omega) hn, hBw.block k hk]
  · rcases h3 with h3 | ⟨x, e1, e2⟩
    · exact .inl h3
    · exact .inr ⟨x, e1, by have := hBw.size; omega⟩
  · refine hD.same fun x e => ?_
    obtain ⟨a1, a2, a3⟩ := hx x e
    rw [hC.block x (by have := h2.size; omega) a3, h2.block x (by omega) a2, hB2.block x a1]
  · rcases hS x e with e' | e'
    · exact .inl e'
    · exact .inr (by omega)
theorem bx_new' (w : World) (x0 x1 : Value) (y0 y1 y2 y3 : Int) {p1 q : Nat} (hp1 : p1 = w.heap.size + 1) (hq : q = w.heap.size + 1 + 1) : Bx (((w.alloc (.cells #[x0, x1] 27)).alloc (.cells #[nV y0, nV y1, nV y2, nV y3] 32)).alloc (.cells #[.slice none 0 0, .int .i64 0] 27)) p1 q y1 y2 y3 :=
  ⟨al_cell (al_new _ _ _ 1 _ (by rw [hp1]; simp) rfl), al_cell (al_new _ _ _ 2 _ (by rw [hp1]; simp) rfl), al_cell (al_new _ _ _ 3 _ (by rw [hp1]; simp) rfl), al_new _ _ _ 0 _ (by rw [hq]; simp) rfl, al_new _ _ _ 1 _ (by rw [hq]; simp) rfl, fun _ => frozen_at _ _ _ _ _ (by rw [hq]; simp)⟩
theorem lnp_undrew {g b : Nat} {v : Value} {S' : Ln} {w w' : World} (h : LnP g b v S' w.drew w') : LnP g b v S' w w' := by
  obtain ⟨v', k1, k2, k3⟩ := h
  exact ⟨v', k1, ⟨k2.os, k2.tape, k2.output, k2.size, k2.block⟩, k3⟩
theorem put_now (S : Ln) (id prio til : Int) : (S.put id prio til).now = S.now := by unfold Ln.put; split <;> rfl
theorem drop_now (S : Ln) (id : Int) : (S.drop id).now = S.now := by unfold Ln.drop; split <;> rfl
theorem take_now (S : Ln) : S.take.now = S.now := by unfold Ln.take; split <;> rfl
set_option maxRecDepth 100000 in
set_option maxHeartbeats 8000000 in
theorem does_rel_put {g b : Nat} {v vd : Value} {S : Ln} {L : List Wt} (y1 y2 y3 : Int) (hy1 : I64 y1) (w : World) (h : LnAt w g b v S) (hA : DR 0 w vd (L.map toD)) (hap : ∀ x, vd.ownBlock = some x → ¬ Blk g b v x) (hR : Rel S L) (hn : S.q.length ≤ 900) (hN : S.n ≤ 900) :
    Calls Try.prog 10 #[.pointer (some ⟨g, 0, none⟩), .agg #[vd, nV S.now], .agg #[nV 0, nV y1, nV y2, nV y3]] w fun e w' => DoR g b v (S.put y1 y2 y3) vd w e w' := by
  have hl : (L.map toD).length ≤ 1000 := by rw [hR.len]; omega
  obtain ⟨dA0, dc0, rfl, _⟩ := hA.len
  obtain ⟨nd, hnd⟩ : ∃ nd, nd = (L.map toD).length := ⟨_, rfl⟩
  rw [← hnd] at hA hap ⊢
  have HP := Lib.hid (fun W (hB : Below w.heap.size w W) => putd_any (.slice dA0 nd dc0) S.now y1 y2 y3 (L.map toD) W (hA.keep hB) hl)
  clear hnd
  have HQ := Lib.hid (fun W (hB : Below w.heap.size w W) => put_any y1 y2 y3 W (h.keep hB) (by omega) (by omega))
  have H := Lib.hid (And.intro h (And.intro hA (And.intro hap hR)))
  have HLT := Lib.hid (fun k (hk : Blk g b v k) => h.blk_lt hk)
  have HY1 := Lib.hid hy1
  clear h hA hap hR hy1
  go_enter Try.func10, Try.ntmps10
  go_wp2_with fail
  obtain ⟨p, hp⟩ : ∃ p, p = w.heap.size := ⟨_, rfl⟩
  obtain ⟨p1, hp1⟩ : ∃ p1, p1 = w.heap.size + 1 := ⟨_, rfl⟩
  obtain ⟨q, hq⟩ : ∃ q, q = w.heap.size + 1 + 1 := ⟨_, rfl⟩
  obtain ⟨wb, hwb⟩ : ∃ wb, wb = (((w.alloc (.cells #[.slice dA0 nd dc0, nV S.now] 27)).alloc (.cells #[nV 0, nV y1, nV y2, nV y3] 32)).alloc (.cells #[.slice none 0 0, .int .i64 0] 27)) := ⟨_, rfl⟩
  have hX : Bx wb p1 q y1 y2 y3 := by rw [hwb]; exact bx_new' w _ _ 0 y1 y2 y3 hp1 hq
  have hBb : Below w.heap.size w wb := by rw [hwb]; exact (((Below.refl _ _).alloc (Nat.le_refl _) _).alloc (by simp) _).alloc (by simp; omega) _
  have hql : q < wb.heap.size := by rw [hwb, hq]; simp
  have hqw : w.heap.size ≤ p1 ∧ w.heap.size ≤ q := by omega
  rw [← hwb, ← hq, ← hp1, ← hp]
  clear hwb hp hp1 hq
  with_reducible refine (HP.out wb hBb).mono ?_
  rintro e w1 ⟨v1, rfl, hD, hB1, hS⟩
  obtain ⟨L', e1, hR'⟩ := H.out.2.2.2.put H.out.1.ok y1 y2 y3
  rw [H.out.2.2.2.putE]
  rw [e1] at hD
  obtain ⟨A1, c1, rfl, _⟩ := hD.len
  obtain ⟨E, hE⟩ : ∃ E, E = S.putE y1 y2 y3 := ⟨_, rfl⟩
  rw [← hE]
  have HE := Lib.hid hE
  clear hE e1
  obtain ⟨n1, hn1⟩ : ∃ n1, n1 = (L'.map toD).length := ⟨_, rfl⟩
  rw [← hn1]
  rw [← hn1] at hD hS
  obtain ⟨w2, hw2⟩ : ∃ w2, w2 = w1.alloc (.cells #[.slice A1 n1 c1, nV S.now] 27) := ⟨_, rfl⟩
  have hB2 : Below w1.heap.size w1 w2 := by rw [hw2]; exact (Below.refl _ _).alloc (Nat.le_refl _) _
  have hB12 : Below wb.heap.size wb w2 := hB1.trans (hB2.mono hB1.size)
  have hBw2 : Below w.heap.size w w2 := hBb.trans (hB12.mono hBb.size)
  have hX2 := hX.keep hB12
  have z0 : w2.cell? ⟨w1.heap.size, 0, none⟩ = some (.slice A1 n1 c1) := by rw [hw2]; exact al_new _ _ _ 0 _ rfl rfl
  have z1 : w2.cell? ⟨w1.heap.size, 1, none⟩ = some (nV S.now) := by rw [hw2]; exact al_new _ _ _ 1 _ rfl rfl
  have ht8 : w.heap.size ≤ w1.heap.size := Nat.le_trans hBb.size hB1.size
  have HFIN := Lib.hid (show ∀ w3 W, LnP g b v (S.put y1 y2 y3) w2 w3 → Chg (fun k => k = q) w3 W → DoR g b v (S.put y1 y2 y3) (.slice dA0 nd dc0) w (.returned (.tuple #[.agg #[.slice A1 n1 c1, nV (S.put y1 y2 y3).now], .bool true])) W from fun w3 W hP hC =>
    does_fin H.out.1 H.out.2.1 H.out.2.2.1 hBb hB1 hS hD hB2 hP hC ⟨hqw.2, hql⟩ hR')
  have HC := Lib.hid (HQ.out w2.drew (hBw2.drew))
  have HC0 := Lib.hid (HQ.out w2 hBw2)
  have HFA := Lib.hid (show ∀ w3, LnP g b v (S.put y1 y2 y3) w2 w3 → Bx w3 p1 q y1 y2 y3 ∧ w3.cell? ⟨w1.heap.size, 0, none⟩ = some (.slice A1 n1 c1) ∧ w3.cell? ⟨w1.heap.size, 1, none⟩ = some (nV S.now) from fun w3 hP => by
    obtain ⟨v', k1, k2, k3⟩ := hP
    exact ⟨hX2.chg k2 (fun hk => by have := HLT.out _ hk; omega) (fun hk => by have := HLT.out _ hk; omega), k2.cell z0 (fun hk => by have : w1.heap.size < w.heap.size := HLT.out _ hk; omega), k2.cell z1 (fun hk => by have : w1.heap.size < w.heap.size := HLT.out _ hk; omega)⟩)
  obtain ⟨a1, a2, a3, r0, r1, fq⟩ := hX2
  clear hB1 hB2 hB12 hBw2 hX hBb HQ hD hS hR' HC0 HP hn1
  go_upto_region 4 with fail
  rw [← hw2]
  clear hw2
  have ee : (E == E) = true := by simp
  go_cut [7] (fun bv wx => bv = .bool true ∧ Hid (∃ w3, LnP g b v (S.put y1 y2 y3) w2 w3 ∧ wx = (w3.setCell ⟨q, 0, none⟩ (.slice A1 n1 c1)).setCell ⟨q, 1, none⟩ (nV S.now)))
  case first =>
    go_region_law ((go_simp; (with_reducible refine HC.out.mono ?_); (rintro e w3 ⟨he, hP0⟩); (rw [← HE.out] at he); (obtain rfl := he); (have hP := lnp_undrew hP0); (obtain ⟨⟨b1, b2, b3, s0, s1, gq⟩, u0, u1⟩ := HFA.out w3 hP)))
    all_goals go_wp2_with fail
    all_goals go_meet
    all_goals exact ⟨rfl, w3, hP, rfl⟩
  case rest =>
    obtain ⟨rfl, HW⟩ := hcut
    obtain ⟨w3, hP, hW⟩ := HW.out
    obtain ⟨hX3, _, _⟩ := HFA.out w3 hP
    obtain ⟨t0, t1, hcg⟩ := twoSet hX3.q0 hX3.q1 hW
    have HF := Lib.hid (HFIN.out w3 _ hP hcg)
    rw [put_now] at HF
    clear hW a1 a2 a3 r0 r1 fq z0 z1
    go_wp2_with fail
    refine bodyPost_ret (by simp [results, Try.results10, go_sem, t0, t1]; try rfl) rfl ?_
    exact HF.out
set_option maxRecDepth 100000 in
set_option maxHeartbeats 8000000 in
theorem does_rel_drop {g b : Nat} {v vd : Value} {S : Ln} {L : List Wt} (y1 y2 y3 : Int) (hy1 : I64 y1) (w : World) (h : LnAt w g b v S) (hA : DR 0 w vd (L.map toD)) (hap : ∀ x, vd.ownBlock = some x → ¬ Blk g b v x) (hR : Rel S L) (hn : S.q.length ≤ 900) (_ : S.n ≤ 900) :
    Calls Try.prog 10 #[.pointer (some ⟨g, 0, none⟩), .agg #[vd, nV S.now], .agg #[nV 2, nV y1, nV y2, nV y3]] w fun e w' => DoR g b v (S.drop y1) vd w e w' := by
  have hl : (L.map toD).length ≤ 1000 := by rw [hR.len]; omega
  obtain ⟨dA0, dc0, rfl, _⟩ := hA.len
  obtain ⟨nd, hnd⟩ : ∃ nd, nd = (L.map toD).length := ⟨_, rfl⟩
  rw [← hnd] at hA hap ⊢
  have HP := Lib.hid (fun W (hB : Below w.heap.size w W) => dropd_any (.slice dA0 nd dc0) S.now y1 (L.map toD) W (hA.keep hB) hl)
  clear hnd
  have HQ := Lib.hid (fun W (hB : Below w.heap.size w W) => drop_any y1 hy1 W (h.keep hB) (by omega))
  have H := Lib.hid (And.intro h (And.intro hA (And.intro hap hR)))
  have HLT := Lib.hid (fun k (hk : Blk g b v k) => h.blk_lt hk)
  have HY1 := Lib.hid hy1
  clear h hA hap hR hy1
  go_enter Try.func10, Try.ntmps10
  go_wp2_with fail
  obtain ⟨p, hp⟩ : ∃ p, p = w.heap.size := ⟨_, rfl⟩
  obtain ⟨p1, hp1⟩ : ∃ p1, p1 = w.heap.size + 1 := ⟨_, rfl⟩
  obtain ⟨q, hq⟩ : ∃ q, q = w.heap.size + 1 + 1 := ⟨_, rfl⟩
  obtain ⟨wb, hwb⟩ : ∃ wb, wb = (((w.alloc (.cells #[.slice dA0 nd dc0, nV S.now] 27)).alloc (.cells #[nV 2, nV y1, nV y2, nV y3] 32)).alloc (.cells #[.slice none 0 0, .int .i64 0] 27)) := ⟨_, rfl⟩
  have hX : Bx wb p1 q y1 y2 y3 := by rw [hwb]; exact bx_new' w _ _ 2 y1 y2 y3 hp1 hq
  have hBb : Below w.heap.size w wb := by rw [hwb]; exact (((Below.refl _ _).alloc (Nat.le_refl _) _).alloc (by simp) _).alloc (by simp; omega) _
  have hql : q < wb.heap.size := by rw [hwb, hq]; simp
  have hqw : w.heap.size ≤ p1 ∧ w.heap.size ≤ q := by omega
  rw [← hwb, ← hq, ← hp1, ← hp]
  clear hwb hp hp1 hq
  with_reducible refine (HP.out wb hBb).mono ?_
  rintro e w1 ⟨l', E, hT, v1, rfl, hD, hB1, hS⟩
  obtain ⟨hE, L', e1, hR'⟩ := H.out.2.2.2.drop H.out.1.ok hT
  rw [e1] at hD
  obtain ⟨A1, c1, rfl, _⟩ := hD.len
  have HE := Lib.hid hE
  clear hE e1 hT
  obtain ⟨n1, hn1⟩ : ∃ n1, n1 = (L'.map toD).length := ⟨_, rfl⟩
  rw [← hn1]
  rw [← hn1] at hD hS
  obtain ⟨w2, hw2⟩ : ∃ w2, w2 = w1.alloc (.cells #[.slice A1 n1 c1, nV S.now] 27) := ⟨_, rfl⟩
  have hB2 : Below w1.heap.size w1 w2 := by rw [hw2]; exact (Below.refl _ _).alloc (Nat.le_refl _) _
  have hB12 : Below wb.heap.size wb w2 := hB1.trans (hB2.mono hB1.size)
  have hBw2 : Below w.heap.size w w2 := hBb.trans (hB12.mono hBb.size)
  have hX2 := hX.keep hB12
  have z0 : w2.cell? ⟨w1.heap.size, 0, none⟩ = some (.slice A1 n1 c1) := by rw [hw2]; exact al_new _ _ _ 0 _ rfl rfl
  have z1 : w2.cell? ⟨w1.heap.size, 1, none⟩ = some (nV S.now) := by rw [hw2]; exact al_new _ _ _ 1 _ rfl rfl
  have ht8 : w.heap.size ≤ w1.heap.size := Nat.le_trans hBb.size hB1.size
  have HFIN := Lib.hid (show ∀ w3 W, LnP g b v (S.drop y1) w2 w3 → Chg (fun k => k = q) w3 W → DoR g b v (S.drop y1) (.slice dA0 nd dc0) w (.returned (.tuple #[.agg #[.slice A1 n1 c1, nV (S.drop y1).now], .bool true])) W from fun w3 W hP hC =>
    does_fin H.out.1 H.out.2.1 H.out.2.2.1 hBb hB1 hS hD hB2 hP hC ⟨hqw.2, hql⟩ hR')
  have HC := Lib.hid (HQ.out w2.drew (hBw2.drew))
  have HC0 := Lib.hid (HQ.out w2 hBw2)
  have HFA := Lib.hid (show ∀ w3, LnP g b v (S.drop y1) w2 w3 → Bx w3 p1 q y1 y2 y3 ∧ w3.cell? ⟨w1.heap.size, 0, none⟩ = some (.slice A1 n1 c1) ∧ w3.cell? ⟨w1.heap.size, 1, none⟩ = some (nV S.now) from fun w3 hP => by
    obtain ⟨v', k1, k2, k3⟩ := hP
    exact ⟨hX2.chg k2 (fun hk => by have := HLT.out _ hk; omega) (fun hk => by have := HLT.out _ hk; omega), k2.cell z0 (fun hk => by have : w1.heap.size < w.heap.size := HLT.out _ hk; omega), k2.cell z1 (fun hk => by have : w1.heap.size < w.heap.size := HLT.out _ hk; omega)⟩)
  obtain ⟨a1, a2, a3, r0, r1, fq⟩ := hX2
  clear hB1 hB2 hB12 hBw2 hX hBb HQ hD hS hR' HC0 HP hn1
  go_upto_region 11 with fail
  rw [← hw2]
  clear hw2
  have ee : (E == E) = true := by simp
  go_cut [7] (fun bv wx => bv = .bool true ∧ Hid (∃ w3, LnP g b v (S.drop y1) w2 w3 ∧ wx = (w3.setCell ⟨q, 0, none⟩ (.slice A1 n1 c1)).setCell ⟨q, 1, none⟩ (nV S.now)))
  case first =>
    go_region_law ((go_simp; (with_reducible refine HC.out.mono ?_); (rintro e w3 ⟨he, hP0⟩); (rw [← HE.out] at he); (obtain rfl := he); (have hP := lnp_undrew hP0); (obtain ⟨⟨b1, b2, b3, s0, s1, gq⟩, u0, u1⟩ := HFA.out w3 hP)))
    all_goals go_wp2_with fail
    all_goals go_meet
    all_goals exact ⟨rfl, w3, hP, rfl⟩
  case rest =>
    obtain ⟨rfl, HW⟩ := hcut
    obtain ⟨w3, hP, hW⟩ := HW.out
    obtain ⟨hX3, _, _⟩ := HFA.out w3 hP
    obtain ⟨t0, t1, hcg⟩ := twoSet hX3.q0 hX3.q1 hW
    have HF := Lib.hid (HFIN.out w3 _ hP hcg)
    rw [drop_now] at HF
    clear hW a1 a2 a3 r0 r1 fq z0 z1
    go_wp2_with fail
    refine bodyPost_ret (by simp [results, Try.results10, go_sem, t0, t1]; try rfl) rfl ?_
    exact HF.out
set_option maxRecDepth 100000 in
set_option maxHeartbeats 8000000 in
theorem does_rel_take {g b : Nat} {v vd : Value} {S : Ln} {L : List Wt} (y1 y2 y3 : Int) (hy1 : I64 y1) (w : World) (h : LnAt w g b v S) (hA : DR 0 w vd (L.map toD)) (hap : ∀ x, vd.ownBlock = some x → ¬ Blk g b v x) (hR : Rel S L) (hn : S.q.length ≤ 900) (_ : S.n ≤ 900) :
    Calls Try.prog 10 #[.pointer (some ⟨g, 0, none⟩), .agg #[vd, nV S.now], .agg #[nV 1, nV y1, nV y2, nV y3]] w fun e w' => DoR g b v (S.take) vd w e w' := by
  have hl : (L.map toD).length ≤ 1000 := by rw [hR.len]; omega
  obtain ⟨dA0, dc0, rfl, _⟩ := hA.len
  obtain ⟨nd, hnd⟩ : ∃ nd, nd = (L.map toD).length := ⟨_, rfl⟩
  rw [← hnd] at hA hap ⊢
  have HP := Lib.hid (fun W (hB : Below w.heap.size w W) => taked_any (.slice dA0 nd dc0) S.now (L.map toD) W (hA.keep hB) hl (fun y hy => ord_has hy))
  clear hnd
  have HQ := Lib.hid (fun W (hB : Below w.heap.size w W) => take_any W (h.keep hB) (by omega))
  have H := Lib.hid (And.intro h (And.intro hA (And.intro hap hR)))
  have HLT := Lib.hid (fun k (hk : Blk g b v k) => h.blk_lt hk)
  have HY1 := Lib.hid hy1
  clear h hA hap hR hy1
  go_enter Try.func10, Try.ntmps10
  go_wp2_with fail
  obtain ⟨p, hp⟩ : ∃ p, p = w.heap.size := ⟨_, rfl⟩
  obtain ⟨p1, hp1⟩ : ∃ p1, p1 = w.heap.size + 1 := ⟨_, rfl⟩
  obtain ⟨q, hq⟩ : ∃ q, q = w.heap.size + 1 + 1 := ⟨_, rfl⟩
  obtain ⟨wb, hwb⟩ : ∃ wb, wb = (((w.alloc (.cells #[.slice dA0 nd dc0, nV S.now] 27)).alloc (.cells #[nV 1, nV y1, nV y2, nV y3] 32)).alloc (.cells #[.slice none 0 0, .int .i64 0] 27)) := ⟨_, rfl⟩
  have hX : Bx wb p1 q y1 y2 y3 := by rw [hwb]; exact bx_new' w _ _ 1 y1 y2 y3 hp1 hq
  have hBb : Below w.heap.size w wb := by rw [hwb]; exact (((Below.refl _ _).alloc (Nat.le_refl _) _).alloc (by simp) _).alloc (by simp; omega) _
  have hql : q < wb.heap.size := by rw [hwb, hq]; simp
  have hqw : w.heap.size ≤ p1 ∧ w.heap.size ≤ q := by omega
  rw [← hwb, ← hq, ← hp1, ← hp]
  clear hwb hp hp1 hq
  with_reducible refine (HP.out wb hBb).mono ?_
  rintro e w1 ⟨l', id, okk, v1, hT, rfl, hD, hB1, hS⟩
  obtain ⟨hE1, hE2, L', e1, hR'⟩ := H.out.2.2.2.take H.out.1.ok hT
  rw [e1] at hD
  obtain ⟨A1, c1, rfl, _⟩ := hD.len
  have HE := Lib.hid (And.intro hE1 hE2)
  clear hE1 hE2 e1 hT
  obtain ⟨n1, hn1⟩ : ∃ n1, n1 = (L'.map toD).length := ⟨_, rfl⟩
  rw [← hn1]
  rw [← hn1] at hD hS
  obtain ⟨w2, hw2⟩ : ∃ w2, w2 = w1.alloc (.cells #[.slice A1 n1 c1, nV S.now] 27) := ⟨_, rfl⟩
  have hB2 : Below w1.heap.size w1 w2 := by rw [hw2]; exact (Below.refl _ _).alloc (Nat.le_refl _) _
  have hB12 : Below wb.heap.size wb w2 := hB1.trans (hB2.mono hB1.size)
  have hBw2 : Below w.heap.size w w2 := hBb.trans (hB12.mono hBb.size)
  have hX2 := hX.keep hB12
  have z0 : w2.cell? ⟨w1.heap.size, 0, none⟩ = some (.slice A1 n1 c1) := by rw [hw2]; exact al_new _ _ _ 0 _ rfl rfl
  have z1 : w2.cell? ⟨w1.heap.size, 1, none⟩ = some (nV S.now) := by rw [hw2]; exact al_new _ _ _ 1 _ rfl rfl
  have ht8 : w.heap.size ≤ w1.heap.size := Nat.le_trans hBb.size hB1.size
  have HFIN := Lib.hid (show ∀ w3 W, LnP g b v (S.take) w2 w3 → Chg (fun k => k = q) w3 W → DoR g b v (S.take) (.slice dA0 nd dc0) w (.returned (.tuple #[.agg #[.slice A1 n1 c1, nV (S.take).now], .bool true])) W from fun w3 W hP hC =>
    does_fin H.out.1 H.out.2.1 H.out.2.2.1 hBb hB1 hS hD hB2 hP hC ⟨hqw.2, hql⟩ hR')
  have HC := Lib.hid (HQ.out w2.drew (hBw2.drew))
  have HC0 := Lib.hid (HQ.out w2 hBw2)
  have HFA := Lib.hid (show ∀ w3, LnP g b v (S.take) w2 w3 → Bx w3 p1 q y1 y2 y3 ∧ w3.cell? ⟨w1.heap.size, 0, none⟩ = some (.slice A1 n1 c1) ∧ w3.cell? ⟨w1.heap.size, 1, none⟩ = some (nV S.now) from fun w3 hP => by
    obtain ⟨v', k1, k2, k3⟩ := hP
    exact ⟨hX2.chg k2 (fun hk => by have := HLT.out _ hk; omega) (fun hk => by have := HLT.out _ hk; omega), k2.cell z0 (fun hk => by have : w1.heap.size < w.heap.size := HLT.out _ hk; omega), k2.cell z1 (fun hk => by have : w1.heap.size < w.heap.size := HLT.out _ hk; omega)⟩)
  obtain ⟨a1, a2, a3, r0, r1, fq⟩ := hX2
  clear hB1 hB2 hB12 hBw2 hX hBb HQ hD hS hR' HC HP hn1
  go_upto_region 7 with fail
  rw [← hw2]
  clear hw2
  go_wp2_with fail
  with_reducible refine HC0.out.mono ?_
  rintro e w3 ⟨he, hP⟩
  rw [← HE.out.1, ← HE.out.2] at he
  obtain rfl := he
  obtain ⟨⟨b1, b2, b3, s0, s1, gq⟩, u0, u1⟩ := HFA.out w3 hP
  obtain ⟨W, hW⟩ : ∃ W, W = (w3.setCell ⟨q, 0, none⟩ (.slice A1 n1 c1)).setCell ⟨q, 1, none⟩ (.int .i64 S.now) := ⟨_, rfl⟩
  obtain ⟨t0, t1, hcg⟩ := twoSet s0 s1 hW
  have HF := Lib.hid (HFIN.out w3 W hP hcg)
  rw [take_now] at HF
  clear hP HFA HC0 a1 a2 a3 r0 r1 fq z0 z1
  go_wp2_with fail
  rw [← hW]
  refine bodyPost_ret (by simp [results, Try.results10, go_sem, t0, t1]; try rfl) rfl ?_
  exact HF.out
end Go.Proofs.Ytagfhlnedaagbaa
