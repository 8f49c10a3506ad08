/-
  A call on the code's line beside an empty line of the document's.
-/
import Derived.Test.YtagfhlnedaagbaaDocE
import Derived.Test.YtagfhlnedaagbaaAwkX
namespace Go.Proofs.Ytagfhlnedaagbaa
open Go.RowKit

/-- A line behind a call. -/
def Ln.act (S : Ln) (y : CallA) : Ln := if y.1 = 0 then S.put y.2.1 y.2.2.1 y.2.2.2 else if y.1 = 1 then S.take else if y.1 = 2 then S.drop y.2.1 else if y.1 = 3 then S.expire y.2.2.2 else S
theorem lnp_wrap {g b q : Nat} {v : Value} {S S' : Ln} {w w2 w3 W : World} (h : LnAt w g b v S) (hB : Below w.heap.size w w2) (hP : LnP g b v S' w2 w3) (hC : Chg (fun k => k = q) w3 W) (hq : w.heap.size ≤ q ∧ q < w2.heap.size) : LnP g b v S' w W := by
  obtain ⟨v', h1, h2, h3⟩ := hP
  refine ⟨v', h1.chg hC fun k hk e => ?_, ?_, ?_⟩
  · subst e
    rcases hk with e | e | e
    · have := h.ltg; omega
    · have := h.ltb; omega
    · rcases h3 with h3 | ⟨x, e1, e2⟩
      · rw [h3] at e; have := h.row.lt e; omega
      · rw [e1] at e; injection e with e; omega
  · refine ⟨(hC.os.trans h2.os).trans hB.os, (hC.tape.trans h2.tape).trans hB.tape, (hC.output.trans h2.output).trans hB.output, Nat.le_trans hB.size (Nat.le_trans h2.size hC.size), fun k hk hn => ?_⟩
    rw [hC.block k (by have := h2.size; have := hB.size; omega) (by omega), h2.block k (by have := hB.size; omega) hn, hB.block k hk]
  · rcases h3 with h3 | ⟨x, e1, e2⟩
    · exact .inl h3
    · exact .inr ⟨x, e1, by have := hB.size; omega⟩
/-- The boxes of a call: the call itself, the result. -/
structure Bx (W : World) (p1 q : Nat) (y1 y2 y3 : Int) : Prop where
  a1 : W.cell? ⟨p1, 1, none⟩ = some (nV y1)
  a2 : W.cell? ⟨p1, 2, none⟩ = some (nV y2)
  a3 : W.cell? ⟨p1, 3, none⟩ = some (nV y3)
  q0 : W.cell? ⟨q, 0, none⟩ = some (.slice none 0 0)
  q1 : W.cell? ⟨q, 1, none⟩ = some (.int .i64 0)
  fq : ∀ j, W.frozen? ⟨q, j, none⟩ = false
theorem Bx.chg {T : Nat → Prop} {W W' : World} {p1 q : Nat} {y1 y2 y3 : Int} (h : Bx W p1 q y1 y2 y3) (hC : Chg T W W') (h1 : ¬ T p1) (h2 : ¬ T q) : Bx W' p1 q y1 y2 y3 :=
  ⟨hC.cell h.a1 h1, hC.cell h.a2 h1, hC.cell h.a3 h1, hC.cell h.q0 h2, hC.cell h.q1 h2, fun j => (hC.frozen (a := ⟨q, j, none⟩) (show q < _ from cell_lt h.q0) h2).trans (h.fq j)⟩
theorem Bx.keep {W W' : World} {p1 q : Nat} {y1 y2 y3 : Int} (h : Bx W p1 q y1 y2 y3) (hB : Below W.heap.size W W') : Bx W' p1 q y1 y2 y3 := h.chg (T := fun _ => False) (Chg.of_below hB) id id
theorem twoSet {w3 : World} {q : Nat} {x0 x1 V0 V1 : Value} (s0 : w3.cell? ⟨q, 0, none⟩ = some x0) (s1 : w3.cell? ⟨q, 1, none⟩ = some x1) {W : World} (hW : W = (w3.setCell ⟨q, 0, none⟩ V0).setCell ⟨q, 1, none⟩ V1) :
    W.cell? ⟨q, 0, none⟩ = some V0 ∧ W.cell? ⟨q, 1, none⟩ = some V1 ∧ Chg (fun k => k = q) w3 W := by
  have u1 : (w3.setCell ⟨q, 0, none⟩ V0).cell? ⟨q, 1, none⟩ = some x1 := by rw [World.cell?_setCell_other _ _ _ _ (by intro e; simp only [Addr.mk.injEq] at e; omega)]; exact s1
  subst hW
  refine ⟨?_, World.cell?_setCell_same _ _ _ u1, Chg.set (S := fun k => k = q) (a := ⟨q, 1, none⟩) (Chg.set (S := fun k => k = q) (a := ⟨q, 0, none⟩) (Chg.refl w3) rfl _) rfl _⟩
  rw [World.cell?_setCell_other _ _ _ _ (by intro e; simp only [Addr.mk.injEq] at e; omega)]
  exact World.cell?_setCell_same _ _ _ s0
theorem bx_new (w : World) (y0 y1 y2 y3 : Int) {p1 q : Nat} (hp1 : p1 = w.heap.size + 1) (hq : q = w.heap.size + 1 + 1) : Bx (((w.alloc (.cells #[.slice none 0 0, nV 0] 27)).alloc (.cells #[nV y0, nV y1, nV y2, nV y3] 32)).alloc (.cells #[.slice none 0 0, .int .i64 0] 27)) p1 q y1 y2 y3 :=
  ⟨al_cell (al_new _ _ _ 1 _ (by rw [hp1]; simp) rfl), al_cell (al_new _ _ _ 2 _ (by rw [hp1]; simp) rfl), al_cell (al_new _ _ _ 3 _ (by rw [hp1]; simp) rfl), al_new _ _ _ 0 _ (by rw [hq]; simp) rfl, al_new _ _ _ 1 _ (by rw [hq]; simp) rfl, fun _ => frozen_at _ _ _ _ _ (by rw [hq]; simp)⟩
def DoP (g b : Nat) (v : Value) (S' : Ln) (w : World) (e : Ending) (w' : World) : Prop := ∃ r ok, e = .returned (.tuple #[r, .bool ok]) ∧ LnP g b v S' w w'
set_option maxRecDepth 100000 in
set_option maxHeartbeats 8000000 in
theorem does_put {g b : Nat} {v : Value} {S : Ln} (y1 y2 y3 : Int) (w : World) (h : LnAt w g b v S) (hn : S.q.length ≤ 1000) (hN : S.n ≤ 1000) :
    Calls Try.prog 10 #[.pointer (some ⟨g, 0, none⟩), .agg #[.slice none 0 0, nV 0], .agg #[nV 0, nV y1, nV y2, nV y3]] w fun e w' => DoP g b v (S.put y1 y2 y3) w e w' := by
  have HP := Lib.hid (fun W => putd_any (.slice none 0 0) 0 y1 y2 y3 [] W (DR.nil 0 W) (by simp))
  have HQ := Lib.hid (fun W (hB : Below w.heap.size w W) => put_any y1 y2 y3 W (h.keep hB) hn hN)
  have H := Lib.hid h
  have HLT := Lib.hid (fun k (hk : Blk g b v k) => h.blk_lt hk)
  clear h
  go_enter Try.func10, Try.ntmps10
  go_wp2_with fail
  obtain ⟨p, hp⟩ : ∃ p, p = w.heap.size := ⟨_, rfl⟩
  obtain ⟨p1, hp1⟩ : ∃ p1, p1 = w.heap.size + 1 := ⟨_, rfl⟩
  obtain ⟨q, hq⟩ : ∃ q, q = w.heap.size + 1 + 1 := ⟨_, rfl⟩
  obtain ⟨wb, hwb⟩ : ∃ wb, wb = (((w.alloc (.cells #[.slice none 0 0, nV 0] 27)).alloc (.cells #[nV 0, nV y1, nV y2, nV y3] 32)).alloc (.cells #[.slice none 0 0, .int .i64 0] 27)) := ⟨_, rfl⟩
  have hX : Bx wb p1 q y1 y2 y3 := by rw [hwb]; exact bx_new w 0 y1 y2 y3 hp1 hq
  have hBb : Below w.heap.size w wb := by rw [hwb]; exact (((Below.refl _ _).alloc (Nat.le_refl _) _).alloc (by simp) _).alloc (by simp; omega) _
  have hql : q < wb.heap.size := by rw [hwb, hq]; simp
  have hqw : w.heap.size ≤ p1 ∧ w.heap.size ≤ q := by omega
  rw [← hwb, ← hq, ← hp1, ← hp]
  clear hwb hp hp1 hq
  with_reducible refine (HP.out wb).mono ?_
  rintro e w1 ⟨v1, rfl, hD, hB1, _⟩
  obtain ⟨A1, c1, rfl, _⟩ := hD.len
  obtain ⟨n1, hn1⟩ : ∃ n1, n1 = (putD [] 0 y1 y2 y3).length := ⟨_, rfl⟩
  rw [← hn1]
  clear hD hn1 HP
  obtain ⟨w2, hw2⟩ : ∃ w2, w2 = w1.alloc (.cells #[.slice A1 n1 c1, nV 0] 27) := ⟨_, rfl⟩
  have hB2 : Below w1.heap.size w1 w2 := by rw [hw2]; exact (Below.refl _ _).alloc (Nat.le_refl _) _
  have hB12 : Below wb.heap.size wb w2 := hB1.trans (hB2.mono hB1.size)
  have hBw2 : Below w.heap.size w w2 := hBb.trans (hB12.mono hBb.size)
  have hX2 := hX.keep hB12
  have z0 : w2.cell? ⟨w1.heap.size, 0, none⟩ = some (.slice A1 n1 c1) := by rw [hw2]; exact al_new _ _ _ 0 _ rfl rfl
  have z1 : w2.cell? ⟨w1.heap.size, 1, none⟩ = some (nV 0) := by rw [hw2]; exact al_new _ _ _ 1 _ rfl rfl
  have HX2 := Lib.hid hX2
  have HBW := Lib.hid hBw2
  have hq2 : q < w2.heap.size := Nat.lt_of_lt_of_le hql hB12.size
  have HC := Lib.hid (HQ.out w2.drew (hBw2.drew))
  have ht8 : w.heap.size ≤ w1.heap.size := Nat.le_trans hBb.size hB1.size
  have HFA := Lib.hid (show ∀ w3, LnP g b v (S.put y1 y2 y3) w2.drew w3 → Bx w3 p1 q y1 y2 y3 ∧ w3.cell? ⟨w1.heap.size, 0, none⟩ = some (.slice A1 n1 c1) ∧ w3.cell? ⟨w1.heap.size, 1, none⟩ = some (nV 0) from fun w3 hP => by
    obtain ⟨v', k1, k2, k3⟩ := hP
    have k2' : Chg (Blk g b v) w2 w3 := ⟨k2.os, k2.tape, k2.output, k2.size, k2.block⟩
    exact ⟨hX2.chg k2' (fun hk => by have := HLT.out _ hk; omega) (fun hk => by have := HLT.out _ hk; omega), k2'.cell z0 (fun hk => by have : w1.heap.size < w.heap.size := HLT.out _ hk; omega), k2'.cell z1 (fun hk => by have : w1.heap.size < w.heap.size := HLT.out _ hk; omega)⟩)
  obtain ⟨a1, a2, a3, r0, r1, fq⟩ := hX2
  clear hB1 hB2 hB12 hBw2 hX hBb HQ
  go_upto_region 4 with fail
  rw [← hw2]
  clear hw2
  go_cut [7] (fun bv wx => ∃ ok, bv = .bool ok ∧ Hid (∃ w3, LnP g b v (S.put y1 y2 y3) w2.drew w3 ∧ wx = (w3.setCell ⟨q, 0, none⟩ (.slice A1 n1 c1)).setCell ⟨q, 1, none⟩ (nV 0)))
  case first =>
    go_region_law ((go_simp; (with_reducible refine HC.out.mono ?_); (rintro e w3 ⟨rfl, hP⟩); (obtain ⟨⟨b1, b2, b3, s0, s1, gq⟩, u0, u1⟩ := HFA.out w3 hP)))
    all_goals go_wp2_with fail
    all_goals go_meet
    all_goals exact ⟨_, rfl, w3, hP, rfl⟩
  case rest =>
    obtain ⟨ok, rfl, HW⟩ := hcut
    obtain ⟨w3, hP, hW⟩ := HW.out
    obtain ⟨hX3, _, _⟩ := HFA.out w3 hP
    obtain ⟨t0, t1, hcg⟩ := twoSet hX3.q0 hX3.q1 hW
    clear hW a1 a2 a3 r0 r1 fq z0 z1
    go_wp2_with fail
    refine bodyPost_ret (by simp [results, Try.results10, go_sem, t0, t1]; try rfl) rfl ?_
    exact ⟨_, _, rfl, lnp_wrap H.out HBW.out (by obtain ⟨v', k1, k2, k3⟩ := hP; exact ⟨v', k1, ⟨k2.os, k2.tape, k2.output, k2.size, k2.block⟩, k3⟩) hcg ⟨hqw.2, hq2⟩⟩
end Go.Proofs.Ytagfhlnedaagbaa
