/-
  A call on the code's line beside an empty line of the document's: the others.
-/
import Derived.Test.YtagfhlnedaagbaaDoes
namespace Go.Proofs.Ytagfhlnedaagbaa
open Go.RowKit

set_option maxRecDepth 100000 in
set_option maxHeartbeats 8000000 in
theorem does_drop {g b : Nat} {v : Value} {S : Ln} (y1 y2 y3 : Int) (hid : I64 y1) (w : World) (h : LnAt w g b v S) (hn : S.q.length ≤ 1000) :
    Calls Try.prog 10 #[.pointer (some ⟨g, 0, none⟩), .agg #[.slice none 0 0, nV 0], .agg #[nV 2, nV y1, nV y2, nV y3]] w fun e w' => DoP g b v (S.drop y1) w e w' := by
  have HP := Lib.hid (fun W => dropd_any (.slice none 0 0) 0 y1 [] W (DR.nil 0 W) (by simp))
  have HQ := Lib.hid (fun W (hB : Below w.heap.size w W) => drop_any y1 hid W (h.keep hB) (Nat.le_trans hn (by omega)))
  have H := Lib.hid h
  have HLT := Lib.hid (fun k (hk : Blk g b v k) => h.blk_lt hk)
  clear h
  go_enter Try.func10, Try.ntmps10
  go_wp2_with fail
  obtain ⟨p, hp⟩ : ∃ p, p = w.heap.size := ⟨_, rfl⟩
  obtain ⟨p1, hp1⟩ : ∃ p1, p1 = w.heap.size + 1 := ⟨_, rfl⟩
  obtain ⟨q, hq⟩ : ∃ q, q = w.heap.size + 1 + 1 := ⟨_, rfl⟩
  obtain ⟨wb, hwb⟩ : ∃ wb, wb = (((w.alloc (.cells #[.slice none 0 0, nV 0] 27)).alloc (.cells #[nV 2, nV y1, nV y2, nV y3] 32)).alloc (.cells #[.slice none 0 0, .int .i64 0] 27)) := ⟨_, rfl⟩
  have hX : Bx wb p1 q y1 y2 y3 := by rw [hwb]; exact bx_new w 2 y1 y2 y3 hp1 hq
  have hBb : Below w.heap.size w wb := by rw [hwb]; exact (((Below.refl _ _).alloc (Nat.le_refl _) _).alloc (by simp) _).alloc (by simp; omega) _
  have hql : q < wb.heap.size := by rw [hwb, hq]; simp
  have hqw : w.heap.size ≤ p1 ∧ w.heap.size ≤ q := by omega
  rw [← hwb, ← hq, ← hp1, ← hp]
  clear hwb hp hp1 hq
  with_reducible refine (HP.out wb).mono ?_
  rintro e w1 ⟨l', E, _, v1, rfl, hD, hB1, _⟩
  obtain ⟨A1, c1, rfl, _⟩ := hD.len
  obtain ⟨n1, hn1⟩ : ∃ n1, n1 = l'.length := ⟨_, rfl⟩
  rw [← hn1]
  clear hD hn1 HP
  obtain ⟨w2, hw2⟩ : ∃ w2, w2 = w1.alloc (.cells #[.slice A1 n1 c1, nV 0] 27) := ⟨_, rfl⟩
  have hB2 : Below w1.heap.size w1 w2 := by rw [hw2]; exact (Below.refl _ _).alloc (Nat.le_refl _) _
  have hB12 : Below wb.heap.size wb w2 := hB1.trans (hB2.mono hB1.size)
  have hBw2 : Below w.heap.size w w2 := hBb.trans (hB12.mono hBb.size)
  have hX2 := hX.keep hB12
  have z0 : w2.cell? ⟨w1.heap.size, 0, none⟩ = some (.slice A1 n1 c1) := by rw [hw2]; exact al_new _ _ _ 0 _ rfl rfl
  have z1 : w2.cell? ⟨w1.heap.size, 1, none⟩ = some (nV 0) := by rw [hw2]; exact al_new _ _ _ 1 _ rfl rfl
  have HX2 := Lib.hid hX2
  have HBW := Lib.hid hBw2
  have hq2 : q < w2.heap.size := Nat.lt_of_lt_of_le hql hB12.size
  have HC := Lib.hid (HQ.out w2.drew (hBw2.drew))
  have ht8 : w.heap.size ≤ w1.heap.size := Nat.le_trans hBb.size hB1.size
  have HFA := Lib.hid (show ∀ w3, LnP g b v (S.drop y1) w2.drew w3 → Bx w3 p1 q y1 y2 y3 ∧ w3.cell? ⟨w1.heap.size, 0, none⟩ = some (.slice A1 n1 c1) ∧ w3.cell? ⟨w1.heap.size, 1, none⟩ = some (nV 0) from fun w3 hP => by
    obtain ⟨v', k1, k2, k3⟩ := hP
    have k2' : Chg (Blk g b v) w2 w3 := ⟨k2.os, k2.tape, k2.output, k2.size, k2.block⟩
    exact ⟨hX2.chg k2' (fun hk => by have := HLT.out _ hk; omega) (fun hk => by have := HLT.out _ hk; omega), k2'.cell z0 (fun hk => by have : w1.heap.size < w.heap.size := HLT.out _ hk; omega), k2'.cell z1 (fun hk => by have : w1.heap.size < w.heap.size := HLT.out _ hk; omega)⟩)
  obtain ⟨a1, a2, a3, r0, r1, fq⟩ := hX2
  clear hB1 hB2 hB12 hBw2 hX hBb HQ
  go_upto_region 11 with fail
  rw [← hw2]
  clear hw2
  go_cut [7] (fun bv wx => ∃ ok, bv = .bool ok ∧ Hid (∃ w3, LnP g b v (S.drop y1) w2.drew w3 ∧ wx = (w3.setCell ⟨q, 0, none⟩ (.slice A1 n1 c1)).setCell ⟨q, 1, none⟩ (nV 0)))
  case first =>
    go_region_law ((go_simp; (with_reducible refine HC.out.mono ?_); (rintro e w3 ⟨rfl, hP⟩); (obtain ⟨⟨b1, b2, b3, s0, s1, gq⟩, u0, u1⟩ := HFA.out w3 hP)))
    all_goals go_wp2_with fail
    all_goals go_meet
    all_goals exact ⟨_, rfl, w3, hP, rfl⟩
  case rest =>
    obtain ⟨ok, rfl, HW⟩ := hcut
    obtain ⟨w3, hP, hW⟩ := HW.out
    obtain ⟨hX3, _, _⟩ := HFA.out w3 hP
    obtain ⟨t0, t1, hcg⟩ := twoSet hX3.q0 hX3.q1 hW
    clear hW a1 a2 a3 r0 r1 fq z0 z1
    go_wp2_with fail
    refine bodyPost_ret (by simp [results, Try.results10, go_sem, t0, t1]; try rfl) rfl ?_
    exact ⟨_, _, rfl, lnp_wrap H.out HBW.out (by obtain ⟨v', k1, k2, k3⟩ := hP; exact ⟨v', k1, ⟨k2.os, k2.tape, k2.output, k2.size, k2.block⟩, k3⟩) hcg ⟨hqw.2, hq2⟩⟩
set_option maxRecDepth 100000 in
set_option maxHeartbeats 8000000 in
theorem does_take {g b : Nat} {v : Value} {S : Ln} (y1 y2 y3 : Int) (w : World) (h : LnAt w g b v S) (hn : S.q.length ≤ 1000) :
    Calls Try.prog 10 #[.pointer (some ⟨g, 0, none⟩), .agg #[.slice none 0 0, nV 0], .agg #[nV 1, nV y1, nV y2, nV y3]] w fun e w' => DoP g b v (S.take) w e w' := by
  have HP := Lib.hid (fun W => taked_any (.slice none 0 0) 0 [] W (DR.nil 0 W) (by simp) (fun y hy => ord_has hy))
  have HQ := Lib.hid (fun W (hB : Below w.heap.size w W) => take_any W (h.keep hB) (Nat.le_trans hn (by omega)))
  have H := Lib.hid h
  have HLT := Lib.hid (fun k (hk : Blk g b v k) => h.blk_lt hk)
  clear h
  go_enter Try.func10, Try.ntmps10
  go_wp2_with fail
  obtain ⟨p, hp⟩ : ∃ p, p = w.heap.size := ⟨_, rfl⟩
  obtain ⟨p1, hp1⟩ : ∃ p1, p1 = w.heap.size + 1 := ⟨_, rfl⟩
  obtain ⟨q, hq⟩ : ∃ q, q = w.heap.size + 1 + 1 := ⟨_, rfl⟩
  obtain ⟨wb, hwb⟩ : ∃ wb, wb = (((w.alloc (.cells #[.slice none 0 0, nV 0] 27)).alloc (.cells #[nV 1, nV y1, nV y2, nV y3] 32)).alloc (.cells #[.slice none 0 0, .int .i64 0] 27)) := ⟨_, rfl⟩
  have hX : Bx wb p1 q y1 y2 y3 := by rw [hwb]; exact bx_new w 1 y1 y2 y3 hp1 hq
  have hBb : Below w.heap.size w wb := by rw [hwb]; exact (((Below.refl _ _).alloc (Nat.le_refl _) _).alloc (by simp) _).alloc (by simp; omega) _
  have hql : q < wb.heap.size := by rw [hwb, hq]; simp
  have hqw : w.heap.size ≤ p1 ∧ w.heap.size ≤ q := by omega
  rw [← hwb, ← hq, ← hp1, ← hp]
  clear hwb hp hp1 hq
  with_reducible refine (HP.out wb).mono ?_
  rintro e w1 ⟨l', id', okd, v1, _, rfl, hD, hB1, _⟩
  obtain ⟨A1, c1, rfl, _⟩ := hD.len
  obtain ⟨n1, hn1⟩ : ∃ n1, n1 = l'.length := ⟨_, rfl⟩
  rw [← hn1]
  clear hD hn1 HP
  obtain ⟨w2, hw2⟩ : ∃ w2, w2 = w1.alloc (.cells #[.slice A1 n1 c1, nV 0] 27) := ⟨_, rfl⟩
  have hB2 : Below w1.heap.size w1 w2 := by rw [hw2]; exact (Below.refl _ _).alloc (Nat.le_refl _) _
  have hB12 : Below wb.heap.size wb w2 := hB1.trans (hB2.mono hB1.size)
  have hBw2 : Below w.heap.size w w2 := hBb.trans (hB12.mono hBb.size)
  have hX2 := hX.keep hB12
  have z0 : w2.cell? ⟨w1.heap.size, 0, none⟩ = some (.slice A1 n1 c1) := by rw [hw2]; exact al_new _ _ _ 0 _ rfl rfl
  have z1 : w2.cell? ⟨w1.heap.size, 1, none⟩ = some (nV 0) := by rw [hw2]; exact al_new _ _ _ 1 _ rfl rfl
  have HX2 := Lib.hid hX2
  have HBW := Lib.hid hBw2
  have hq2 : q < w2.heap.size := Nat.lt_of_lt_of_le hql hB12.size
  have HQ2 := Lib.hid (HQ.out w2 hBw2)
  have ht8 : w.heap.size ≤ w1.heap.size := Nat.le_trans hBb.size hB1.size
  have HFA := Lib.hid (show ∀ w3, LnP g b v (S.take) w2 w3 → Bx w3 p1 q y1 y2 y3 ∧ w3.cell? ⟨w1.heap.size, 0, none⟩ = some (.slice A1 n1 c1) ∧ w3.cell? ⟨w1.heap.size, 1, none⟩ = some (nV 0) from fun w3 hP => by
    obtain ⟨v', k1, k2, k3⟩ := hP
    have k2' : Chg (Blk g b v) w2 w3 := ⟨k2.os, k2.tape, k2.output, k2.size, k2.block⟩
    exact ⟨hX2.chg k2' (fun hk => by have := HLT.out _ hk; omega) (fun hk => by have := HLT.out _ hk; omega), k2'.cell z0 (fun hk => by have : w1.heap.size < w.heap.size := HLT.out _ hk; omega), k2'.cell z1 (fun hk => by have : w1.heap.size < w.heap.size := HLT.out _ hk; omega)⟩)
  obtain ⟨a1, a2, a3, r0, r1, fq⟩ := hX2
  clear hB1 hB2 hB12 hBw2 hX hBb HQ
  go_upto_region 7 with fail
  rw [← hw2]
  clear hw2
  go_wp2_with fail
  with_reducible refine (HQ2.out).mono ?_
  rintro e w3 ⟨rfl, hP⟩
  obtain ⟨⟨b1, b2, b3, s0, s1, gq⟩, u0, u1⟩ := HFA.out w3 hP
  have HX3 := Lib.hid (HFA.out w3 hP).1
  go_wp2_with fail
  all_goals
    obtain ⟨V2, hV2⟩ : ∃ V2 : Value, V2 = .slice A1 n1 c1 := ⟨_, rfl⟩
    rw [← hV2]
    obtain ⟨W, hW⟩ : ∃ W, W = (w3.setCell ⟨q, 0, none⟩ V2).setCell ⟨q, 1, none⟩ (.int .i64 0) := ⟨_, rfl⟩
    obtain ⟨t0, t1, hcg⟩ := twoSet HX3.out.q0 HX3.out.q1 hW
    rw [← hW]
    clear hW
    refine bodyPost_ret (by simp [results, Try.results10, go_sem, t0, t1]; try rfl) rfl ?_
    exact ⟨_, _, rfl, lnp_wrap H.out HBW.out hP hcg ⟨hqw.2, hq2⟩⟩
end Go.Proofs.Ytagfhlnedaagbaa
