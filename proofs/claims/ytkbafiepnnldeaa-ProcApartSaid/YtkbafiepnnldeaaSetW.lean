/-
  Settle: the queue behind a change of one process; has, Len.
-/
import Derived.Test.YtkbafiepnnldeaaJoinW
namespace Go.Proofs.Ytkbafiepnnldeaa
open Go.RowKit

def setQ (l : List Pr) (q : List Int) (k : Int) : List Int := if (atP l k).run = true then join l (gone q k) k else gone q k
theorem TbP.bel {w w1 w2 : World} {g bi ba ci : Nat} {v : Value} {T : Tb} (hB : Below w.heap.size w w1) (h : TbP g bi ba ci v T w1 w2) : TbP g bi ba ci v T w w2 := TbP.trans (Chg.of_below hB) (Slid.refl v w) h
theorem gone_len (q : List Int) (k : Int) : (gone q k).length ≤ q.length := List.length_filter_le _ _
set_option maxHeartbeats 1000000 in
theorem settle_any {g bi ba ci k : Nat} {v : Value} {T : Tb} (was : Pr) (w : World) (h : TbAt w g bi ba ci v T) (hk : k < T.l.length) (hq : ∀ y ∈ T.q, 0 ≤ y ∧ y < (T.l.length : Int)) (hn : T.q.length ≤ 1000) (hw : was.run = false → (k : Int) ∉ T.q) :
    Calls Try.prog 53 #[.pointer (some ⟨g, 0, none⟩), nV (k : Int), pV was] w fun e w' => VoidP g bi ba ci v ⟨T.first, T.l, setQ T.l T.q (k : Int)⟩ w e w' := by
  obtain ⟨now, hnow⟩ : ∃ now, now = T.l.getD k Pr.nil := ⟨_, rfl⟩
  obtain ⟨w0, hw0⟩ : ∃ w0, w0 = w.alloc (.cells #[nV was.st, .bool was.held, nV was.pr] 70) := ⟨_, rfl⟩
  have hB0 : Below w.heap.size w w0 := by rw [hw0]; exact (Below.refl _ _).alloc (Nat.le_refl _) _
  have a0 : w0.cell? ⟨w.heap.size, 0, none⟩ = some (nV was.st) := by rw [hw0]; exact al_new _ _ _ 0 _ rfl rfl
  have a1 : w0.cell? ⟨w.heap.size, 1, none⟩ = some (.bool was.held) := by rw [hw0]; exact al_new _ _ _ 1 _ rfl rfl
  have a2 : w0.cell? ⟨w.heap.size, 2, none⟩ = some (nV was.pr) := by rw [hw0]; exact al_new _ _ _ 2 _ rfl rfl
  have h0 := h.keep hB0
  have c1 := h0.c1
  obtain ⟨d0, d1, d2⟩ := h0.all.at hk
  rw [← hnow] at d0 d1 d2
  obtain ⟨w1, hw1⟩ : ∃ w1, w1 = w0.alloc (.cells #[nV now.st, .bool now.held, nV now.pr] 70) := ⟨_, rfl⟩
  have hB1 : Below w0.heap.size w0 w1 := by rw [hw1]; exact (Below.refl _ _).alloc (Nat.le_refl _) _
  have b0 : w1.cell? ⟨w.heap.size + 1, 0, none⟩ = some (nV now.st) := by rw [hw1]; exact al_new _ _ _ 0 _ (by rw [hw0]; simp) rfl
  have b1 : w1.cell? ⟨w.heap.size + 1, 1, none⟩ = some (.bool now.held) := by rw [hw1]; exact al_new _ _ _ 1 _ (by rw [hw0]; simp) rfl
  have b2 : w1.cell? ⟨w.heap.size + 1, 2, none⟩ = some (nV now.pr) := by rw [hw1]; exact al_new _ _ _ 2 _ (by rw [hw0]; simp) rfl
  have r0 := kept a0 hB1
  have r1 := kept a1 hB1
  have r2 := kept a2 hB1
  have HB1 := Lib.hid (hB0.trans (hB1.mono hB0.size))
  have HR := Lib.hid (fun p W => runnable_any p W)
  unfold pV at HR ⊢
  have HL := Lib.hid (fun W hB => leave_any (T := T) (k : Int) W (h.keep hB) (by omega))
  have hgm : ∀ y ∈ gone T.q (k : Int), 0 ≤ y ∧ y < (T.l.length : Int) := fun y hy => hq y (mem_gone.1 hy).1
  have hgl := gone_len T.q (k : Int)
  have HJ := Lib.hid (fun v' W h => join_any (g := g) (bi := bi) (ba := ba) (ci := ci) (k := k) (v := v') (T := ⟨T.first, T.l, gone T.q (k : Int)⟩) W h hk hgm (by show (gone _ _).length ≤ 1000; omega))
  have hset : setQ T.l T.q (k : Int) = if now.run = true then join T.l (gone T.q (k : Int)) (k : Int) else gone T.q (k : Int) := by unfold setQ; rw [atP_nat, hnow]
  rw [hset]
  have HG := Lib.hid (fun e : was.run = false => (gone_same (hw e)))
  have H := Lib.hid h
  obtain ⟨n, hnl⟩ : ∃ n, n = T.l.length := ⟨_, rfl⟩
  rw [← hnl] at c1 hk
  have i0 : (0 : Int) ≤ (k : Int) := Int.natCast_nonneg _
  have i1 : (k : Int) < (n : Int) := by omega
  clear h h0 hB0 hB1 hq hn hw hgm hgl hset hnow hnl hk
  subst hw0
  cases hr : now.run with
  | false =>
    rw [if_neg (by simp)]
    go_enter Try.func53, Try.ntmps53
    go_upto_region 2 with fail
    rw [← hw1]
    clear hw1 a0 a1 a2 d0 d1 d2 c1
    go_wp2_with fail
    with_reducible refine (HR.out now _).mono ?_
    rintro e w2 ⟨rfl, hB2⟩
    rw [hr]
    have HB2 := Lib.hid (HB1.out.trans (hB2.mono HB1.out.size))
    clear hB2
    go_wp2_with fail
    with_reducible refine (HL.out _ HB2.out).mono ?_
    rintro e w3 ⟨rfl, hP⟩
    have HF := Lib.hid (TbP.bel HB2.out hP)
    clear hP
    go_wp2_with fail
    go_end0
    exact ⟨rfl, HF.out⟩
  | true =>
    rw [if_pos rfl]
    go_enter Try.func53, Try.ntmps53
    go_upto_region 2 with fail
    rw [← hw1]
    clear hw1 a0 a1 a2 d0 d1 d2 c1
    go_wp2_with fail
    with_reducible refine (HR.out now _).mono ?_
    rintro e w2 ⟨rfl, hB2⟩
    rw [hr]
    have HB2 := Lib.hid (HB1.out.trans (hB2.mono HB1.out.size))
    have s0 := kept r0 hB2
    have s1 := kept r1 hB2
    have s2 := kept r2 hB2
    clear hB2 r0 r1 r2 b0 b1 b2
    go_wp2_with fail
    with_reducible refine (HR.out was _).mono ?_
    rintro e w3 ⟨rfl, hB3⟩
    have HB3 := Lib.hid (HB2.out.trans (hB3.mono HB2.out.size))
    clear hB3 s0 s1 s2
    cases hrw : was.run with
    | false =>
      have HJ3 := Lib.hid (HJ.out v w3 (by rw [HG.out hrw]; exact H.out.keep HB3.out))
      go_wp2_with fail
      with_reducible refine HJ3.out.mono ?_
      rintro e w4 ⟨rfl, hP⟩
      have HF := Lib.hid (TbP.bel HB3.out hP)
      clear hP
      go_wp2_with fail
      go_end0
      exact ⟨rfl, HF.out⟩
    | true =>
      go_wp2_with fail
      with_reducible refine (HL.out _ HB3.out).mono ?_
      rintro e w4 ⟨rfl, v4, h4, hC4, hs4⟩
      have HJ4 := Lib.hid (HJ.out v4 w4 h4)
      have HC4 := Lib.hid ((Chg.of_below HB3.out).trans hC4)
      have HS4 : Hid (Slid v v4 w) := fun x hx => (hs4 x hx).imp id fun e => Nat.le_trans HB3.out.size e
      clear h4 hC4 hs4
      go_wp2_with fail
      with_reducible refine HJ4.out.mono ?_
      rintro e w5 ⟨rfl, hP⟩
      have HF := Lib.hid (TbP.trans HC4.out HS4.out hP)
      clear hP
      go_wp2_with fail
      go_end0
      exact ⟨rfl, HF.out⟩
theorem len_any {g bi ba ci : Nat} {v : Value} {T : Tb} (w : World) (h : TbAt w g bi ba ci v T) : Calls Try.prog 16 #[.pointer (some ⟨g, 0, none⟩)] w fun e w' => e = .returned (nV (T.l.length : Int)) ∧ w = w' := by
  have c1 := h.c1
  obtain ⟨n, hn⟩ : ∃ n, n = T.l.length := ⟨_, rfl⟩
  rw [← hn] at c1 ⊢
  clear h hn
  go_enter Try.func16, Try.ntmps16
  go_wp2_with fail
  go_ret
  exact ⟨rfl, rfl⟩
theorem has_any {g bi ba ci : Nat} {v : Value} {T : Tb} (i : Int) (w : World) (h : TbAt w g bi ba ci v T) : Calls Try.prog 35 #[.pointer (some ⟨g, 0, none⟩), nV i] w fun e w' => e = .returned (.bool (decide (T.has i))) ∧ w = w' := by
  have HL := Lib.hid (len_any w h)
  have hd : decide (T.has i) = (decide (0 ≤ i) && decide (i < (T.l.length : Int))) := by
    rw [Bool.eq_iff_iff]
    simp only [decide_eq_true_eq, Bool.and_eq_true]
    exact Iff.rfl
  rw [hd]
  generalize (T.l.length : Int) = n at HL ⊢
  clear h hd
  go_enter Try.func35, Try.ntmps35
  by_cases h0 : 0 ≤ i
  · go_wp2_with fail
    with_reducible refine HL.out.mono ?_
    rintro e w1 ⟨rfl, rfl⟩
    go_wp2_with fail
    go_ret
    exact ⟨by simp [h0], rfl⟩
  · go_wp2_with fail
    go_ret
    exact ⟨by have : decide (0 ≤ i) = false := decide_eq_false (by omega)
              rw [this]; rfl, rfl⟩
end Go.Proofs.Ytkbafiepnnldeaa
