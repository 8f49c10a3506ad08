/-
  A process's place in the queue: join, settle.
-/
import Derived.Test.YtkbafiepnnldeaaChgW
namespace Go.Proofs.Ytkbafiepnnldeaa
open Go.RowKit

theorem take_at {f : Int → Bool} : ∀ {q : List Int} {k : Nat}, k ≤ q.length → (∀ j, j < k → f (q.getD j 0) = true) → (k = q.length ∨ f (q.getD k 0) = false) → q.takeWhile f = q.take k ∧ q.dropWhile f = q.drop k
  | [], k, hk, _, _ => by
    have : k = 0 := by simpa using hk
    subst this
    exact ⟨rfl, rfl⟩
  | a :: r, 0, _, _, h => by
    rcases h with h | h
    · simp at h
    · have h : f a = false := h
      exact ⟨by rw [List.takeWhile_cons_of_neg (by rw [h]; simp)]; rfl, by rw [List.dropWhile_cons_of_neg (by rw [h]; simp)]; rfl⟩
  | a :: r, k + 1, hk, h1, h2 => by
    have ha : f a = true := h1 0 (Nat.succ_pos _)
    have ih := take_at (f := f) (q := r) (k := k) (by simpa using hk) (fun j hj => h1 (j + 1) (by omega)) (by
      rcases h2 with h2 | h2
      · exact .inl (by simpa using h2)
      · exact .inr h2)
    rw [List.takeWhile_cons_of_pos ha, List.dropWhile_cons_of_pos ha, ih.1, ih.2]
    exact ⟨rfl, rfl⟩
theorem join_at {l : List Pr} {q : List Int} {i : Int} {k : Nat} (hk : k ≤ q.length) (h1 : ∀ j, j < k → ahead l i (q.getD j 0) = true) (h2 : k = q.length ∨ ahead l i (q.getD k 0) = false) : join l q i = insAt q k i := by
  obtain ⟨e1, e2⟩ := take_at hk h1 h2
  unfold join insAt
  rw [e1, e2]
theorem atP_nat (l : List Pr) (a : Nat) : atP l (a : Int) = l.getD a Pr.nil := by
  unfold atP
  rw [Int.toNat_natCast]
theorem join1_any {g bi ba ci q1 q2 a k n : Nat} {v : Value} {T : Tb} (w : World) (h : TbAt w g bi ba ci v T) (hn : n = T.l.length) (ha : a < n) (hk : k < n) (b1 : w.cell? ⟨q1, 0, none⟩ = some (.pointer (some ⟨g, 0, none⟩))) (b2 : w.cell? ⟨q2, 0, none⟩ = some (nV (k : Int))) :
    Calls Try.prog 59 #[nV (a : Int), .pointer (some ⟨q1, 0, none⟩), .pointer (some ⟨q2, 0, none⟩)] w fun e w' => e = .returned (.bool (!ahead T.l (k : Int) (a : Int))) ∧ Below w.heap.size w w' := by
  have c1 := h.c1
  rw [← hn] at c1
  obtain ⟨_, _, e1⟩ := h.all.at (i := a) (by omega)
  obtain ⟨_, _, e2⟩ := h.all.at (i := k) (by omega)
  have hA : ahead T.l (k : Int) (a : Int) = !decide ((T.l.getD a Pr.nil).pr < (T.l.getD k Pr.nil).pr) := by
    unfold ahead
    rw [atP_nat, atP_nat]
  rw [hA]
  obtain ⟨x, hx⟩ : ∃ x, x = (T.l.getD a Pr.nil).pr := ⟨_, rfl⟩
  obtain ⟨y, hy⟩ : ∃ y, y = (T.l.getD k Pr.nil).pr := ⟨_, rfl⟩
  rw [← hx] at e1 ⊢
  rw [← hy] at e2 ⊢
  have i0 : (0 : Int) ≤ (k : Int) := Int.natCast_nonneg _
  have i1 : (k : Int) < (n : Int) := by omega
  have i2 : (0 : Int) ≤ (a : Int) := Int.natCast_nonneg _
  have i3 : (a : Int) < (n : Int) := by omega
  clear h hn ha hk hx hy hA
  go_enter Try.func59, Try.ntmps59
  go_wp2_with fail
  go_region
  all_goals go_wp2_with fail
  all_goals go_ret
  all_goals exact ⟨by simp, below_dn w 1⟩
set_option maxHeartbeats 1000000 in
theorem join_any {g bi ba ci k : Nat} {v : Value} {T : Tb} (w : World) (h : TbAt w g bi ba ci v T) (hk : k < T.l.length) (hq : ∀ y ∈ T.q, 0 ≤ y ∧ y < (T.l.length : Int)) (hn : T.q.length ≤ 1000) : Calls Try.prog 55 #[.pointer (some ⟨g, 0, none⟩), nV (k : Int)] w fun e w' => VoidP g bi ba ci v ⟨T.first, T.l, join T.l T.q (k : Int)⟩ w e w' := by
  obtain ⟨w1, hw1⟩ : ∃ w1, w1 = (w.alloc (.cells #[.pointer (some ⟨g, 0, none⟩)] 24)).alloc (.cells #[nV (k : Int)] 3) := ⟨_, rfl⟩
  have hB1 : Below w.heap.size w w1 := by rw [hw1]; exact ((Below.refl _ _).alloc (Nat.le_refl _) _).alloc (by simp) _
  have b1 : w1.cell? ⟨w.heap.size, 0, none⟩ = some (.pointer (some ⟨g, 0, none⟩)) := by rw [hw1]; exact al_cell (al_new _ _ _ 0 _ rfl rfl)
  have b2 : w1.cell? ⟨w.heap.size + 1, 0, none⟩ = some (nV (k : Int)) := by rw [hw1]; exact al_new _ _ _ 0 _ (by simp) rfl
  have h1 := h.keep hB1
  obtain ⟨A, c, rfl, hA⟩ := h1.row.len
  have HI := Lib.hid (index_any 59 #[.pointer (some ⟨w.heap.size, 0, none⟩), .pointer (some ⟨w.heap.size + 1, 0, none⟩)] (fun y => !ahead T.l (k : Int) y) A c T.q w1 h1.row.ints (enters_of Try.func59 rfl rfl) (by omega) fun x W hx hB => by
    obtain ⟨x1, x2⟩ := hq x hx
    have := join1_any (a := x.toNat) (k := k) (n := T.l.length) W (h1.keep hB) rfl (by omega) hk (kept b1 hB) (kept b2 hB)
    rw [Int.toNat_of_nonneg x1] at this
    exact this)
  have c2 := h1.c2
  have HB1 := Lib.hid hB1
  have HH := Lib.hid h
  have HH1 := Lib.hid h1
  have HQ := Lib.hid hq
  have hvq : ∀ x, (Value.slice A T.q.length c).ownBlock = some x → x < w1.heap.size := fun x hx => h1.row.lt hx
  have HVQ := Lib.hid hvq
  have HNQ : Hid (¬ (Value.slice A T.q.length c).ownBlock = some w.heap.size) := fun e => absurd (h.row.lt e) (Nat.lt_irrefl _)
  have hg1 := h1.ltg
  have hb1l := cell_lt b1
  have hb2l := cell_lt b2
  dsimp only at hb1l hb2l
  obtain ⟨m, hm⟩ : ∃ m, m = T.q.length := ⟨_, rfl⟩
  have HM := Lib.hid hm
  rw [← hm] at c2 HI hn
  clear h h1 hB1 hA hq hvq hm
  go_enter Try.func55, Try.ntmps55
  go_upto_region 1 with fail
  rw [← hw1]
  clear hw1
  go_cut [4] (fun v4 wx => ∃ p : Nat, (∃ z : Int, v4 = nV z ∧ (z = (p : Int) ∧ p < m ∨ z = -1 ∧ p = m)) ∧ p ≤ m ∧ Hid (join T.l T.q (k : Int) = insAt T.q p (k : Int)) ∧ Below w1.heap.size w1 wx)
  case first =>
    go_wp2_with fail
    with_reducible refine HI.out.mono ?_
    rintro e w2 ⟨hres, hB2⟩
    have HB2 := Lib.hid hB2
    have r1 := kept b1 hB2
    have r3 := kept c2 hB2
    rcases hres with ⟨p, hp, rfl, h1, h2⟩ | ⟨rfl, h1⟩
    · have HJ : Hid (join T.l T.q (k : Int) = insAt T.q p (k : Int)) := join_at (by omega) (fun j hj => by simpa using h1 j hj) (.inr (by simpa using h2))
      have hpm : p < m := by rw [HM.out]; exact hp
      have i0 : ¬ ((p : Int) < 0) := by omega
      clear hB2 h1 h2 hp
      go_wp2_with fail
      go_meet
      exact ⟨p, ⟨_, rfl, .inl ⟨rfl, hpm⟩⟩, by omega, HJ, HB2.out⟩
    · have HJ : Hid (join T.l T.q (k : Int) = insAt T.q m (k : Int)) := join_at (by rw [HM.out]; exact Nat.le_refl _) (fun j hj => by simpa using h1 j (by rw [← HM.out]; exact hj)) (.inl HM.out)
      clear hB2 h1
      go_wp2_with fail
      go_meet
      exact ⟨m, ⟨_, rfl, .inr ⟨rfl, rfl⟩⟩, Nat.le_refl _, HJ, HB2.out⟩
  case rest =>
    obtain ⟨p, ⟨z, rfl, hz⟩, hpm, HJ, hB2⟩ := hcut
    rename World => w2
    have HB2 := Lib.hid hB2
    have r1 := kept b1 hB2
    have r2 := kept b2 hB2
    have r3 := kept c2 hB2
    have hg2 : g < w2.heap.size := Nat.lt_of_lt_of_le hg1 hB2.size
    have f3 : w2.frozen? ⟨g, 2, none⟩ = false := (hB2.frozen (p := ⟨g, 2, none⟩) hg1).trans (HH1.out.fz 2)
    have hng : ¬ (Value.slice A m c).ownBlock = some g := by rw [HM.out]; exact HH1.out.n4
    have hnq : ¬ (Value.slice A m c).ownBlock = some w.heap.size := by rw [HM.out]; exact HNQ.out
    have HI2 := Lib.hid (fun (W : World) (hB : Below w2.heap.size w2 W) (vb : Nat) (hvb : w2.heap.size ≤ vb) (hx : W.heap[vb]? = some (.cells #[nV (k : Int)] 3 (0, 0))) => insert_any (.slice A T.q.length c) T.q p (k : Int) vb W (((HH1.out.keep HB2.out).keep hB).row) (by rw [← HM.out]; exact hpm) (by rw [← HM.out]; omega) hx fun e => by
      have h1 := HVQ.out vb e
      have h2 := HB2.out.size
      omega)
    rw [← HM.out] at HI2
    clear hB2 b1 b2 c2
    have HZ := Lib.hid hz
    clear hz
    go_upto_if 12 with fail
    go_cut [4] (fun v4 wx => v4 = nV (p : Int) ∧ w2 = wx)
    case first =>
      rcases HZ.out with ⟨rfl, hp⟩ | ⟨rfl, hp⟩
      · have i0 : ¬ ((p : Int) < 0) := by omega
        go_wp2_with fail
        go_meet
        exact ⟨rfl, rfl⟩
      · subst hp
        go_wp2_with fail
        go_meet
        exact ⟨rfl, rfl⟩
    case rest =>
      obtain ⟨rfl, rfl⟩ := hcut
      have hB3 : Below w2.heap.size w2 (w2.alloc (.cells #[nV (k : Int)] 3)).drew := ((Below.refl w2.heap.size w2).alloc (Nat.le_refl _) (.cells #[nV (k : Int)] 3)).drew
      have HI3 := Lib.hid (HI2.out _ hB3 w2.heap.size (Nat.le_refl _) (show (w2.alloc (.cells #[nV (k : Int)] 3)).drew.heap[w2.heap.size]? = _ from heap_alloc_new w2 _))
      have HB3 := Lib.hid hB3
      have s1 := kept r1 hB3
      have s2 := kept r2 hB3
      have s3 := kept r3 hB3
      have g3 : (w2.alloc (.cells #[nV (k : Int)] 3)).drew.frozen? ⟨g, 2, none⟩ = false := (hB3.frozen (p := ⟨g, 2, none⟩) hg2).trans f3
      have hg3 : g < (w2.alloc (.cells #[nV (k : Int)] 3)).drew.heap.size := Nat.lt_of_lt_of_le hg2 hB3.size
      clear hB3
      go_wp2_with fail
      go_region_law ((go_simp; (with_reducible refine HI3.out.mono ?_); (rintro e w5 ⟨v5, rfl, hN5, hC5, hs5⟩); (have r5 := hC5.cell s3 hng); (have q5 := hC5.cell s1 hnq); (have f5 := (hC5.frozen (a := ⟨g, 2, none⟩) hg3 hng).trans g3); (rw [HM.out] at hC5); (have HF := Lib.hid (HH.out.queue (HB1.out.trans ((HB2.out.trans (HB3.out.mono HB2.out.size)).mono HB1.out.size)) hN5 hC5 (by rw [HM.out] at hs5; exact Slid.of hs5))); (obtain ⟨A5, d5, rfl, _⟩ := hN5.len); clear hN5 hC5 hs5))
      all_goals go_wp2_with fail
      all_goals go_end0
      all_goals exact ⟨rfl, by rw [HJ.out]; exact HF.out⟩
end Go.Proofs.Ytkbafiepnnldeaa
