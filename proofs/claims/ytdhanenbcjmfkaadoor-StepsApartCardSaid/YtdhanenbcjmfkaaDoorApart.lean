/-
  Two machines with one task in common, pure; their beginning.
-/
import Derived.Test.YtdhanenbcjmfkaaDoorWalkAdd
namespace Go.Proofs.YtdhanenbcjmfkaaDoor
open Go.RowKit

/-- What stays: the common task, its word, the other words. -/
structure ApInv (s1 s2 : Sy) (a b : Int) : Prop where
  same : s1.l 0 = s2.l 0
  ata : (s1.l 0).at' = a
  atb : (s1.l 1).at' = b
  wa : ∀ j : Nat, j < 3 → (j : Int) = a → s1.f j = s2.f j
  w0 : ∀ j : Nat, j < 3 → (j : Int) ≠ a → (j : Int) ≠ b → s1.f j = 0
  y0 : ∀ j : Nat, j < 3 → (j : Int) ≠ a → s2.f j = 0
/-- A word that the task's step leaves. -/
theorem upd_word {t : Tk} {f : Nat → Int} {j : Nat} (_ : j < 3) (h : (j : Int) ≠ t.at') : upd f t.at'.toNat (t.word 3 (f t.at'.toNat)) j = f j := by
  by_cases e : j = t.at'.toNat
  · have ho : t.over 3 = true := by
      unfold Tk.over
      rw [inM_ne (by omega)]
      simp
    rw [word_over ho]
    exact upd_self f _ j
  · exact upd_other e
theorem next_same {t : Tk} {x y : Int} (h : 0 ≤ t.at' ∧ t.at' < 3 → x = y) : t.next 3 x = t.next 3 y ∧ ((0 ≤ t.at' ∧ t.at' < 3) → t.word 3 x = t.word 3 y) := by
  by_cases hi : 0 ≤ t.at' ∧ t.at' < 3
  · rw [h hi]; exact ⟨rfl, fun _ => rfl⟩
  · have ho : t.over 3 = true := by
      unfold Tk.over
      rw [inM_ne (by omega)]
      simp
    rw [next_over ho, next_over ho]
    exact ⟨rfl, fun h => absurd h hi⟩
theorem ApInv.both {s1 s2 : Sy} {a b : Int} (h : ApInv s1 s2 a b) : ApInv (s1.pick 3 0) (s2.pick 3 0) a b := by
  cases hd : (s1.l 0).done
  · have hd2 : (s2.l 0).done = false := by rw [← h.same]; exact hd
    have e1 : s1.pick 3 0 = { l := upd s1.l 0 ((s1.l 0).next 3 (s1.f (s1.l 0).at'.toNat)), f := upd s1.f (s1.l 0).at'.toNat ((s1.l 0).word 3 (s1.f (s1.l 0).at'.toNat)) } := by
      unfold Sy.pick; rw [if_neg (by simp [hd])]
    have e2 : s2.pick 3 0 = { l := upd s2.l 0 ((s2.l 0).next 3 (s2.f (s2.l 0).at'.toNat)), f := upd s2.f (s2.l 0).at'.toNat ((s2.l 0).word 3 (s2.f (s2.l 0).at'.toNat)) } := by
      unfold Sy.pick; rw [if_neg (by simp [hd2])]
    rw [e1, e2, ← h.same]
    obtain ⟨n1, n2⟩ := next_same (t := s1.l 0) (x := s1.f (s1.l 0).at'.toNat) (y := s2.f (s1.l 0).at'.toNat) (fun hi => h.wa _ (by omega) (by have := h.ata; omega))
    refine ⟨?_, ?_, ?_, fun j hj hja => ?_, fun j hj hja hjb => ?_, fun j hj hja => ?_⟩
    · dsimp only
      rw [upd_same, upd_same, n1]
    · dsimp only
      rw [upd_same, next_at]; exact h.ata
    · dsimp only
      rw [upd_other (by decide)]; exact h.atb
    · have hat := h.ata
      have e : j = (s1.l 0).at'.toNat := by omega
      dsimp only
      rw [e, upd_same, upd_same]
      exact n2 (by omega)
    · dsimp only
      rw [upd_word hj (by rw [h.ata]; exact hja)]; exact h.w0 j hj hja hjb
    · dsimp only
      rw [upd_word hj (by rw [h.ata]; exact hja)]; exact h.y0 j hj hja
  · rw [pick_done hd, pick_done (by rw [← h.same]; exact hd)]; exact h
theorem ApInv.one {s1 s2 : Sy} {a b : Int} (hab : a ≠ b) (h : ApInv s1 s2 a b) : ApInv (s1.pick 3 1) s2 a b := by
  cases hd : (s1.l 1).done
  · have e1 : s1.pick 3 1 = { l := upd s1.l 1 ((s1.l 1).next 3 (s1.f (s1.l 1).at'.toNat)), f := upd s1.f (s1.l 1).at'.toNat ((s1.l 1).word 3 (s1.f (s1.l 1).at'.toNat)) } := by
      unfold Sy.pick; rw [if_neg (by simp [hd])]
    rw [e1]
    refine ⟨?_, ?_, ?_, fun j hj hja => ?_, fun j hj hja hjb => ?_, h.y0⟩
    · dsimp only
      rw [upd_other (by decide)]; exact h.same
    · dsimp only
      rw [upd_other (by decide)]; exact h.ata
    · dsimp only
      rw [upd_same, next_at]; exact h.atb
    · dsimp only
      rw [upd_word hj (by rw [h.atb]; omega)]; exact h.wa j hj hja
    · dsimp only
      rw [upd_word hj (by rw [h.atb]; exact hjb)]; exact h.w0 j hj hja hjb
  · rw [pick_done hd]; exact h
/-- A pick of the first machine, followed by the second one's where it is of the common task. -/
def Sy.follow (s2 : Sy) (y : Int) : Sy := if y = 0 then s2.pick 3 0 else s2
theorem ApInv.pick {s1 s2 : Sy} {a b : Int} (hab : a ≠ b) (h : ApInv s1 s2 a b) (y : Int) : ApInv (s1.pickI 3 2 y) (s2.follow y) a b := by
  unfold Sy.pickI isT Sy.follow
  by_cases h0 : y = 0
  · subst h0; rw [if_pos rfl]; exact h.both
  · rw [if_neg h0]
    split
    · rename_i hh
      simp at hh
      have e : y.toNat = 1 := by omega
      rw [e]; exact h.one hab
    · exact h
theorem ApInv.err {s1 s2 : Sy} {a b : Int} (h : ApInv s1 s2 a b) : s1.err 2 0 = s2.err 1 0 := by
  have e1 : isT 2 0 = true := by decide
  have e2 : isT 1 0 = true := by decide
  unfold Sy.err
  rw [e1, e2]
  show (if (s1.l 0).done = true then (91 : Int) else 0) = if (s2.l 0).done = true then 91 else 0
  rw [h.same]
/-- The two machines at first. -/
theorem ap_two {w0 w w1 w2 w3 w4 w5 : World} {g1 b1 g2 b2 Ka Kb B1 B2 B3 : Nat} {ta tb : Tk} {e4 e5 : Ending} (hG : GOk w) (h6 : 6 ≤ w0.heap.size)
    (hM1 : MemAt w g1 b1 3 (fun _ => 0) 0) (hM2 : MemAt w g2 b2 3 (fun _ => 0) 0) (hB0 : Below w0.heap.size w0 w) (hg : w0.heap.size ≤ g1 ∧ w0.heap.size ≤ b1 ∧ w0.heap.size ≤ g2 ∧ w0.heap.size ≤ b2 ∧ g1 ≠ g2 ∧ g1 ≠ b2 ∧ b1 ≠ g2 ∧ b1 ≠ b2)
    (ka : ta.kind = Ka) (kb : tb.kind = Kb) (da : ta.done = false) (db : tb.done = false) (hT1 : TaskAt w1 B1 ta) (hb1 : w.heap.size ≤ B1) (hB1 : Below w.heap.size w w1) (hT2 : TaskAt w2 B2 tb) (hb2 : w1.heap.size ≤ B2) (hB2 : Below w1.heap.size w1 w2) (hT3 : TaskAt w3 B3 ta) (hb3 : w2.heap.size ≤ B3) (hB3 : Below w2.heap.size w2 w3)
    {wa wb : World} (hBa : Below w3.heap.size w3 wa) (hN1 : NewM g1 2 (fun i => [tv Ka B1, tv Kb B2].getD i .nilIface) wa e4 w4) (hBb : Below w4.heap.size w4 wb) (hN2 : NewM g2 1 (fun i => [tv Ka B3].getD i .nilIface) wb e5 w5) :
    ∃ m1 m2 : Mc, e4 = .returned (.pointer (some ⟨m1.X, 0, none⟩)) ∧ e5 = .returned (.pointer (some ⟨m2.X, 0, none⟩)) ∧ m1.g = g1 ∧ m2.g = g2 ∧ m1.b = b1 ∧ m2.b = b2 ∧ (m1.n = 3 ∧ m2.n = 3 ∧ m1.N = 2 ∧ m2.N = 1) ∧ Two w0 m1 m2 ⟨fun i => if i = 0 then ta else tb, fun _ => 0⟩ ⟨fun _ => ta, fun _ => 0⟩ 0 0 w5 := by
  have l1 := hT1.lt
  have l2 := hT2.lt
  have l3 := hT3.lt
  have s1 := hB1.size
  have s2 := hB2.size
  have s3 := hB3.size
  have sa := hBa.size
  have s0 := hB0.size
  have hg1 := hM1.ltg
  have hg2 := hM2.ltg
  have hr1 := hM1.row.lt
  have hr2 := hM2.row.lt
  have hw3 := hB1.trans ((hB2.mono s1).trans (hB3.mono (by omega)))
  have hwa := hw3.trans (hBa.mono (by omega))
  rw [ka] at l1 l3
  rw [kb] at l2
  have t2 : ∀ i, i < 2 → i = 0 ∨ i = 1 := fun i hi => by omega
  obtain ⟨m1, he1, q1, q2, q3, q4, q5, q7, q8, q9, q10, z1, z2, z3, hS1, hBn1⟩ := sys_new (K := fun i => if i = 0 then Ka else Kb) (B := fun i => if i = 0 then B1 else B2) (t := fun i => if i = 0 then ta else tb) (f := fun _ => 0) (c := 0) (hM1.keep hwa) (by omega) (by omega) (hG.keep hwa) (by omega)
    (fun i hi => by rcases t2 i hi with rfl | rfl <;> rfl)
    (fun i hi => by
      rcases t2 i hi with rfl | rfl
      · exact ((hT1.keep hB2).keep hB3).keep hBa
      · exact (hT2.keep hB3).keep hBa)
    (fun i hi => by
      rcases t2 i hi with rfl | rfl
      · exact ka
      · exact kb)
    (fun i hi => by
      rcases t2 i hi with rfl | rfl
      · exact da
      · exact db)
    (fun i hi => by
      rcases t2 i hi with rfl | rfl
      · show g1 < B1 ∧ b1 < B1; omega
      · show g1 < B2 ∧ b1 < B2; omega)
    (fun i j hi hj hij => by rcases t2 i hi with rfl | rfl <;> rcases t2 j hj with rfl | rfl <;> simp at hij ⊢ <;> omega) hN1
  have sn1 := hBn1.size
  have sb := hBb.size
  have hw4 := hwa.trans (hBn1.mono (by omega))
  have hwb := hw4.trans (hBb.mono (by omega))
  obtain ⟨m2, he2, p1, p2, p3, p4, p5, p7, p8, p9, p10, y1, y2, y3, hS2, hBn2⟩ := sys_new (K := fun _ => Ka) (B := fun _ => B3) (t := fun _ => ta) (f := fun _ => 0) (c := 0) (hM2.keep hwb) (by omega) (by omega) (hG.keep hwb) (by omega)
    (fun i hi => by obtain rfl : i = 0 := by omega
                    rfl)
    (fun _ _ => ((hT3.keep hBa).keep hBn1).keep hBb) (fun _ _ => ka) (fun _ _ => da) (fun _ _ => by omega) (fun i j hi hj hij => by omega) hN2
  have sn2 := hBn2.size
  have hw5 := hwb.trans (hBn2.mono (by omega))
  have o1 : ∀ k, m1.own k → k = g1 ∨ k = b1 ∨ (B1 ≤ k ∧ k < w2.heap.size) ∨ (wa.heap.size ≤ k ∧ k < w4.heap.size) := fun k hk => by
    rcases hk with e | e | e | e | e | ⟨i, hi, a1, a2⟩
    · omega
    · omega
    · omega
    · omega
    · omega
    · rw [q5] at a1 a2
      rw [q7] at a2
      rcases t2 i (by omega) with rfl | rfl
      · simp at a1 a2; omega
      · simp at a1 a2; omega
  have o2 : ∀ k, m2.own k → k = g2 ∨ k = b2 ∨ (B3 ≤ k ∧ k < w3.heap.size) ∨ wb.heap.size ≤ k := fun k hk => by
    rcases hk with e | e | e | e | e | ⟨i, hi, a1, a2⟩
    · omega
    · omega
    · omega
    · omega
    · omega
    · rw [p5] at a1 a2
      rw [p7] at a2
      simp at a1 a2
      omega
  refine ⟨m1, m2, he1, he2, q1, p1, q2, p2, ⟨q3, p3, q4, p4⟩, (hS1.keep hBb).keep hBn2, hS2, hB0.trans (hw5.mono s0), fun k hk => ?_, fun k hk => ?_, fun k hk hj => ?_⟩
  · have := o1 k hk; omega
  · have := o2 k hk; omega
  · have := o1 k hk
    have := o2 k hj
    omega
end Go.Proofs.YtdhanenbcjmfkaaDoor
