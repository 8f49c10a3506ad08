/-
  Apart, pure and in memory: what a call leaves of the other processes; states noted in three arrays.
-/
import Derived.Test.YtkbafiepnnldeaaTurnP
namespace Go.Proofs.Ytkbafiepnnldeaa
open Go.RowKit

theorem step_apart {T : Tb} {kk i pr : Int} {k : Nat} (h : ((k : Int) ≠ i ∧ kk ≠ 8) ∨ T.stepE kk i pr ≠ 0) : (T.step kk i pr).l.getD k Pr.nil = T.l.getD k Pr.nil := by
  unfold Tb.step
  by_cases h8 : kk = 8
  · rcases h with h | h
    · exact absurd h8 h.2
    · exact absurd (show T.stepE kk i pr = 0 by unfold Tb.stepE; rw [if_pos h8]) h
  · rw [if_neg h8]
    by_cases hE : T.stepE kk i pr = 0
    · rw [if_pos hE]
      rcases h with h | h
      · obtain ⟨hi, _, _⟩ := stepE_ok h8 hE
        have hi1 := hi.1
        show (T.l.set i.toNat _).getD k Pr.nil = _
        rw [List.getD_eq_getElem?_getD, List.getElem?_set, if_neg (by omega), ← List.getD_eq_getElem?_getD]
      · exact absurd hE h
    · rw [if_neg hE]
theorem step_refused {T : Tb} {kk i pr : Int} (h : T.stepE kk i pr ≠ 0) : T.step kk i pr = T := by
  unfold Tb.step
  have h8 : kk ≠ 8 := fun e => h (by unfold Tb.stepE; rw [if_pos e])
  rw [if_neg h8, if_neg h]
theorem step_reset {T : Tb} {i pr : Int} {k : Nat} (hk : k < T.first.length) : (T.step 8 i pr).l.getD k Pr.nil = ⟨0, false, ((T.first.getD k 0 : Nat) : Int)⟩ := by
  unfold Tb.step
  rw [if_pos rfl]
  show (T.first.map _).getD k Pr.nil = _
  rw [List.getD_eq_getElem?_getD, List.getElem?_map, List.getElem?_eq_getElem hk, List.getD_eq_getElem?_getD, List.getElem?_eq_getElem hk]
  rfl
/-- The states of the first k noted: three arrays, far from the table. -/
structure Rec (H : Nat) (w : World) (g bi ba : Nat) (v : Value) (s h p : Nat) (l : List Pr) (k : Nat) : Prop where
  rs : w.rowIs s 55 16 (fun i => if i < k then nV (l.getD i Pr.nil).st else nV 0)
  rh : w.rowIs h 53 16 (fun i => if i < k then .bool (l.getD i Pr.nil).held else .bool false)
  rp : w.rowIs p 56 16 (fun i => if i < k then nV (l.getD i Pr.nil).pr else nV 0)
  n1 : s ≠ h
  n2 : s ≠ p
  n3 : h ≠ p
  fs : Far w g bi ba v s
  fh : Far w g bi ba v h
  fp : Far w g bi ba v p
  hs : H ≤ s
  hh : H ≤ h
  hp : H ≤ p
section
variable {H : Nat} {w w' w0 : World} {g bi ba ci : Nat} {v v' : Value} {s h p : Nat} {l : List Pr} {k : Nat} {T T' : Tb}
theorem Rec.below (r : Rec H w g bi ba v s h p l k) (hB : Below w.heap.size w w') : Rec H w' g bi ba v s h p l k :=
  ⟨r.rs.of_block (hB.block _ r.fs.1), r.rh.of_block (hB.block _ r.fh.1), r.rp.of_block (hB.block _ r.fp.1), r.n1, r.n2, r.n3, r.fs.below hB, r.fh.below hB, r.fp.below hB, r.hs, r.hh, r.hp⟩
theorem Rec.far (r : Rec H w g bi ba v s h p l k) (hf : ∀ x, Far w g bi ba v x → w'.heap[x]? = w.heap[x]? ∧ Far w' g bi ba v' x) : Rec H w' g bi ba v' s h p l k :=
  ⟨r.rs.of_block (hf _ r.fs).1, r.rh.of_block (hf _ r.fh).1, r.rp.of_block (hf _ r.fp).1, r.n1, r.n2, r.n3, (hf _ r.fs).2, (hf _ r.fh).2, (hf _ r.fp).2, r.hs, r.hh, r.hp⟩
/-- One more noted. -/
def noted (w : World) (s h p k : Nat) (q : Pr) : World := ((w.setCell ⟨s, k, none⟩ (nV q.st)).setCell ⟨h, k, none⟩ (.bool q.held)).setCell ⟨p, k, none⟩ (nV q.pr)
theorem noted_chg (w : World) (s h p k : Nat) (q : Pr) : Chg (fun x => x = s ∨ x = h ∨ x = p) w (noted w s h p k q) :=
  Chg.set (S := fun x => x = s ∨ x = h ∨ x = p) (a := ⟨p, k, none⟩) (Chg.set (S := fun x => x = s ∨ x = h ∨ x = p) (a := ⟨h, k, none⟩) (Chg.set (S := fun x => x = s ∨ x = h ∨ x = p) (a := ⟨s, k, none⟩) (Chg.refl w) (.inl rfl) _) (.inr (.inl rfl)) _) (.inr (.inr rfl)) _
theorem Rec.more (r : Rec H w g bi ba v s h p l k) (ht : TB H w0 w g bi ba ci v T) {q : Pr} (hq : q = l.getD k Pr.nil) : TB H w0 (noted w s h p k q) g bi ba ci v T ∧ Rec H (noted w s h p k q) g bi ba v s h p l (k + 1) := by
  have hC := noted_chg w s h p k q
  have fr : ∀ x, Far w g bi ba v x → Far (noted w s h p k q) g bi ba v x := fun x hx => ⟨Nat.lt_of_lt_of_le hx.1 hC.size, hx.2⟩
  have e0 : ∀ {f f' : Nat → Value} {b t : Nat} {W : World}, W.rowIs b t 16 f' → (∀ i, i < 16 → f' i = f i) → W.rowIs b t 16 f := fun h e => rowIs_ext h e
  refine ⟨⟨ht.tb.chg hC fun x hx e => ?_, ht.ok, ht.blk, ht.bel.trans (hC.below (fun x hx => ?_) ht.sz), Nat.le_trans ht.sz hC.size⟩, ?_, ?_, ?_, r.n1, r.n2, r.n3, fr _ r.fs, fr _ r.fh, fr _ r.fp, r.hs, r.hh, r.hp⟩
  · rcases e with rfl | rfl | rfl
    · exact r.fs.2 hx
    · exact r.fh.2 hx
    · exact r.fp.2 hx
  · have h1 := r.hs
    have h2 := r.hh
    have h3 := r.hp
    omega
  · refine e0 (((r.rs.set k (nV q.st)).setOther (a := ⟨h, k, none⟩) r.n1 _).setOther (a := ⟨p, k, none⟩) r.n2 _) fun i _ => ?_
    by_cases e : i = k
    · rw [if_pos e, if_pos (by omega), e, hq]
    · rw [if_neg e]
      by_cases e2 : i < k
      · rw [if_pos e2, if_pos (by omega)]
      · rw [if_neg e2, if_neg (by omega)]
  · refine e0 ((((r.rh.setOther (a := ⟨s, k, none⟩) (fun e => r.n1 e.symm) (nV q.st))).set k (.bool q.held)).setOther (a := ⟨p, k, none⟩) r.n3 _) fun i _ => ?_
    by_cases e : i = k
    · rw [if_pos e, if_pos (by omega), e, hq]
    · rw [if_neg e]
      by_cases e2 : i < k
      · rw [if_pos e2, if_pos (by omega)]
      · rw [if_neg e2, if_neg (by omega)]
  · refine e0 (((r.rp.setOther (a := ⟨s, k, none⟩) (fun e => r.n2 e.symm) (nV q.st)).setOther (a := ⟨h, k, none⟩) (fun e => r.n3 e.symm) (.bool q.held)).set k (nV q.pr)) fun i _ => ?_
    by_cases e : i = k
    · rw [if_pos e, if_pos (by omega), e, hq]
    · rw [if_neg e]
      by_cases e2 : i < k
      · rw [if_pos e2, if_pos (by omega)]
      · rw [if_neg e2, if_neg (by omega)]
theorem Rec.get (r : Rec H w g bi ba v s h p l k) {i : Nat} (hi : i < k) (h16 : i < 16) : w.cell? ⟨s, i, none⟩ = some (nV (l.getD i Pr.nil).st) ∧ w.cell? ⟨h, i, none⟩ = some (.bool (l.getD i Pr.nil).held) ∧ w.cell? ⟨p, i, none⟩ = some (nV (l.getD i Pr.nil).pr) := by
  have a := r.rs.cell (i := i) h16
  have b := r.rh.cell (i := i) h16
  have c := r.rp.cell (i := i) h16
  rw [if_pos hi] at a b c
  exact ⟨a, b, c⟩
end
/-- Three new arrays. -/
theorem rec_new {H : Nat} {w0 w : World} {g bi ba ci : Nat} {v : Value} {T : Tb} (ht : TB H w0 w g bi ba ci v T) (l : List Pr) {W : World}
    (hW : W = ((w.alloc (.cells (Array.replicate 16 (nV 0)) 55)).alloc (.cells (Array.replicate 16 (.bool false)) 53)).alloc (.cells (Array.replicate 16 (nV 0)) 56)) :
    TB H w0 W g bi ba ci v T ∧ Rec H W g bi ba v w.heap.size (w.heap.size + 1) (w.heap.size + 2) l 0 := by
  have hb1 := (Below.refl w.heap.size w).alloc (Nat.le_refl _) (.cells (Array.replicate 16 (nV 0)) 55)
  have hb2 := hb1.alloc (by simp) (.cells (Array.replicate 16 (.bool false)) 53)
  have hb3 := hb2.alloc (by simp; omega) (.cells (Array.replicate 16 (nV 0)) 56)
  rw [← hW] at hb3
  have hsz : W.heap.size = w.heap.size + 3 := by rw [hW]; simp
  have hl : ∀ k, Blk g bi ba v k → k < w.heap.size := fun k hk => ht.tb.blk_lt hk
  have hs := ht.sz
  refine ⟨ht.keep hb3, ?_, ?_, ?_, by omega, by omega, by omega, ⟨by omega, fun c => by have := hl _ c; omega⟩, ⟨by omega, fun c => by have := hl _ c; omega⟩, ⟨by omega, fun c => by have := hl _ c; omega⟩, by omega, by omega, by omega⟩
  · refine ⟨Array.replicate 16 (nV 0), ?_, by simp, fun i hi => by simp [hi]⟩
    rw [hW, Below.heap_alloc _ _ _ (by simp; omega), Below.heap_alloc _ _ _ (by simp)]
    exact heap_alloc_new _ _
  · refine ⟨Array.replicate 16 (.bool false), ?_, by simp, fun i hi => by simp [hi]⟩
    rw [hW, Below.heap_alloc _ _ _ (by simp)]
    have : w.heap.size + 1 = (w.alloc (.cells (Array.replicate 16 (nV 0)) 55)).heap.size := by simp
    rw [this]
    exact heap_alloc_new _ _
  · refine ⟨Array.replicate 16 (nV 0), ?_, by simp, fun i hi => by simp [hi]⟩
    have : w.heap.size + 2 = ((w.alloc (.cells (Array.replicate 16 (nV 0)) 55)).alloc (.cells (Array.replicate 16 (.bool false)) 53)).heap.size := by simp
    rw [hW, this]
    exact heap_alloc_new _ _
/-- A store below all that is the table's own. -/
theorem TB.rebase {H : Nat} {w0 w w' : World} {g bi ba ci q : Nat} {v : Value} {T : Tb} (h : TB H w0 w g bi ba ci v T) (hC : Chg (fun k => k = q) w w') (hq : q < H) : TB H w' w' g bi ba ci v T :=
  ⟨h.tb.chg hC fun k hk e => by have := h.blk k hk; omega, h.ok, h.blk, Below.refl _ _, Nat.le_trans h.sz hC.size⟩
end Go.Proofs.Ytkbafiepnnldeaa
