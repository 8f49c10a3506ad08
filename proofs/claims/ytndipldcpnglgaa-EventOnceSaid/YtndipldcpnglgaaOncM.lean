/-
  The law of once: the event and three rows in memory.
-/
import Derived.Test.YtndipldcpnglgaaOncP
import Derived.Test.YtndipldcpnglgaaOpenX
import Derived.Test.YtndipldcpnglgaaDueB
import Derived.Deep.CutBlock
namespace Go.Proofs.Ytndipldcpnglgaa
open Go.RowKit

/-- An event and three rows of the call's own, all apart. -/
structure On3 (H : Nat) (w0 w : World) (s g b : Nat) (v : Value) (X : Ev) (a : Value) (la : List Int) (c : Value) (lc : List Int) (d : Value) (ld : List Int) : Prop where
  eb : EB H w0 w s g b v X
  ra : Nums w a la
  rc : Nums w c lc
  rd : Nums w d ld
  fa : ∀ x, a.ownBlock = some x → H ≤ x ∧ ¬ SBlk s g b v x
  fc : ∀ x, c.ownBlock = some x → H ≤ x ∧ ¬ SBlk s g b v x
  fd : ∀ x, d.ownBlock = some x → H ≤ x ∧ ¬ SBlk s g b v x
  ac : ∀ x, a.ownBlock = some x → c.ownBlock ≠ some x
  ad : ∀ x, a.ownBlock = some x → d.ownBlock ≠ some x
  cd : ∀ x, c.ownBlock = some x → d.ownBlock ≠ some x
section
variable {H : Nat} {w0 w w' : World} {s g b : Nat} {v v' : Value} {X X' : Ev} {a c d a' c' d' : Value} {la lc ld la' lc' ld' : List Int}
theorem On3.rot (h : On3 H w0 w s g b v X a la c lc d ld) : On3 H w0 w s g b v X c lc d ld a la :=
  ⟨h.eb, h.rc, h.rd, h.ra, h.fc, h.fd, h.fa, h.cd, fun x e e' => h.ac x e' e, fun x e e' => h.ad x e' e⟩
theorem On3.keep (h : On3 H w0 w s g b v X a la c lc d ld) (hB : Below w.heap.size w w') : On3 H w0 w' s g b v X a la c lc d ld :=
  ⟨h.eb.keep hB, h.ra.keep hB, h.rc.keep hB, h.rd.keep hB, h.fa, h.fc, h.fd, h.ac, h.ad, h.cd⟩
theorem On3.swap (h : On3 H w0 w s g b v X a la c lc d ld) : On3 H w0 w s g b v X a la d ld c lc :=
  ⟨h.eb, h.ra, h.rd, h.rc, h.fa, h.fd, h.fc, h.ad, h.ac, fun x e e' => h.cd x e' e⟩
/-- The third row grows. -/
theorem On3.grow (h : On3 H w0 w s g b v X a la c lc d ld) (hN : Nums w' d' ld') (hC : Chg (fun x => d.ownBlock = some x) w w') (hO : ∀ x, d'.ownBlock = some x → d.ownBlock = some x ∨ w.heap.size ≤ x) : On3 H w0 w' s g b v X a la c lc d' ld' := by
  have hz := h.eb.sz
  have ha : ∀ x, a.ownBlock = some x → x < w.heap.size := fun x e => h.ra.lt e
  have hc : ∀ x, c.ownBlock = some x → x < w.heap.size := fun x e => h.rc.lt e
  refine ⟨⟨h.eb.sm.chg hC fun k hk e => (h.fd k e).2 hk, h.eb.blk, h.eb.bel.trans (hC.below (fun k e => (h.fd k e).1) hz), Nat.le_trans hz hC.size⟩, h.ra.chg hC fun x e e' => h.ad x e e', h.rc.chg hC fun x e e' => h.cd x e e', hN, h.fa, h.fc, fun x e => ?_, h.ac, fun x e e' => ?_, fun x e e' => ?_⟩
  · rcases hO x e with e' | e'
    · exact h.fd x e'
    · exact ⟨Nat.le_trans hz e', fun hk => by have := h.eb.sm.blk_lt hk; omega⟩
  · rcases hO x e' with e'' | e''
    · exact h.ad x e e''
    · have := ha x e; omega
  · rcases hO x e' with e'' | e''
    · exact h.cd x e e''
    · have := hc x e; omega
/-- A new third row. -/
theorem On3.lit (h : On3 H w0 w s g b v X a la c lc d ld) : On3 H w0 (w.alloc (.cells #[] 3)) s g b v X a la c lc (.slice (some ⟨w.heap.size, 0, none⟩) 0 0) [] := by
  have hN0 : Nums (w.alloc (.cells #[] 3)) (.slice (some ⟨w.heap.size, 0, none⟩) 0 0) [] := World.ownsRow_lit (base := 0) (size := 1) (e := 3) w #[] 0 (Nat.zero_le _) (by decide) rfl
  have hB : Below w.heap.size w (w.alloc (.cells #[] 3)) := (Below.refl _ _).alloc (Nat.le_refl _) _
  have hz := h.eb.sz
  refine ⟨h.eb.keep hB, h.ra.keep hB, h.rc.keep hB, hN0, h.fa, h.fc, fun x e => ?_, h.ac, fun x e e' => ?_, fun x e e' => ?_⟩
  · have e : some w.heap.size = some x := e
    injection e with e
    exact ⟨by omega, fun hk => by have := h.eb.sm.blk_lt hk; omega⟩
  · have e' : some w.heap.size = some x := e'
    injection e' with e'
    have := h.ra.lt e; omega
  · have e' : some w.heap.size = some x := e'
    injection e' with e'
    have := h.rc.lt e; omega
/-- The third row is forgotten. -/
theorem On3.nil (h : On3 H w0 w s g b v X a la c lc d ld) : On3 H w0 w s g b v X a la c lc (.slice none 0 0) [] :=
  ⟨h.eb, h.ra, h.rc, Nums.nil _, h.fa, h.fc, fun x e => (by cases e), h.ac, fun x e e' => (by cases e'), fun x e e' => (by cases e')⟩
/-- The event does a step. -/
theorem On3.step (h : On3 H w0 w s g b v X a la c lc d ld) (hP : EvP s g b v X' w w') : ∃ v', On3 H w0 w' s g b v' X' a la c lc d ld := by
  obtain ⟨v', h1, h2⟩ := h.eb.step hP
  have hs : ∀ {l : List Int} {z : Value}, Nums w z l → (∀ x, z.ownBlock = some x → H ≤ x ∧ ¬ SBlk s g b v x) → Nums w' z l ∧ ∀ x, z.ownBlock = some x → H ≤ x ∧ ¬ SBlk s g b v' x := fun hn hf =>
    ⟨hn.same fun x hx => (h2 x ⟨hn.lt hx, (hf x hx).2⟩).1, fun x hx => ⟨(hf x hx).1, (h2 x ⟨hn.lt hx, (hf x hx).2⟩).2.2⟩⟩
  obtain ⟨a1, a2⟩ := hs h.ra h.fa
  obtain ⟨c1, c2⟩ := hs h.rc h.fc
  obtain ⟨d1, d2⟩ := hs h.rd h.fd
  exact ⟨v', h1, a1, c1, d1, a2, c2, d2, h.ac, h.ad, h.cd⟩
/-- The event does a step and makes a row, which is the second one then. -/
theorem On3.made (h : On3 H w0 w s g b v X a la c lc d ld) (h1 : EvAt w' s g b v' X') (h2 : Chg (SBlk s g b v) w w') (h3 : Slid v v' w) (hN : Nums w' c' lc') (hf : ∀ x, c'.ownBlock = some x → w.heap.size ≤ x ∧ ¬ SBlk s g b v' x) : On3 H w0 w' s g b v' X' a la c' lc' (.slice none 0 0) [] := by
  have hz := h.eb.sz
  have hn : ∀ k, SFar w s g b v k → ¬ SBlk s g b v' k := fun k hk hb => by
    rcases hb with e | e | e | e
    · exact hk.2 (.inl e)
    · exact hk.2 (.inr (.inl e))
    · exact hk.2 (.inr (.inr (.inl e)))
    · rcases h3 with h3 | ⟨x, e1, e2⟩
      · exact hk.2 (.inr (.inr (.inr (by rw [← h3]; exact e))))
      · rw [e1] at e; injection e with e; have := hk.1; omega
  exact ⟨h.eb.step' h1 h2 h3, h.ra.chg h2 fun x e => (h.fa x e).2, hN, Nums.nil _, fun x e => ⟨(h.fa x e).1, hn x ⟨h.ra.lt e, (h.fa x e).2⟩⟩, fun x e => ⟨Nat.le_trans hz (hf x e).1, (hf x e).2⟩, fun x e => (by cases e), fun x e e' => (by have := h.ra.lt e; have := (hf x e').1; omega), fun x e e' => (by cases e'), fun x e e' => (by cases e')⟩
end
theorem EvAt.line1 {w w' : World} {s g b : Nat} {v v' : Value} {X : Ev} {S' : Ln} (h : EvAt w s g b v X) (h1 : LnAt w' g b v' S') (h2 : Chg (Blk g b v) w w') (h3 : Slid v v' w) : EvAt w' s g b v' ⟨S', X.up⟩ := by
  have hs : s < w.heap.size := h.lts
  refine ⟨h2.cell h.c0 h.ns, h2.cell h.c1 h.ns, h2.cell h.c2 h.ns, fun j => (h2.frozen (a := ⟨s, j, none⟩) hs h.ns).trans (h.fz j), h1, fun hb => ?_⟩
  rcases hb with e | e | e
  · exact h.ns (.inl e)
  · exact h.ns (.inr (.inl e))
  · rcases h3 with h3 | ⟨x, e1, e2⟩
    · exact h.ns (.inr (.inr (by rw [← h3]; exact e)))
    · rw [e1] at e; injection e with e; omega
theorem On3.new {H : Nat} {w0 w : World} {s g b : Nat} {v : Value} {X : Ev} (h : EB H w0 w s g b v X) : On3 H w0 w s g b v X (.slice none 0 0) [] (.slice none 0 0) [] (.slice none 0 0) [] :=
  ⟨h, Nums.nil _, Nums.nil _, Nums.nil _, fun x e => (by cases e), fun x e => (by cases e), fun x e => (by cases e), fun x e => (by cases e), fun x e => (by cases e), fun x e => (by cases e)⟩
end Go.Proofs.Ytndipldcpnglgaa
