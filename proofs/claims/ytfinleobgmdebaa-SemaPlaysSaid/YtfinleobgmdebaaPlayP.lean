/-
  The code's semaphore beside the document's.
-/
import Derived.Test.YtfinleobgmdebaaDocS
import Derived.Test.YtfinleobgmdebaaDocV
import Derived.Test.YtfinleobgmdebaaWalkSums
namespace Go.Proofs.Ytfinleobgmdebaa
open Go.RowKit

theorem Rel.bump {S : Ln} {L : List Wt} (h : Rel S L) : Rel S.bump L := ⟨h.perm, h.arr⟩
/-- Bounds behind k calls. -/
structure Bd (k : Nat) (X : Sm) : Prop where
  n : X.S.n ≤ 2 * k
  q : X.S.q.length ≤ 2 * k
  c : X.c ≤ X.m
  m : X.m ≤ 255
/-- The code's semaphore at s, the document's in the box at pb. -/
structure Pl (H : Nat) (w0 w : World) (s pb g b : Nat) (vq v : Value) (X : Sm) (L : List Wt) : Prop where
  sb : SB H w0 w s g b vq X
  bx : Box4 w pb v X.S.now X.c X.m
  row : DR 0 w v (L.map toD)
  rel : Rel X.S L
  far : ¬ SBlk s g b vq pb ∧ H ≤ pb
  vf : ∀ x, v.ownBlock = some x → ¬ SBlk s g b vq x ∧ x ≠ pb
theorem SB.chg {H : Nat} {w0 w w' : World} {s g b pb : Nat} {v : Value} {X : Sm} (h : SB H w0 w s g b v X) (hC : Chg (fun k => k = pb) w w') (hp : ¬ SBlk s g b v pb) (hH : H ≤ pb) : SB H w0 w' s g b v X :=
  ⟨h.sm.chg hC fun k hk e => hp (e ▸ hk), h.blk, h.bel.trans (hC.below (fun k hk => by omega) h.sz), Nat.le_trans h.sz hC.size⟩
section
variable {H : Nat} {w0 w w1 w2 w4 : World} {s pb g b : Nat} {vq v v' : Value} {X X' : Sm} {L L' : List Wt}
theorem Pl.lt (h : Pl H w0 w s pb g b vq v X L) : pb < w.heap.size := cell_lt h.bx.c0
/-- Behind the document's call and the store of its answer. -/
theorem Pl.mid (h : Pl H w0 w s pb g b vq v X L) (hB : Below w.heap.size w w1) (hC : Chg (fun k => k = pb) w1 w2) : SB H w0 w2 s g b vq X := (h.sb.keep hB).chg hC h.far.1 h.far.2
/-- Behind both calls. -/
theorem Pl.step (h : Pl H w0 w s pb g b vq v X L) (hB : Below w.heap.size w w1) (hD : DR 0 w1 v' (L'.map toD)) (hS : Src v v' w.heap.size) (hC : Chg (fun k => k = pb) w1 w2) (hX : Box4 w2 pb v' X'.S.now X'.c X'.m) (hP : SmP s g b vq X' w2 w4) (hR : Rel X'.S L') :
    ∃ vq', Pl H w0 w4 s pb g b vq' v' X' L' := by
  have hsb := h.mid hB hC
  obtain ⟨vq', hsb', hf⟩ := hsb.step hP
  have hpb := h.lt
  have h1 := hB.size
  have h2 := hC.size
  have hpf := hf pb ⟨by omega, h.far.1⟩
  have hvx : ∀ x, v'.ownBlock = some x → ¬ SBlk s g b vq x ∧ x ≠ pb := fun x hx => by
    rcases hS x hx with e | e
    · exact h.vf x e
    · exact ⟨fun hk => by have := h.sb.sm.blk_lt hk; omega, by omega⟩
  have hD2 : DR 0 w2 v' (L'.map toD) := hD.same fun x hx => hC.block x (hD.lt hx) (hvx x hx).2
  refine ⟨vq', hsb', ?_, hD2.same fun x hx => (hf x ⟨hD2.lt hx, (hvx x hx).1⟩).1, hR, ⟨hpf.2.2, h.far.2⟩, fun x hx => ⟨(hf x ⟨hD2.lt hx, (hvx x hx).1⟩).2.2, (hvx x hx).2⟩⟩
  have e := hpf.1
  exact ⟨by rw [World.cell?_of_block (w := w2) e]; exact hX.c0, by rw [World.cell?_of_block (w := w2) e]; exact hX.c1, by rw [World.cell?_of_block (w := w2) e]; exact hX.c2, by rw [World.cell?_of_block (w := w2) e]; exact hX.c3, fun j => by rw [World.frozen?_of_block (w := w2) e]; exact hX.fz j⟩
theorem Pl.keep (h : Pl H w0 w s pb g b vq v X L) (hB : Below w.heap.size w w1) : Pl H w0 w1 s pb g b vq v X L :=
  ⟨h.sb.keep hB, h.bx.keep hB, h.row.keep hB, h.rel, h.far, h.vf⟩
end
/-! ### alike -/
theorem putE_bump (S : Ln) (id prio til : Int) : S.bump.putE id prio til = S.putE id prio til := rfl
theorem wait_alike {X : Sm} {L : List Wt} (h : Rel X.S L) (ok : Ok X.S) (id prio til : Int) :
    waitDE (L.map toD) X.S.now X.c id prio til = X.waitE id prio til ∧ waitDC (L.map toD) X.S.now X.c id prio = (X.wait id prio til).c ∧ (X.wait id prio til).m = X.m ∧ (X.wait id prio til).S.now = X.S.now ∧ ∃ L', waitDL (L.map toD) X.S.now X.c id prio til = L'.map toD ∧ Rel (X.wait id prio til).S L' := by
  unfold waitDE waitDC waitDL Sm.waitE Sm.wait
  rw [h.putE, h.putE]
  by_cases h1 : X.S.putE id prio (-1) ≠ 0
  · rw [if_pos h1, if_pos h1, if_pos h1, if_pos h1, if_pos h1]
    exact ⟨rfl, rfl, rfl, rfl, L, rfl, h⟩
  · rw [if_neg h1, if_neg h1, if_neg h1, if_neg h1, if_neg h1]
    by_cases h2 : 0 < X.c
    · rw [if_pos h2, if_pos h2, if_pos h2, if_pos h2]
      exact ⟨rfl, rfl, rfl, rfl, L, rfl, h.bump⟩
    · rw [if_neg h2, if_neg h2, if_neg h2, if_neg h2]
      by_cases h3 : til = 0
      · rw [if_pos h3, if_pos h3, if_pos h3, if_pos h3]
        exact ⟨rfl, by show X.c - 1 = X.c; omega, rfl, rfl, L, rfl, h.bump⟩
      · rw [if_neg h3, if_neg h3, if_neg h3, if_neg h3]
        obtain ⟨L', e1, e2⟩ := h.bump.put (ok_bump ok) id prio til
        refine ⟨rfl, by show X.c - 1 = X.c; omega, rfl, ?_, L', e1, e2⟩
        show (X.S.bump.put id prio til).now = X.S.now
        unfold Ln.put
        split <;> rfl
theorem sig_alike {X : Sm} {L : List Wt} (h : Rel X.S L) (ok : Ok X.S) (hc : X.c ≤ X.m) {l' : List DW} {id E : Int} {b : Bool} {c' : Nat} (hT : TakeR (L.map toD) id b l') (h1 : b = true → c' = X.c ∧ E = 0) (h2 : b = false → (X.c = X.m → c' = X.c ∧ E = 151) ∧ (X.c < X.m → c' = X.c + 1 ∧ E = 0)) :
    (id, b, E) = X.sigE ∧ c' = X.sig.c ∧ X.sig.m = X.m ∧ X.sig.S.now = X.S.now ∧ ∃ L', l' = L'.map toD ∧ Rel X.sig.S L' := by
  obtain ⟨e1, e2, L', e3, e4⟩ := h.take ok hT
  unfold Sm.sigE Sm.sig
  have hnow : X.S.take.now = X.S.now := by unfold Ln.take; split <;> rfl
  by_cases ha : X.S.any = true
  · rw [if_pos ha, if_pos ha]
    have hb : b = true := by rw [e2]; exact ha
    obtain ⟨f1, f2⟩ := h1 hb
    exact ⟨by rw [e1, hb, f2], f1, rfl, hnow, L', e3, e4⟩
  · rw [if_neg ha, if_neg ha]
    have hb : b = false := by rw [e2]; simpa using ha
    obtain ⟨g1, g2⟩ := h2 hb
    have htk : X.S.take = X.S := take_none (by simpa using ha)
    have hid : id = 0 := by rw [hb] at hT; exact hT.none.2
    rw [htk] at e4
    by_cases hcm : X.c = X.m
    · rw [if_pos hcm, if_pos hcm]
      obtain ⟨f1, f2⟩ := g1 hcm
      exact ⟨by rw [hid, hb, f2], f1, rfl, rfl, L', e3, e4⟩
    · rw [if_neg hcm, if_neg hcm]
      obtain ⟨f1, f2⟩ := g2 (by omega)
      exact ⟨by rw [hid, hb, f2], f1, rfl, rfl, L', e3, e4⟩
theorem Bd.wait {k : Nat} {X : Sm} (h : Bd k X) (id prio til : Int) : Bd (k + 1) (X.wait id prio til) := by
  obtain ⟨hn, hq, hc, hm⟩ := h
  unfold Sm.wait
  split
  · exact ⟨by omega, by omega, hc, hm⟩
  · split
    · exact ⟨by show X.S.n + 1 ≤ _; omega, by show X.S.q.length ≤ _; omega, by show X.c - 1 ≤ X.m; omega, hm⟩
    · split
      · exact ⟨by show X.S.n + 1 ≤ _; omega, by show X.S.q.length ≤ _; omega, hc, hm⟩
      · obtain ⟨l1, l2⟩ := put_len X.S.bump id prio til
        have l1 : (X.S.bump.put id prio til).q.length ≤ X.S.q.length + 1 := l1
        have l2 : (X.S.bump.put id prio til).n ≤ X.S.n + 1 + 1 := l2
        exact ⟨by show (X.S.bump.put id prio til).n ≤ _; omega, by show (X.S.bump.put id prio til).q.length ≤ _; omega, hc, hm⟩
theorem Bd.sig {k : Nat} {X : Sm} (h : Bd k X) : Bd (k + 1) X.sig := by
  obtain ⟨hn, hq, hc, hm⟩ := h
  unfold Sm.sig
  split
  · have := take_len X.S
    exact ⟨by show X.S.take.n ≤ _; omega, by show X.S.take.q.length ≤ _; omega, hc, hm⟩
  · split
    · exact ⟨by omega, by omega, hc, hm⟩
    · exact ⟨by show X.S.n ≤ _; omega, by show X.S.q.length ≤ _; omega, by show X.c + 1 ≤ X.m; omega, hm⟩
theorem Bd.line {k : Nat} {X : Sm} (h : Bd k X) {S' : Ln} (h1 : S'.q.length ≤ X.S.q.length) (h2 : S'.n = X.S.n) : Bd (k + 1) ⟨S', X.c, X.m⟩ := by
  obtain ⟨hn, hq, hc, hm⟩ := h
  exact ⟨by show S'.n ≤ _; omega, by show S'.q.length ≤ _; omega, hc, hm⟩
theorem Bd.few {k : Nat} {X : Sm} (h : Bd k X) (hk : k ≤ 60) : Few X := by
  obtain ⟨hn, hq, hc, hm⟩ := h
  exact ⟨by omega, by omega, by omega⟩
end Go.Proofs.Ytfinleobgmdebaa
