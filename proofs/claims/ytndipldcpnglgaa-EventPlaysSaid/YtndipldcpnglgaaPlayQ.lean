/-
  The code's event beside the document's.
-/
import Derived.Test.YtndipldcpnglgaaDocS
import Derived.Test.YtndipldcpnglgaaDocX
import Derived.Test.YtndipldcpnglgaaEvQ
import Derived.Test.YtndipldcpnglgaaOpenX
import Derived.Deep.CutBlock
namespace Go.Proofs.Ytndipldcpnglgaa
open Go.RowKit

theorem Rel.bump {S : Ln} {L : List Wt} (h : Rel S L) : Rel S.bump L := ⟨h.perm, h.arr⟩
theorem Rel.clear (S : Ln) : Rel S.clear [] := ⟨List.Perm.refl _, List.Pairwise.nil⟩
/-- The code's event at s, the document's in the box at pb. -/
structure Pl (H : Nat) (w0 w : World) (s pb g b : Nat) (vq v : Value) (X : Ev) (L : List Wt) : Prop where
  sb : EB H w0 w s g b vq X
  bx : Box3 w pb v X.S.now X.up
  row : DR 0 w v (L.map toD)
  rel : Rel X.S L
  far : ¬ SBlk s g b vq pb ∧ H ≤ pb
  vf : ∀ x, v.ownBlock = some x → ¬ SBlk s g b vq x ∧ x ≠ pb
theorem EB.chg {H : Nat} {w0 w w' : World} {s g b pb : Nat} {v : Value} {X : Ev} (h : EB H w0 w s g b v X) (hC : Chg (fun k => k = pb) w w') (hp : ¬ SBlk s g b v pb) (hH : H ≤ pb) : EB H w0 w' s g b v X :=
  ⟨h.sm.chg hC fun k hk e => hp (e ▸ hk), h.blk, h.bel.trans (hC.below (fun k hk => by omega) h.sz), Nat.le_trans h.sz hC.size⟩
section
variable {H : Nat} {w0 w w1 w2 w4 : World} {s pb g b : Nat} {vq v v' : Value} {X X' : Ev} {L L' : List Wt}
theorem Pl.lt (h : Pl H w0 w s pb g b vq v X L) : pb < w.heap.size := cell_lt h.bx.c0
/-- Behind the document's call and the store of its answer. -/
theorem Pl.mid (h : Pl H w0 w s pb g b vq v X L) (hB : Below w.heap.size w w1) (hC : Chg (fun k => k = pb) w1 w2) : EB H w0 w2 s g b vq X := (h.sb.keep hB).chg hC h.far.1 h.far.2
/-- Behind both calls. -/
theorem Pl.step (h : Pl H w0 w s pb g b vq v X L) (hB : Below w.heap.size w w1) (hD : DR 0 w1 v' (L'.map toD)) (hS : Src v v' w.heap.size) (hC : Chg (fun k => k = pb) w1 w2) (hX : Box3 w2 pb v' X'.S.now X'.up) (hP : EvP s g b vq X' w2 w4) (hR : Rel X'.S L') :
    ∃ vq', Pl H w0 w4 s pb g b vq' v' X' L' := by
  have hsb := h.mid hB hC
  obtain ⟨vq', hsb', hf⟩ := hsb.step hP
  have hpb := h.lt
  have h1 := hB.size
  have h2 := hC.size
  have hpf := hf pb ⟨by omega, h.far.1⟩
  have hvx : ∀ x, v'.ownBlock = some x → ¬ SBlk s g b vq x ∧ x ≠ pb := fun x hx => by
    rcases hS x hx with e | e
    · exact h.vf x e
    · exact ⟨fun hk => by have := h.sb.sm.blk_lt hk; omega, by omega⟩
  have hD2 : DR 0 w2 v' (L'.map toD) := hD.same fun x hx => hC.block x (hD.lt hx) (hvx x hx).2
  refine ⟨vq', hsb', ?_, hD2.same fun x hx => (hf x ⟨hD2.lt hx, (hvx x hx).1⟩).1, hR, ⟨hpf.2.2, h.far.2⟩, fun x hx => ⟨(hf x ⟨hD2.lt hx, (hvx x hx).1⟩).2.2, (hvx x hx).2⟩⟩
  have e := hpf.1
  exact ⟨by rw [World.cell?_of_block (w := w2) e]; exact hX.c0, by rw [World.cell?_of_block (w := w2) e]; exact hX.c1, by rw [World.cell?_of_block (w := w2) e]; exact hX.c2, fun j => by rw [World.frozen?_of_block (w := w2) e]; exact hX.fz j⟩
theorem Pl.keep (h : Pl H w0 w s pb g b vq v X L) (hB : Below w.heap.size w w1) : Pl H w0 w1 s pb g b vq v X L :=
  ⟨h.sb.keep hB, h.bx.keep hB, h.row.keep hB, h.rel, h.far, h.vf⟩
end
theorem wait_alike {X : Ev} {L : List Wt} (h : Rel X.S L) (ok : Ok X.S) (id prio til : Int) :
    waitDE (L.map toD) X.S.now X.up id prio til = X.waitE id prio til ∧ (X.wait id prio til).up = X.up ∧ (X.wait id prio til).S.now = X.S.now ∧ ∃ L', waitDL (L.map toD) X.S.now X.up id prio til = L'.map toD ∧ Rel (X.wait id prio til).S L' := by
  unfold waitDE waitDL Ev.waitE Ev.wait
  rw [h.putE, h.putE]
  by_cases h1 : X.S.putE id prio (-1) ≠ 0
  · rw [if_pos h1, if_pos h1, if_pos h1, if_pos h1]
    exact ⟨rfl, rfl, rfl, L, rfl, h⟩
  · rw [if_neg h1, if_neg h1, if_neg h1, if_neg h1]
    by_cases h2 : X.up = true
    · rw [if_pos h2, if_pos h2, if_pos h2, if_pos h2]
      exact ⟨rfl, rfl, rfl, L, rfl, h.bump⟩
    · rw [if_neg h2, if_neg h2, if_neg h2, if_neg h2]
      by_cases h3 : til = 0
      · rw [if_pos h3, if_pos h3, if_pos h3, if_pos h3]
        exact ⟨rfl, rfl, rfl, L, rfl, h.bump⟩
      · rw [if_neg h3, if_neg h3, if_neg h3, if_neg h3]
        obtain ⟨L', e1, e2⟩ := h.bump.put (ok_bump ok) id prio til
        refine ⟨rfl, rfl, ?_, L', e1, e2⟩
        show (X.S.bump.put id prio til).now = X.S.now
        unfold Ln.put
        split <;> rfl
/-- Bounds behind k calls. -/
structure Bd (k : Nat) (X : Ev) : Prop where
  n : X.S.n ≤ 2 * k
  q : X.S.q.length ≤ 2 * k
theorem Bd.few {k : Nat} {X : Ev} (h : Bd k X) (hk : k ≤ 60) : Few X := by
  obtain ⟨hn, hq⟩ := h
  exact ⟨by omega, by omega⟩
theorem Bd.wait {k : Nat} {X : Ev} (h : Bd k X) (id prio til : Int) : Bd (k + 1) (X.wait id prio til) := by
  obtain ⟨hN, hL⟩ := h
  unfold Ev.wait
  split
  · exact ⟨by omega, by omega⟩
  · split
    · exact ⟨by show X.S.n + 1 ≤ _; omega, by show X.S.q.length ≤ _; omega⟩
    · split
      · exact ⟨by show X.S.n + 1 ≤ _; omega, by show X.S.q.length ≤ _; omega⟩
      · obtain ⟨l1, l2⟩ := put_len X.S.bump id prio til
        have l1 : (X.S.bump.put id prio til).q.length ≤ X.S.q.length + 1 := l1
        have l2 : (X.S.bump.put id prio til).n ≤ X.S.n + 1 + 1 := l2
        exact ⟨by show (X.S.bump.put id prio til).n ≤ _; omega, by show (X.S.bump.put id prio til).q.length ≤ _; omega⟩
theorem Bd.line {k : Nat} {X : Ev} (h : Bd k X) {S' : Ln} (u : Bool) (h1 : S'.q.length ≤ X.S.q.length) (h2 : S'.n = X.S.n) : Bd (k + 1) ⟨S', u⟩ := by
  obtain ⟨hn, hq⟩ := h
  exact ⟨by show S'.n ≤ _; omega, by show S'.q.length ≤ _; omega⟩
end Go.Proofs.Ytndipldcpnglgaa
