/-
  A line of the call's own; what the chapter's examples fix.
-/
import Derived.Test.YtagfhlnedaagbaaExpW
namespace Go.Proofs.Ytagfhlnedaagbaa
open Go.RowKit

/-- A line that was made behind H blocks, H's blocks as they were in w0. -/
structure LB (H : Nat) (w0 w : World) (g b : Nat) (v : Value) (S : Ln) : Prop where
  ln : LnAt w g b v S
  blk : ∀ k, Blk g b v k → H ≤ k
  bel : Below H w0 w
  sz : H ≤ w.heap.size
/-- Far from the line: an elder block that is none of its own. -/
def Far (w : World) (g b : Nat) (v : Value) (k : Nat) : Prop := k < w.heap.size ∧ ¬ Blk g b v k
theorem LB.step {H : Nat} {w0 w w' : World} {g b : Nat} {v : Value} {S S' : Ln} (h : LB H w0 w g b v S) (hP : LnP g b v S' w w') : ∃ v', LB H w0 w' g b v' S' ∧ ∀ k, Far w g b v k → w'.heap[k]? = w.heap[k]? ∧ Far w' g b v' k := by
  obtain ⟨v', h1, h2, h3⟩ := hP
  refine ⟨v', ⟨h1, fun k hk => ?_, h.bel.trans (h2.below h.blk h.sz), Nat.le_trans h.sz h2.size⟩, fun k hk => ⟨h2.block k hk.1 hk.2, Nat.lt_of_lt_of_le hk.1 h2.size, fun hb => ?_⟩⟩
  · rcases hk with e | e | e
    · exact h.blk k (.inl e)
    · exact h.blk k (.inr (.inl e))
    · rcases h3 with h3 | ⟨x, e1, e2⟩
      · exact h.blk k (.inr (.inr (by rw [← h3]; exact e)))
      · rw [e1] at e; injection e with e; have := h.sz; omega
  · rcases hb with e | e | e
    · exact hk.2 (.inl e)
    · exact hk.2 (.inr (.inl e))
    · rcases h3 with h3 | ⟨x, e1, e2⟩
      · exact hk.2 (.inr (.inr (by rw [← h3]; exact e)))
      · rw [e1] at e; injection e with e; have := hk.1; omega
theorem LB.keep {H : Nat} {w0 w w' : World} {g b : Nat} {v : Value} {S : Ln} (h : LB H w0 w g b v S) (hB : Below w.heap.size w w') : LB H w0 w' g b v S :=
  ⟨h.ln.keep hB, h.blk, h.bel.trans (hB.mono h.sz), Nat.le_trans h.sz hB.size⟩
theorem LB.new {w w' : World} {g b : Nat} (h : LnAt w' g b (.slice none 0 0) Ln.new) (hg : w.heap.size ≤ g) (hb : w.heap.size ≤ b) (hB : Below w.heap.size w w') : LB w.heap.size w w' g b (.slice none 0 0) Ln.new :=
  ⟨h, fun k hk => by
    rcases hk with e | e | e
    · omega
    · omega
    · exact absurd e (by simp [Value.ownBlock]), hB, hB.size⟩
theorem same_ln {g b : Nat} {v v' : Value} {S' : Ln} {w w' : World} (h1 : LnAt w' g b v' S') (h2 : Chg (Blk g b v) w w') (h3 : v'.ownBlock = v.ownBlock) : LnP g b v S' w w' := ⟨v', h1, h2, .inl h3⟩
theorem blk_own {g b k : Nat} {v v' : Value} (h : v'.ownBlock = v.ownBlock) : Blk g b v' k ↔ Blk g b v k := by unfold Blk; rw [h]
/-- The same, with the queue's slice told. -/
theorem LB.step' {H : Nat} {w0 w w' : World} {g b : Nat} {v v' : Value} {S S' : Ln} (h : LB H w0 w g b v S) (h1 : LnAt w' g b v' S') (h2 : Chg (Blk g b v) w w') (h3 : v'.ownBlock = v.ownBlock) : LB H w0 w' g b v' S' ∧ ∀ k, Far w g b v k → w'.heap[k]? = w.heap[k]? ∧ Far w' g b v' k :=
  ⟨⟨h1, fun k hk => h.blk k ((blk_own h3).1 hk), h.bel.trans (h2.below h.blk h.sz), Nat.le_trans h.sz h2.size⟩, fun k hk => ⟨h2.block k hk.1 hk.2, Nat.lt_of_lt_of_le hk.1 h2.size, fun hb => hk.2 ((blk_own h3).1 hb)⟩⟩
theorem Nums.far {w w' : World} {g b : Nat} {v v' d : Value} {l : List Int} (h : Nums w d l) (hf : ∀ k, Far w g b v k → w'.heap[k]? = w.heap[k]? ∧ Far w' g b v' k) (hd : ∀ x, d.ownBlock = some x → ¬ Blk g b v x) : Nums w' d l ∧ ∀ x, d.ownBlock = some x → ¬ Blk g b v' x :=
  ⟨h.same fun x hx => (hf x ⟨h.lt hx, hd x hx⟩).1, fun x hx => (hf x ⟨h.lt hx, hd x hx⟩).2.2⟩

def S1 : Ln := Ln.new.put 1 5 (-1)
def S2 : Ln := S1.put 2 9 20
def S3 : Ln := S2.put 3 5 10
def S4 : Ln := S3.put 4 9 10
def S5 : Ln := S4.expire 10
def S6 : Ln := S5.take
def S7 : Ln := S6.take
theorem f1 : Ln.new.putE 1 5 (-1) = 0 := by decide +kernel
theorem f2 : S1.putE 2 9 20 = 0 := by decide +kernel
theorem f3 : S2.putE 3 5 10 = 0 := by decide +kernel
theorem f4 : S3.putE 4 9 10 = 0 := by decide +kernel
theorem f5 : S4.nums = [2, 4, 1, 3] := by decide +kernel
theorem f6 : S4.putE 1 0 5 = 141 := by decide +kernel
theorem f7 : S4.expE 10 = 0 := by decide +kernel
theorem f8 : (S4.goneE 10).map (fun a => (a.id.val : Int)) = [4, 3] := by decide +kernel
theorem f9 : S5.putE 5 1 10 = 144 := by decide +kernel
theorem f10 : S5.first = 2 ∧ S5.any = true := by decide +kernel
theorem f11 : S6.first = 1 ∧ S6.any = true := by decide +kernel
theorem f12 : S7.first = 0 ∧ S7.any = false := by decide +kernel
theorem f13 : S7.take.now = 10 := by decide +kernel
theorem n1 : Ln.new.q.length ≤ 1000 ∧ Ln.new.n ≤ 1000 := by decide +kernel
theorem n2 : S1.q.length ≤ 1000 ∧ S1.n ≤ 1000 := by decide +kernel
theorem n3 : S2.q.length ≤ 1000 ∧ S2.n ≤ 1000 := by decide +kernel
theorem n4 : S3.q.length ≤ 1000 ∧ S3.n ≤ 1000 := by decide +kernel
theorem n5 : S4.q.length ≤ 1000 ∧ S4.n ≤ 1000 := by decide +kernel
theorem n6 : S5.q.length ≤ 1000 ∧ S5.n ≤ 1000 := by decide +kernel
theorem n7 : S6.q.length ≤ 1000 := by decide +kernel
theorem n8 : S7.q.length ≤ 1000 := by decide +kernel
theorem put_same {S : Ln} {id prio til E : Int} (h : S.putE id prio til = E) (h0 : E ≠ 0) : S.put id prio til = S := by unfold Ln.put; rw [h, if_neg h0]
end Go.Proofs.Ytagfhlnedaagbaa
