/-
  Takers and the document's takers side by side: what a step of both keeps.
-/
import Derived.Test.YtcjhbmkpfclmfaaDoorPlaysA
namespace Go.Proofs.YtcjhbmkpfclmfaaDoor
open Go.RowKit

/-- The blocks that change. -/
def own2 (g b gb : Nat) (B : Nat → Nat) (n : Nat) (x : Nat) : Prop := x = g ∨ x = b ∨ x = gb ∨ ∃ j, j < n ∧ x = B j
/-- No block of S. -/
def Off (S : Nat → Prop) (A : Option Addr) : Prop := ∀ b o, A = some ⟨b, o, none⟩ → ¬ S b
theorem Off.anew {S : Nat → Prop} {A A' : Option Addr} {H : Nat} (h : Off S A) (hS : ∀ x, S x → x < H) (hA : Anew A H A') : Off S A' := fun b o e hs => by
  rcases hA with e' | ⟨G, e', hG⟩
  · exact h b o (e' ▸ e) hs
  · rw [e'] at e
    injection e with e
    injection e with e
    have := hS b hs
    omega
theorem Us.chgS {S : Nat → Prop} {w w' : World} {A : Option Addr} {n : Nat} {f : Nat → Int} (h : Us w A n f) (hC : Chg S w w') (hO : Off S A) : Us w' A n f := fun i hi => by
  obtain ⟨b, o, e, hc⟩ := h i hi
  exact ⟨b, o, e, hC.cell hc (hO b o e)⟩
/-- What stays: the blocks apart, the pointers. -/
structure Fix (g b ga gb : Nat) (B : Nat → Nat) (n : Nat) (w w6 : World) : Prop where
  lt : ∀ x, own2 g b gb B n x → x < w6.heap.size
  ge : ∀ x, own2 g b gb B n x → w.heap.size ≤ x
  six : 6 ≤ w.heap.size
  bel : Below w.heap.size w w6
  gan : ¬ own2 g b gb B n ga
  ptr : ∀ j, j < n → w6.cell? ⟨ga, j, none⟩ = some (pt (B j))
  gok : GOk w6
  d1 : g ≠ gb ∧ b ≠ gb
  d2 : ∀ j, j < n → B j ≠ g ∧ B j ≠ b ∧ B j ≠ gb
  sep : ∀ i j, i < n → j < n → i ≠ j → B i ≠ B j
/-- What changes. -/
structure Play2 (g b gb : Nat) (B : Nat → Nat) (n : Nat) (w6 : World) (sl : Nat → Tk) (f : Nat → Int) (r : Nat → RT) (fu : Nat → Int) (c : Int) (U : Option Addr) (w : World) : Prop where
  mem : MemAt w g b 4 f c
  tk : ∀ j, j < n → TakerAt w (B j) (sl j)
  own : OwnT w gb n r
  us : Us w U 4 fu
  off : Off (own2 g b gb B n) U
  ch : Chg (own2 g b gb B n) w6 w
section
variable {g b ga gb n : Nat} {B : Nat → Nat} {w0 w6 w w' : World} {sl : Nat → Tk} {f fu f' : Nat → Int} {r : Nat → RT} {c c' : Int} {U U' : Option Addr}
theorem Play2.keep (h : Play2 g b gb B n w6 sl f r fu c U w) (hB : Below w.heap.size w w') : Play2 g b gb B n w6 sl f r fu c U w' :=
  ⟨h.mem.keep hB, fun j hj => (h.tk j hj).keep hB, h.own.same (hB.block _ h.own.1) hB.size, h.us.keep hB, h.off, h.ch.trans (Chg.of_below hB)⟩
theorem Play2.words (h : Play2 g b gb B n w6 sl f r fu c U w) (hU : Us w U' 4 f') (hO : Off (own2 g b gb B n) U') : Play2 g b gb B n w6 sl f r f' c U' w := ⟨h.mem, h.tk, h.own, hU, hO, h.ch⟩
theorem Play2.store (h : Play2 g b gb B n w6 sl f r fu c U w) (F : Fix g b ga gb B n w0 w6) {i : Nat} (hi : i < n) (r' : RT) : Play2 g b gb B n w6 sl f (upd r i r') fu c U (w.setCells gb (i * 7) (rC r')) := by
  obtain ⟨h1, h2⟩ := h.own.store hi r'
  have hS : ∀ k, k = gb → own2 g b gb B n k := fun k e => .inr (.inr (.inl e))
  exact ⟨h2.mem h.mem F.d1.1 F.d1.2, fun j hj => (h.tk j hj).same (h2.block _ (h.tk j hj).lt (F.d2 j hj).2.2), h1, h.us.chgS h2 (fun b o e hs => h.off b o e (hS b hs)), h.off, h.ch.trans (h2.mono hS)⟩
theorem Play2.step (h : Play2 g b gb B n w6 sl f r fu c U w) (F : Fix g b ga gb B n w0 w6) {i : Nat} (hi : i < n) {t' : Tk} (hC : Chg (ST g b (B i)) w w') (hM : MemAt w' g b 4 f' c') (hT : TakerAt w' (B i) t') : Play2 g b gb B n w6 (upd sl i t') f' r fu c' U w' := by
  have hS : ∀ k, ST g b (B i) k → own2 g b gb B n k := fun k hk => by
    rcases hk with e | e | e
    · exact .inl e
    · exact .inr (.inl e)
    · exact .inr (.inr (.inr ⟨i, hi, e⟩))
  refine ⟨hM, fun j hj => ?_, h.own.same (hC.block _ h.own.1 ?_) hC.size, h.us.chgS (hC.mono hS) h.off, h.off, h.ch.trans (hC.mono hS)⟩
  · by_cases e : j = i
    · subst e; rw [upd_same]; exact hT
    · rw [upd_other e]
      refine (h.tk j hj).same (hC.block _ (h.tk j hj).lt ?_)
      have h1 := F.d2 j hj
      have h2 := F.sep j i hj hi e
      rintro (e1 | e1 | e1)
      · exact h1.1 e1
      · exact h1.2.1 e1
      · exact h2 e1
  · have h1 := F.d2 i hi
    rintro (e1 | e1 | e1)
    · exact F.d1.1 e1.symm
    · exact F.d1.2 e1.symm
    · exact h1.2.2 e1.symm
theorem Play2.gok (h : Play2 g b gb B n w6 sl f r fu c U w) (F : Fix g b ga gb B n w0 w6) : GOk w := h.ch.six (fun k hk => by have := F.ge k hk; have := F.six; omega) F.gok
theorem Play2.below (h : Play2 g b gb B n w6 sl f r fu c U w) (F : Fix g b ga gb B n w0 w6) : Below w0.heap.size w0 w := F.bel.trans (h.ch.below F.ge F.bel.size)
theorem Play2.ptr (h : Play2 g b gb B n w6 sl f r fu c U w) (F : Fix g b ga gb B n w0 w6) {j : Nat} (hj : j < n) : w.cell? ⟨ga, j, none⟩ = some (pt (B j)) := h.ch.cell (F.ptr j hj) F.gan
theorem Play2.lt (h : Play2 g b gb B n w6 sl f r fu c U w) (F : Fix g b ga gb B n w0 w6) : ∀ x, own2 g b gb B n x → x < w.heap.size := fun x hx => Nat.lt_of_lt_of_le (F.lt x hx) h.ch.size
end
/-- The loop over the picks. -/
def PlayRel2 (g b gb : Nat) (B : Nat → Nat) (n L : Nat) (w6 : World) (lw i : Value) (wr : World) : Prop :=
  ∃ (k : Nat) (sl : Nat → Tk) (f : Nat → Int) (r : Nat → RT) (c : Int) (U : Option Addr) (cU : Nat), (∀ i, i < 4 → 0 ≤ f i ∧ f i < 4294967296) ∧ k ≤ L ∧ k ≤ 120 ∧ i = .int .i64 k ∧ lw = .slice U 4 cU ∧ (2 ≤ c ∧ c ≤ 2 + k) ∧ (∀ j, j < n → RR (sl j) (r j)) ∧ Play2 g b gb B n w6 sl f r f c U wr
theorem rr_upd {n : Nat} {sl : Nat → Tk} {r : Nat → RT} {i : Nat} {t' : Tk} {r' : RT} (h : ∀ j, j < n → RR (sl j) (r j)) (hR : RR t' r') : ∀ j, j < n → RR (upd sl i t' j) (upd r i r' j) := fun j hj => by
  by_cases e : j = i
  · subst e; rw [upd_same, upd_same]; exact hR
  · rw [upd_other e, upd_other e]; exact h j hj
/-- The memory, and the world at the loops' beginning. -/
structure Base (w : World) (g b : Nat) (q0 q1 : Int) (W : World) : Prop where
  mem : MemAt W g b 4 (upd (upd (fun _ => 0) 0 q0) 1 q1) 2
  gok : GOk W
  bel : Below w.heap.size w W
  lo : w.heap.size ≤ g ∧ w.heap.size ≤ b ∧ 6 ≤ w.heap.size
theorem Base.keep {w W W' : World} {g b : Nat} {q0 q1 : Int} (h : Base w g b q0 q1 W) (hB : Below W.heap.size W W') : Base w g b q0 q1 W' := ⟨h.mem.keep hB, h.gok.keep hB, h.bel.trans (hB.mono h.bel.size), h.lo⟩
theorem fix_of {w w5 w6 : World} {g b n ga ca gb cb : Nat} {B : Nat → Nat} {t : Nat → Tk} {r : Nat → RT} {q0 q1 : Int} (hB : Base w g b q0 q1 w5) (hP : Play1 w5 n ga ca gb cb B t r w6) : Fix g b ga gb B n w w6 := by
  have h1 := hB.lo
  have h2 := hB.bel.size
  have h3 := hP.lo
  have h4 := hP.lt
  have h5 := hP.bel.size
  have h6 := hP.ne
  have h7 := hB.mem.ltg
  have h8 := hB.mem.row.lt
  refine ⟨fun x hx => ?_, fun x hx => ?_, h1.2.2, hB.bel.trans (hP.bel.mono h2), fun hx => ?_, fun j hj => ?_, hB.gok.keep hP.bel, by omega, fun j hj => ?_, hP.sep⟩
  · rcases hx with e | e | e | ⟨j, hj, e⟩
    · omega
    · omega
    · omega
    · have := (hP.tk j hj).lt; omega
  · rcases hx with e | e | e | ⟨j, hj, e⟩
    · omega
    · omega
    · omega
    · have := hP.dif j hj; omega
  · rcases hx with e | e | e | ⟨j, hj, e⟩
    · omega
    · omega
    · omega
    · have := hP.dif j hj; omega
  · rw [World.ownsRow.cellAt hP.ra j (by omega), List.getElem?_map, List.getElem?_range hj]; rfl
  · have := hP.dif j hj
    omega
end Go.Proofs.YtcjhbmkpfclmfaaDoor
