/-
  What changes of a copy leave as it was: no walk.
-/
import Derived.Test.YtkgkjkghdllkhaaDoorCopyW
import Derived.Test.YtkgkjkghdllkhaaDoorSameE
namespace Go.Proofs.YtkgkjkghdllkhaaDoor
open Go.RowKit

/-- Numbers in the blocks from lo to hi may have changed; all else is as it was. -/
structure Soft (lo hi : Nat) (w w' : World) : Prop where
  below : Below lo w w'
  up : ∀ b, hi ≤ b → w'.heap[b]? = w.heap[b]?
  cell : ∀ b o v, w.cell? ⟨b, o, none⟩ = some v → w'.cell? ⟨b, o, none⟩ = some v ∨ ∃ k z z', v = .int k z ∧ w'.cell? ⟨b, o, none⟩ = some (.int k z')
  froz : ∀ b o, w'.frozen? ⟨b, o, none⟩ = w.frozen? ⟨b, o, none⟩
theorem Soft.refl (lo hi : Nat) (w : World) : Soft lo hi w w := ⟨Below.refl _ _, fun _ _ => rfl, fun _ _ _ h => .inl h, fun _ _ => rfl⟩
theorem Soft.sl {lo hi : Nat} {w w' : World} (h : Soft lo hi w w') {b o : Nat} {A : Option Addr} {n c : Nat} (hc : w.cell? ⟨b, o, none⟩ = some (.slice A n c)) : w'.cell? ⟨b, o, none⟩ = some (.slice A n c) := by
  rcases h.cell b o _ hc with h1 | ⟨k, z, z', e, _⟩
  · exact h1
  · cases e
theorem Soft.num {lo hi : Nat} {w w' : World} (h : Soft lo hi w w') {b o : Nat} {k : IntKind} {z : Int} (hc : w.cell? ⟨b, o, none⟩ = some (.int k z)) : ∃ z', w'.cell? ⟨b, o, none⟩ = some (.int k z') := by
  rcases h.cell b o _ hc with h1 | ⟨k', z1, z', e, h2⟩
  · exact ⟨z, h1⟩
  · cases e
    exact ⟨z', h2⟩
theorem Soft.set {lo hi : Nat} {w w' : World} (h : Soft lo hi w w') {b o : Nat} {k : IntKind} {z : Int} (hc : w'.cell? ⟨b, o, none⟩ = some (.int k z)) (hb : lo ≤ b) (hh : b < hi) (x : Int) : Soft lo hi w (w'.setCell ⟨b, o, none⟩ (.int k x)) := by
  refine ⟨?_, fun c hc' => ?_, fun c j v hv => ?_, fun c j => ?_⟩
  · exact h.below.setCell (p := ⟨b, o, none⟩) hb _
  · rw [Below.heap_setCell _ _ _ _ (show c ≠ b by omega)]
    exact h.up c hc'
  · by_cases e : (⟨b, o, none⟩ : Addr) = ⟨c, j, none⟩
    · rw [← e, World.cell?_setCell_same _ _ _ hc]
      injection e with e1 e2
      subst e1 e2
      rcases h.cell b o v hv with h1 | ⟨k', z1, z', e, h2⟩
      · rw [hc] at h1
        cases h1
        exact .inr ⟨k, z, x, rfl, rfl⟩
      · rw [hc] at h2
        cases h2
        exact .inr ⟨k, z1, x, e, rfl⟩
    · rw [World.cell?_setCell_other _ _ _ _ e]
      exact h.cell c j v hv
  · rw [World.frozen?_setCell]
    exact h.froz c j

/-- A block of a copy: from lo to hi, not frozen. -/
def In (lo hi : Nat) (w : World) (A : Option Addr) : Prop := ∀ b o, A = some ⟨b, o, none⟩ → lo ≤ b ∧ b < hi ∧ ∀ j, w.frozen? ⟨b, j, none⟩ = false
/-- A copy, and what of it may be changed. -/
structure Cpy (lo hi : Nat) (P : PlanA) (K : PlanL) (w : World) : Prop where
  cores : ∃ S : Nat → Option Addr × Nat, Arr w K.a1 1 P.2.1.length (fun i => [slV (S i) (P.2.1.getD i []).length]) ∧ ∀ i, i < P.2.1.length → WinsAt w (S i).1 (P.2.1.getD i []) ∧ In lo hi w (S i).1
  parts : ∃ S R : Nat → Option Addr × Nat, Arr w K.a2 6 P.2.2.1.length (fun i => partV (P.2.2.1.getD i dQ) (S i) (R i)) ∧ ∀ i, i < P.2.2.1.length → (SemsAt w (S i).1 (P.2.2.1.getD i dQ).1 ∧ BytesAt w (R i).1 (P.2.2.1.getD i dQ).2.2.1) ∧ In lo hi w (S i).1 ∧ In lo hi w (R i).1
  in2 : In lo hi w K.a2
  chans : ChansAt w K.a3 P.2.2.2.1
  in3 : In lo hi w K.a3
  pairs : SemsAt w K.a4 P.2.2.2.2
  in4 : In lo hi w K.a4
theorem cpy_of {lo : Nat} {P : PlanA} {K : PlanL} {w1 w : World} (h : cp.CpAt lo P K w1) (e : ∀ b, lo ≤ b → b < w1.heap.size → w.heap[b]? = w1.heap[b]?) : Cpy lo w1.heap.size P K w := by
  have hin : ∀ {A : Option Addr}, cp.Loose lo w1 A → In lo w1.heap.size w A := fun hA b o ha => by
    obtain ⟨h1, h2, h3⟩ := hA b o ha
    exact ⟨h1, h2, fun j => by rw [cp.frozen_block (e b h1 h2)]; exact h3 j⟩
  have move : ∀ {A : Option Addr} {C n : Nat} {F : Nat → List Value}, Arr w1 A C n F → cp.Loose lo w1 A → Arr w A C n F := fun hA hl i hi => by
    obtain ⟨b, o, ea, hc⟩ := hA i hi
    have hb := hl b o ea
    exact ⟨b, o, ea, fun j u hu => by rw [World.cell?_of_block (a := ⟨b, _, none⟩) (e b hb.1 hb.2.1)]; exact hc j u hu⟩
  obtain ⟨⟨S, c1, c2⟩, ⟨S2, R, p1, p2⟩, l2, s4, l4, l1⟩ := h.rest w1 fun _ _ _ _ => rfl
  have l3 : cp.Loose lo w1 K.a3 := cp.own_loose h.own
  refine ⟨⟨S, move c1 l1, fun i hi => ⟨move (c2 i hi).1 (c2 i hi).2, hin (c2 i hi).2⟩⟩, ⟨S2, R, move p1 l2, fun i hi => ?_⟩, hin l2, move h.at'.chans l3, hin l3, move s4 l4, hin l4⟩
  obtain ⟨⟨a, b, _⟩, c, d⟩ := p2 i hi
  exact ⟨⟨move a c, move b d⟩, hin c, hin d⟩
theorem cp_at {lo : Nat} {P : PlanA} {K : PlanL} {w1 w : World} (h : cp.CpAt lo P K w1) (e : ∀ b, lo ≤ b → b < w1.heap.size → w.heap[b]? = w1.heap[b]?) : PlanAt w P K := by
  obtain ⟨c, p, _, s4, _, _⟩ := h.rest w fun b h1 h2 _ => e b h1 h2
  refine ⟨c.at', p.at', ?_, s4⟩
  exact cp.arr_flat (f := chanV) (d := dC) (cp.own_keep h.own fun g hg => e g (World.ownsRow.lt h.own g hg).1 (World.ownsRow.lt h.own g hg).2) (fun _ => rfl)
theorem below_alloc {a w : World} (h : Below a.heap.size a w) (o : Obj) : Below a.heap.size a (w.alloc o) := h.alloc h.size _
/-- A copy in a later world. -/
def CpIn (lo hi : Nat) (P : PlanA) (K : PlanL) (W : World) : Prop := ∃ wa, cp.CpAt lo P K wa ∧ hi = wa.heap.size ∧ hi ≤ W.heap.size ∧ ∀ b, lo ≤ b → b < hi → W.heap[b]? = wa.heap[b]?
theorem CpIn.new {lo : Nat} {P : PlanA} {K : PlanL} {W : World} (h : cp.CpAt lo P K W) : CpIn lo W.heap.size P K W := ⟨W, h, rfl, Nat.le_refl _, fun _ _ _ => rfl⟩
theorem CpIn.keep {lo hi : Nat} {P : PlanA} {K : PlanL} {W W' : World} (h : CpIn lo hi P K W) (hB : Below W.heap.size W W') : CpIn lo hi P K W' := by
  obtain ⟨wa, h1, h2, h3, h4⟩ := h
  have := hB.size
  exact ⟨wa, h1, h2, by omega, fun b hb hh => (hB.block b (by omega)).trans (h4 b hb hh)⟩
theorem CpIn.only {lo hi g : Nat} {P : PlanA} {K : PlanL} {W W' : World} (h : CpIn lo hi P K W) (hO : cp.Only g W.heap.size W W') (hg : ¬ (lo ≤ g ∧ g < hi)) : CpIn lo hi P K W' := by
  obtain ⟨wa, h1, h2, h3, h4⟩ := h
  have := hO.size
  exact ⟨wa, h1, h2, by omega, fun b hb hh => (hO.block b (by omega) (by omega)).trans (h4 b hb hh)⟩
/-- The box of a plan that is made, as it is before its store. -/
def ZB (W : World) (b : Nat) : Prop := cp.QBox W b 0 (.slice none 0 0) (.slice none 0 0) (.slice none 0 0) (.slice none 0 0)
def KB (W : World) (b : Nat) (P : PlanA) (K : PlanL) : Prop := cp.QBox W b P.1 (.slice K.a1 P.2.1.length K.c1) (.slice K.a2 P.2.2.1.length K.c2) (.slice K.a3 P.2.2.2.1.length K.c3) (.slice K.a4 P.2.2.2.2.length K.c4)
theorem QBox.only {w w' : World} {b g : Nat} {fr : Int} {v1 v2 v3 v4 : Value} (h : cp.QBox w b fr v1 v2 v3 v4) (hO : cp.Only g w.heap.size w w') (hn : b ≠ g) : cp.QBox w' b fr v1 v2 v3 v4 := (hO.block b h.lt hn).trans h
def chainV (W : World) (b : Nat) (P : PlanA) (K : PlanL) : World :=
  ((((W.setCell ⟨b, 0, none⟩ (.int .u16 P.1)).setCell ⟨b, 1, none⟩ (.slice K.a1 P.2.1.length K.c1)).setCell ⟨b, 2, none⟩ (.slice K.a2 P.2.2.1.length K.c2)).setCell ⟨b, 3, none⟩ (.slice K.a3 P.2.2.2.1.length K.c3)).setCell ⟨b, 4, none⟩ (.slice K.a4 P.2.2.2.2.length K.c4)
theorem chain_kb {W : World} {b : Nat} {P : PlanA} {K : PlanL} (h : ZB W b) : KB (chainV W b P K) b P K := cp.QBox.set5 h _ _ _ _ _
theorem chain_only (W : World) (b : Nat) (P : PlanA) (K : PlanL) : cp.Only b W.heap.size W (chainV W b P K) := cp.only5 _ _ _ _ _ _ _
theorem only_below2 {a W W' : World} {g : Nat} (h : Below a.heap.size a W) (hO : cp.Only g W.heap.size W W') (hg : a.heap.size ≤ g) : Below a.heap.size a W' := h.trans (hO.below h.size hg)
/-- Behind the copies. -/
def OwnR (P : PlanA) (L : PlanL) (w : World) (x y : Value) (W : World) : Prop :=
  ∃ bA bB lo hi K K2, x = .pointer (some ⟨bA, 0, none⟩) ∧ y = .pointer (some ⟨bB, 0, none⟩) ∧ Below w.heap.size w W ∧ PB W w.heap.size P L ∧ w.heap.size < lo ∧
    PB W bA P K ∧ ¬ (lo ≤ bA ∧ bA < hi) ∧ Cpy lo hi P K W ∧ PB W bB P K2 ∧ ¬ (lo ≤ bB ∧ bB < hi) ∧ (∀ W', (∀ b, ¬ (lo ≤ b ∧ b < hi) → W'.heap[b]? = W.heap[b]?) → PlanAt W' P K2)
theorem own_fin {P : PlanA} {L : PlanL} {w W : World} {b3 b4 lo hi lo2 hi2 : Nat} {K K2 : PlanL} (hB : Below w.heap.size w W) (hpb : PB W w.heap.size P L) (hlo : w.heap.size < lo) (q3 : KB W b3 P K) (q4 : KB W b4 P K2)
    (hA : CpIn lo hi P K W) (hB2 : CpIn lo2 hi2 P K2 W) (hd : hi ≤ lo2) (n3 : ¬ (lo ≤ b3 ∧ b3 < hi)) (n4 : ¬ (lo ≤ b4 ∧ b4 < hi)) : OwnR P L w (.pointer (some ⟨b3, 0, none⟩)) (.pointer (some ⟨b4, 0, none⟩)) W := by
  obtain ⟨wa, a1, rfl, _, a2⟩ := hA
  obtain ⟨wb, c1, rfl, _, c2⟩ := hB2
  exact ⟨b3, b4, lo, _, K, K2, rfl, rfl, hB, hpb, hlo, cp.QBox.cells q3, n3, cpy_of a1 a2, cp.QBox.cells q4, n4, fun W' h => cp_at c1 fun b h1 h2 => (h b (by omega)).trans (c2 b h1 h2)⟩
end Go.Proofs.YtkgkjkghdllkhaaDoor
