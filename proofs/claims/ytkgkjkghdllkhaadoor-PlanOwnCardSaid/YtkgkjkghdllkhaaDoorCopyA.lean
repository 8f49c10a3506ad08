/-
  plan.Copy: what its loops know, with no walk.
-/
import Derived.Test.YtkgkjkghdllkhaaDoorCloneW
import Derived.Laws.Rows
namespace Go.Proofs.YtkgkjkghdllkhaaDoor.cp
open Go.RowKit

/-- A plan of few elements. -/
structure Few (P : PlanA) : Prop where
  l1 : P.2.1.length ≤ 2000
  l2 : P.2.2.1.length ≤ 2000
  l3 : P.2.2.2.1.length ≤ 2000
  l4 : P.2.2.2.2.length ≤ 2000
  li : ∀ ws ∈ P.2.1, ws.length ≤ 2000
  lp : ∀ q ∈ P.2.2.1, q.1.length ≤ 2000 ∧ q.2.2.1.length ≤ 2000

/-- A row of a call's own, where its block is as it was. -/
theorem own_keep {w w' : World} {base E C n : Nat} {v : Value} {xs : List Value} (h : w.ownsRow base E C v n xs) (e : ∀ g, v.ownBlock = some g → w'.heap[g]? = w.heap[g]?) : w'.ownsRow base E C v n xs := by
  refine ⟨h.1, ?_⟩
  rcases h.2 with hn | ⟨g, cap, cur, hv, hb, hg, rest⟩
  · exact .inl hn
  · exact .inr ⟨g, cap, cur, hv, hb, (e g (by rw [hv]; rfl)).trans hg, rest⟩
theorem own_below {w w' : World} {base E C n : Nat} {v : Value} {xs : List Value} (h : w.ownsRow base E C v n xs) (hB : Below w.heap.size w w') : w'.ownsRow base E C v n xs :=
  own_keep h fun g hg => hB.block g (World.ownsRow.lt h g hg).2
theorem own_only {g : Nat} {w w' : World} {base E C n : Nat} {v : Value} {xs : List Value} (h : w.ownsRow base E C v n xs) (hB : Only g w.heap.size w w') (hn : v.ownBlock ≠ some g) : w'.ownsRow base E C v n xs :=
  own_keep h fun k hk => hB.block k (World.ownsRow.lt h k hk).2 (fun e => hn (by rw [hk, e]))
theorem own_cap {w : World} {base E C n c : Nat} {A : Option Addr} {xs : List Value} (h : w.ownsRow base E C (.slice A n c) n xs) : n ≤ c := by
  rcases h.2 with ⟨e, e2⟩ | ⟨g, cap, cur, e, _, _, hle, _⟩
  · omega
  · injection e with _ _ e3
    omega
theorem own_addr {w : World} {base E C n c : Nat} {A : Option Addr} {xs : List Value} (h : w.ownsRow base E C (.slice A n c) n xs) {b o : Nat} (hA : A = some ⟨b, o, none⟩) : o = 0 ∧ base ≤ b ∧ b < w.heap.size := by
  rcases h.2 with ⟨e, e2⟩ | ⟨g, cap, cur, e, hb, hg, hle, _⟩
  · injection e with e1 _ _
    rw [e1] at hA; cases hA
  · injection e with e1 _ _
    rw [e1] at hA
    injection hA with hA
    injection hA with h1 h2 _
    subst h1
    exact ⟨h2.symm, hb, (Array.getElem?_eq_some_iff.1 hg).1⟩
theorem own_nil {w : World} {base E C n c : Nat} {A : Option Addr} {xs : List Value} (h : w.ownsRow base E C (.slice A n c) n xs) (hA : A = none) : c = 0 := by
  rcases h.2 with ⟨e, e2⟩ | ⟨g, cap, cur, e, hb, hg, hle, _⟩
  · injection e
  · injection e with e1 _ _
    rw [e1] at hA; cases hA
theorem Arr.only {g : Nat} {w w' : World} {A : Option Addr} {C n : Nat} {F : Nat → List Value} (hA : Arr w A C n F) (h : Only g w.heap.size w w') (hn : ∀ b o, A = some ⟨b, o, none⟩ → b ≠ g) : Arr w' A C n F := h.arr hA hn
theorem Arr.grown {w w' : World} {row : Option Nat} {A : Option Addr} {C n : Nat} {F : Nat → List Value} (hA : Arr w A C n F) (h : w.grownBy w' row) (hn : ∀ b o, A = some ⟨b, o, none⟩ → row ≠ some b) : Arr w' A C n F := fun i hi => by
  obtain ⟨b, o, e, hc⟩ := hA i hi
  refine ⟨b, o, e, fun j u hu => ?_⟩
  have hlt := cell_lt' (hc j u hu)
  rw [h.cell_far ⟨b, _, none⟩ hlt (fun e2 => hn b o e e2.symm)]
  exact hc j u hu

/-- The copy's box: its five cells. -/
def QBox (w : World) (bq : Nat) (fr : Int) (v1 v2 v3 v4 : Value) : Prop := w.heap[bq]? = some (.cells #[.int .u16 fr, v1, v2, v3, v4] 28 (0, 0))
theorem QBox.lt {w : World} {bq : Nat} {fr : Int} {v1 v2 v3 v4 : Value} (h : QBox w bq fr v1 v2 v3 v4) : bq < w.heap.size := (Array.getElem?_eq_some_iff.1 h).1
theorem QBox.cells {w : World} {bq : Nat} {fr : Int} {v1 v2 v3 v4 : Value} (h : QBox w bq fr v1 v2 v3 v4) : w.cell? ⟨bq, 0, none⟩ = some (.int .u16 fr) ∧ w.cell? ⟨bq, 1, none⟩ = some v1 ∧ w.cell? ⟨bq, 2, none⟩ = some v2 ∧ w.cell? ⟨bq, 3, none⟩ = some v3 ∧ w.cell? ⟨bq, 4, none⟩ = some v4 := by
  refine ⟨?_, ?_, ?_, ?_, ?_⟩ <;> (rw [cell_of_row _ _ _ _ _ _ h]; rfl)
theorem QBox.frozen {w : World} {bq j : Nat} {fr : Int} {v1 v2 v3 v4 : Value} (h : QBox w bq fr v1 v2 v3 v4) : w.frozen? ⟨bq, j, none⟩ = false := frozen_of_row _ _ _ _ _ h
theorem QBox.set1 {w : World} {bq : Nat} {fr : Int} {v1 v2 v3 v4 v : Value} (h : QBox w bq fr v1 v2 v3 v4) : QBox (w.setCell ⟨bq, 1, none⟩ v) bq fr v v2 v3 v4 := by
  unfold QBox; rw [heap_setCell_same w bq 1 _ 28 v h]; rfl
theorem QBox.set2 {w : World} {bq : Nat} {fr : Int} {v1 v2 v3 v4 v : Value} (h : QBox w bq fr v1 v2 v3 v4) : QBox (w.setCell ⟨bq, 2, none⟩ v) bq fr v1 v v3 v4 := by
  unfold QBox; rw [heap_setCell_same w bq 2 _ 28 v h]; rfl
theorem QBox.set3 {w : World} {bq : Nat} {fr : Int} {v1 v2 v3 v4 v : Value} (h : QBox w bq fr v1 v2 v3 v4) : QBox (w.setCell ⟨bq, 3, none⟩ v) bq fr v1 v2 v v4 := by
  unfold QBox; rw [heap_setCell_same w bq 3 _ 28 v h]; rfl
theorem QBox.keep {w w' : World} {bq : Nat} {fr : Int} {v1 v2 v3 v4 : Value} (h : QBox w bq fr v1 v2 v3 v4) (hB : Below w.heap.size w w') : QBox w' bq fr v1 v2 v3 v4 := (hB.block bq h.lt).trans h
theorem QBox.new (w : World) (fr : Int) (v1 v2 v3 v4 : Value) : QBox (w.alloc (.cells #[.int .u16 fr, v1, v2, v3, v4] 28)) w.heap.size fr v1 v2 v3 v4 := heap_alloc_new _ _

/-- The first loop: k cores are copied; v is the headers' slice. -/
structure CI1 (bq : Nat) (fr : Int) (V3 V4 : Value) (cs : List (List WinA)) (W1 : World) (k : Nat) (v : Value) (wr : World) : Prop where
  only : Only bq W1.heap.size W1 wr
  box : QBox wr bq fr v (.slice none 0 0) V3 V4
  lt : bq < W1.heap.size
  own : ∃ Q : Nat → Option Addr × Nat, wr.ownsRow W1.heap.size 49 1 v k ((List.range k).map fun i => slV (Q i) (cs.getD i []).length) ∧
    ∀ i, i < k → WinsAt wr (Q i).1 (cs.getD i []) ∧ Loose W1.heap.size wr (Q i).1 ∧ ∀ b o, (Q i).1 = some ⟨b, o, none⟩ → W1.heap.size ≤ b ∧ b < wr.heap.size ∧ v.ownBlock ≠ some b
theorem CI1.owns {bq : Nat} {fr : Int} {V3 V4 : Value} {cs : List (List WinA)} {W1 : World} {k : Nat} {v : Value} {wr : World} (h : CI1 bq fr V3 V4 cs W1 k v wr) : ∃ xs, wr.ownsRow W1.heap.size 49 1 v k xs := by
  obtain ⟨Q, h1, _⟩ := h.own
  exact ⟨_, h1⟩
theorem CI1.step {bq g cap c' : Nat} {A' : Option Addr} {fr : Int} {V3 V4 : Value} {cs : List (List WinA)} {W1 : World} {k : Nat} {v : Value} {wr W' w4 : World} {Q : Nat → Option Addr × Nat} (h : CI1 bq fr V3 V4 cs W1 k v wr)
    (hQ : wr.ownsRow W1.heap.size 49 1 v k ((List.range k).map fun i => slV (Q i) (cs.getD i []).length) ∧
      ∀ i, i < k → WinsAt wr (Q i).1 (cs.getD i []) ∧ Loose W1.heap.size wr (Q i).1 ∧ ∀ b o, (Q i).1 = some ⟨b, o, none⟩ → W1.heap.size ≤ b ∧ b < wr.heap.size ∧ v.ownBlock ≠ some b)
    (hB : Below wr.heap.size wr W') (hu : WinsAt W' A' (cs.getD k []) ∧ Loose wr.heap.size W' A' ∧ ∀ b o, A' = some ⟨b, o, none⟩ → wr.heap.size ≤ b ∧ b < W'.heap.size)
    (hg : W'.grownBy w4 v.ownBlock) (ho : w4.ownsRow W1.heap.size 49 1 (.slice (some ⟨g, 0, none⟩) (k + 1) cap) (k + 1) (((List.range k).map fun i => slV (Q i) (cs.getD i []).length) ++ [slV (A', c') (cs.getD k []).length])) (hat : v.ownBlock = some g ∨ g = W'.heap.size) :
    CI1 bq fr V3 V4 cs W1 (k + 1) (.slice (some ⟨g, 0, none⟩) (k + 1) cap) (w4.setCell ⟨bq, 1, none⟩ (.slice (some ⟨g, 0, none⟩) (k + 1) cap)) := by
  obtain ⟨hQ1, hQ2⟩ := hQ
  have hvb : ∀ b, v.ownBlock = some b → W1.heap.size ≤ b ∧ b < wr.heap.size := fun b hb => World.ownsRow.lt hQ1 b hb
  have hsz := hB.size
  have hlt := h.lt
  have hw1 := h.only.size
  have hvq : v.ownBlock ≠ some bq := fun e => by have := hvb _ e; omega
  have hgg : W1.heap.size ≤ g := by
    rcases hat with e | e
    · exact (hvb g e).1
    · omega
  have ho4 : Only bq W'.heap.size W' w4 → True := fun _ => trivial
  have hsame : ∀ b, b < W'.heap.size → v.ownBlock ≠ some b → b ≠ bq → (w4.setCell ⟨bq, 1, none⟩ (.slice (some ⟨g, 0, none⟩) (k + 1) cap)).heap[b]? = W'.heap[b]? := fun b hb hn hbq =>
    (Below.heap_setCell _ _ _ _ (by simpa using hbq)).trans (hg.block b hb (fun e => hn e.symm))
  have hsize : W'.heap.size ≤ (w4.setCell ⟨bq, 1, none⟩ (.slice (some ⟨g, 0, none⟩) (k + 1) cap)).heap.size := by simpa using hg.size
  refine ⟨⟨hg.os.trans (hB.os.trans h.only.os), hg.tape.trans (hB.tape.trans h.only.tape), hg.output.trans (hB.output.trans h.only.output), by omega, fun b hb hbq => ?_⟩, ?_, hlt, fun i => if i = k then (A', c') else Q i, ?_, fun i hi => ?_⟩
  · rw [hsame b (by omega) (fun e => by have := hvb _ e; omega) hbq, hB.block b (by omega)]
    exact h.only.block b hb hbq
  · have hb := h.box.keep hB
    have hb4 : QBox w4 bq fr v (.slice none 0 0) V3 V4 := (hg.block bq hb.lt (fun e => hvq e.symm)).trans hb
    exact hb4.set1
  · have e : ((List.range (k + 1)).map fun i => slV (if i = k then (A', c') else Q i) (cs.getD i []).length) = ((List.range k).map fun i => slV (Q i) (cs.getD i []).length) ++ [slV (A', c') (cs.getD k []).length] := by
      rw [List.range_succ, List.map_append, List.map_cons, List.map_nil, if_pos rfl]
      congr 1
      apply List.map_congr_left
      intro i hi
      rw [if_neg (by have := List.mem_range.1 hi; omega)]
    rw [e]
    refine own_keep ho fun b hb => ?_
    have : b = g := by simpa [Value.ownBlock] using hb.symm
    exact Below.heap_setCell _ _ _ _ (by show b ≠ bq; omega)
  · have hv' : ∀ b, b < W'.heap.size → v.ownBlock ≠ some b → (Value.slice (some ⟨g, 0, none⟩) (k + 1) cap).ownBlock ≠ some b := fun b hb hn e => by
      have : g = b := by simpa [Value.ownBlock] using e
      subst this
      rcases hat with e | e
      · exact hn e
      · omega
    have hset : ∀ {A : Option Addr} {ws : List WinA}, WinsAt W' A ws → (∀ b o, A = some ⟨b, o, none⟩ → b < W'.heap.size ∧ v.ownBlock ≠ some b ∧ b ≠ bq) → WinsAt (w4.setCell ⟨bq, 1, none⟩ (.slice (some ⟨g, 0, none⟩) (k + 1) cap)) A ws := fun hA hn i hi => by
      obtain ⟨b, o, e, hc⟩ := hA i hi
      obtain ⟨n1, n2, n3⟩ := hn b o e
      exact ⟨b, o, e, fun j u hu => by rw [World.cell?_of_block (w := W') (hsame b n1 n2 n3)]; exact hc j u hu⟩
    have hlo : ∀ {B : Nat} {A : Option Addr}, Loose B W' A → (∀ b o, A = some ⟨b, o, none⟩ → b < W'.heap.size ∧ v.ownBlock ≠ some b ∧ b ≠ bq) → Loose B (w4.setCell ⟨bq, 1, none⟩ (.slice (some ⟨g, 0, none⟩) (k + 1) cap)) A := fun hA hn =>
      hA.move fun b o e => hsame b (hn b o e).1 (hn b o e).2.1 (hn b o e).2.2
    by_cases e : i = k
    · subst e
      simp only [↓reduceIte]
      refine ⟨hset hu.1 fun b o e => ?_, (hlo hu.2.1 fun b o e => ?_).base (by omega), fun b o e => ?_⟩
      · have := hu.2.2 b o e
        exact ⟨this.2, fun e2 => by have := hvb _ e2; omega, by omega⟩
      · have := hu.2.2 b o e
        exact ⟨this.2, fun e2 => by have := hvb _ e2; omega, by omega⟩
      · have := hu.2.2 b o e
        exact ⟨by omega, by omega, hv' b this.2 fun e2 => by have := hvb _ e2; omega⟩
    · simp only [if_neg e]
      obtain ⟨h1, h2, h3⟩ := hQ2 i (by omega)
      refine ⟨hset (Arr.keep h1 hB) fun b o e => ?_, hlo (h2.keep hB) fun b o e => ?_, fun b o e => ?_⟩
      · have := h3 b o e
        exact ⟨by omega, this.2.2, by omega⟩
      · have := h3 b o e
        exact ⟨by omega, this.2.2, by omega⟩
      · have := h3 b o e
        exact ⟨this.1, by omega, hv' b (by omega) this.2.2⟩
theorem CI1.start {bq : Nat} {fr : Int} {V3 V4 : Value} {cs : List (List WinA)} {W1 : World} (h : QBox W1 bq fr (.slice none 0 0) (.slice none 0 0) V3 V4) : CI1 bq fr V3 V4 cs W1 0 (.slice none 0 0) W1 :=
  ⟨Only.refl _ _ _, h, h.lt, fun _ => (none, 0), World.ownsRow_nil _ _ _ _, fun i hi => by omega⟩

/-- The second loop: k partitions are copied; v is their slice. -/
structure CI2 (bq : Nat) (fr : Int) (v1 V3 V4 : Value) (ps : List PartA) (W1 : World) (k : Nat) (v : Value) (wr : World) : Prop where
  only : Only bq W1.heap.size W1 wr
  box : QBox wr bq fr v1 v V3 V4
  lt : bq < W1.heap.size
  own : ∃ S Q : Nat → Option Addr × Nat, wr.ownsRow W1.heap.size 56 6 v k ((List.range k).flatMap fun i => partV (ps.getD i dQ) (S i) (Q i)) ∧
    ∀ i, i < k → (SemsAt wr (S i).1 (ps.getD i dQ).1 ∧ BytesAt wr (Q i).1 (ps.getD i dQ).2.2.1 ∧ ((Q i).1 = none → (Q i).2 = 0) ∧ Loose W1.heap.size wr (S i).1 ∧ Loose W1.heap.size wr (Q i).1) ∧ (∀ b o, (S i).1 = some ⟨b, o, none⟩ → W1.heap.size ≤ b ∧ b < wr.heap.size ∧ v.ownBlock ≠ some b) ∧ ∀ b o, (Q i).1 = some ⟨b, o, none⟩ → W1.heap.size ≤ b ∧ b < wr.heap.size ∧ v.ownBlock ≠ some b
theorem CI2.start {bq : Nat} {fr : Int} {v1 V3 V4 : Value} {ps : List PartA} {W1 : World} (h : QBox W1 bq fr v1 (.slice none 0 0) V3 V4) : CI2 bq fr v1 V3 V4 ps W1 0 (.slice none 0 0) W1 :=
  ⟨Only.refl _ _ _, h, h.lt, fun _ => (none, 0), fun _ => (none, 0), World.ownsRow_nil _ _ _ _, fun i hi => by omega⟩
theorem CI2.step {bq g cap c1 c2 : Nat} {A1 A2 : Option Addr} {fr : Int} {v1 V3 V4 : Value} {ps : List PartA} {W1 : World} {k : Nat} {v : Value} {wr W' w4 : World} {S Q : Nat → Option Addr × Nat} (h : CI2 bq fr v1 V3 V4 ps W1 k v wr)
    (hQ : wr.ownsRow W1.heap.size 56 6 v k ((List.range k).flatMap fun i => partV (ps.getD i dQ) (S i) (Q i)) ∧
      ∀ i, i < k → (SemsAt wr (S i).1 (ps.getD i dQ).1 ∧ BytesAt wr (Q i).1 (ps.getD i dQ).2.2.1 ∧ ((Q i).1 = none → (Q i).2 = 0) ∧ Loose W1.heap.size wr (S i).1 ∧ Loose W1.heap.size wr (Q i).1) ∧ (∀ b o, (S i).1 = some ⟨b, o, none⟩ → W1.heap.size ≤ b ∧ b < wr.heap.size ∧ v.ownBlock ≠ some b) ∧ ∀ b o, (Q i).1 = some ⟨b, o, none⟩ → W1.heap.size ≤ b ∧ b < wr.heap.size ∧ v.ownBlock ≠ some b)
    (hB : Below wr.heap.size wr W') (hu : SemsAt W' A1 (ps.getD k dQ).1 ∧ BytesAt W' A2 (ps.getD k dQ).2.2.1 ∧ (A2 = none → c2 = 0) ∧ Loose wr.heap.size W' A1 ∧ Loose wr.heap.size W' A2) (hu1 : ∀ b o, A1 = some ⟨b, o, none⟩ → wr.heap.size ≤ b ∧ b < W'.heap.size) (hu2 : ∀ b o, A2 = some ⟨b, o, none⟩ → wr.heap.size ≤ b ∧ b < W'.heap.size)
    (hg : W'.grownBy w4 v.ownBlock) (ho : w4.ownsRow W1.heap.size 56 6 (.slice (some ⟨g, 0, none⟩) (k + 1) cap) (k + 1) (((List.range k).flatMap fun i => partV (ps.getD i dQ) (S i) (Q i)) ++ partV (ps.getD k dQ) (A1, c1) (A2, c2))) (hat : v.ownBlock = some g ∨ g = W'.heap.size) :
    CI2 bq fr v1 V3 V4 ps W1 (k + 1) (.slice (some ⟨g, 0, none⟩) (k + 1) cap) (w4.setCell ⟨bq, 2, none⟩ (.slice (some ⟨g, 0, none⟩) (k + 1) cap)) := by
  obtain ⟨hQ1, hQ2⟩ := hQ
  have hvb : ∀ b, v.ownBlock = some b → W1.heap.size ≤ b ∧ b < wr.heap.size := fun b hb => World.ownsRow.lt hQ1 b hb
  have hsz := hB.size
  have hlt := h.lt
  have hw1 := h.only.size
  have hvq : v.ownBlock ≠ some bq := fun e => by have := hvb _ e; omega
  have hgg : W1.heap.size ≤ g := by
    rcases hat with e | e
    · exact (hvb g e).1
    · omega
  have hsame : ∀ b, b < W'.heap.size → v.ownBlock ≠ some b → b ≠ bq → (w4.setCell ⟨bq, 2, none⟩ (.slice (some ⟨g, 0, none⟩) (k + 1) cap)).heap[b]? = W'.heap[b]? := fun b hb hn hbq =>
    (Below.heap_setCell _ _ _ _ (by simpa using hbq)).trans (hg.block b hb (fun e => hn e.symm))
  have hsize : W'.heap.size ≤ (w4.setCell ⟨bq, 2, none⟩ (.slice (some ⟨g, 0, none⟩) (k + 1) cap)).heap.size := by simpa using hg.size
  refine ⟨⟨hg.os.trans (hB.os.trans h.only.os), hg.tape.trans (hB.tape.trans h.only.tape), hg.output.trans (hB.output.trans h.only.output), by omega, fun b hb hbq => ?_⟩, ?_, hlt, fun i => if i = k then (A1, c1) else S i, fun i => if i = k then (A2, c2) else Q i, ?_, fun i hi => ?_⟩
  · rw [hsame b (by omega) (fun e => by have := hvb _ e; omega) hbq, hB.block b (by omega)]
    exact h.only.block b hb hbq
  · have hb := h.box.keep hB
    have hb4 : QBox w4 bq fr v1 v V3 V4 := (hg.block bq hb.lt (fun e => hvq e.symm)).trans hb
    exact hb4.set2
  · have e : ((List.range (k + 1)).flatMap fun i => partV (ps.getD i dQ) (if i = k then (A1, c1) else S i) (if i = k then (A2, c2) else Q i)) = ((List.range k).flatMap fun i => partV (ps.getD i dQ) (S i) (Q i)) ++ partV (ps.getD k dQ) (A1, c1) (A2, c2) := by
      rw [List.range_succ, List.flatMap_append, List.flatMap_cons, List.flatMap_nil, if_pos rfl, if_pos rfl, List.append_nil]
      congr 1
      rw [List.flatMap_def, List.flatMap_def]
      congr 1
      apply List.map_congr_left
      intro i hi
      have := List.mem_range.1 hi
      rw [if_neg (by omega), if_neg (by omega)]
    rw [e]
    refine own_keep ho fun b hb => ?_
    have : b = g := by simpa [Value.ownBlock] using hb.symm
    exact Below.heap_setCell _ _ _ _ (by show b ≠ bq; omega)
  · have hv' : ∀ b, b < W'.heap.size → v.ownBlock ≠ some b → (Value.slice (some ⟨g, 0, none⟩) (k + 1) cap).ownBlock ≠ some b := fun b hb hn e => by
      have : g = b := by simpa [Value.ownBlock] using e
      subst this
      rcases hat with e | e
      · exact hn e
      · omega
    have hset : ∀ {A : Option Addr} {C n : Nat} {F : Nat → List Value}, Arr W' A C n F → (∀ b o, A = some ⟨b, o, none⟩ → b < W'.heap.size ∧ v.ownBlock ≠ some b ∧ b ≠ bq) → Arr (w4.setCell ⟨bq, 2, none⟩ (.slice (some ⟨g, 0, none⟩) (k + 1) cap)) A C n F := fun hA hn i hi => by
      obtain ⟨b, o, e, hc⟩ := hA i hi
      obtain ⟨n1, n2, n3⟩ := hn b o e
      exact ⟨b, o, e, fun j u hu => by rw [World.cell?_of_block (w := W') (hsame b n1 n2 n3)]; exact hc j u hu⟩
    have hlo : ∀ {B : Nat} {A : Option Addr}, Loose B W' A → (∀ b o, A = some ⟨b, o, none⟩ → b < W'.heap.size ∧ v.ownBlock ≠ some b ∧ b ≠ bq) → Loose B (w4.setCell ⟨bq, 2, none⟩ (.slice (some ⟨g, 0, none⟩) (k + 1) cap)) A := fun hA hn =>
      hA.move fun b o e => hsame b (hn b o e).1 (hn b o e).2.1 (hn b o e).2.2
    by_cases e : i = k
    · subst e
      simp only [↓reduceIte]
      have hn : ∀ {A : Option Addr}, (∀ b o, A = some ⟨b, o, none⟩ → wr.heap.size ≤ b ∧ b < W'.heap.size) → ∀ b o, A = some ⟨b, o, none⟩ → b < W'.heap.size ∧ v.ownBlock ≠ some b ∧ b ≠ bq := fun hA b o e => by
        have := hA b o e
        exact ⟨this.2, fun e2 => by have := hvb _ e2; omega, by omega⟩
      have hm : ∀ {A : Option Addr}, (∀ b o, A = some ⟨b, o, none⟩ → wr.heap.size ≤ b ∧ b < W'.heap.size) → ∀ b o, A = some ⟨b, o, none⟩ → W1.heap.size ≤ b ∧ b < (w4.setCell ⟨bq, 2, none⟩ (.slice (some ⟨g, 0, none⟩) (i + 1) cap)).heap.size ∧ (Value.slice (some ⟨g, 0, none⟩) (i + 1) cap).ownBlock ≠ some b := fun hA b o e => by
        have := hA b o e
        exact ⟨by omega, by omega, hv' b this.2 fun e2 => by have := hvb _ e2; omega⟩
      exact ⟨⟨hset hu.1 (hn hu1), hset hu.2.1 (hn hu2), hu.2.2.1, (hlo hu.2.2.2.1 (hn hu1)).base (by omega), (hlo hu.2.2.2.2 (hn hu2)).base (by omega)⟩, hm hu1, hm hu2⟩
    · simp only [if_neg e]
      obtain ⟨⟨h1, h2, h3⟩, h4, h5⟩ := hQ2 i (by omega)
      have hn : ∀ {A : Option Addr}, (∀ b o, A = some ⟨b, o, none⟩ → W1.heap.size ≤ b ∧ b < wr.heap.size ∧ v.ownBlock ≠ some b) → ∀ b o, A = some ⟨b, o, none⟩ → b < W'.heap.size ∧ v.ownBlock ≠ some b ∧ b ≠ bq := fun hA b o e => by
        have := hA b o e
        exact ⟨by omega, this.2.2, by omega⟩
      have hm : ∀ {A : Option Addr}, (∀ b o, A = some ⟨b, o, none⟩ → W1.heap.size ≤ b ∧ b < wr.heap.size ∧ v.ownBlock ≠ some b) → ∀ b o, A = some ⟨b, o, none⟩ → W1.heap.size ≤ b ∧ b < (w4.setCell ⟨bq, 2, none⟩ (.slice (some ⟨g, 0, none⟩) (k + 1) cap)).heap.size ∧ (Value.slice (some ⟨g, 0, none⟩) (k + 1) cap).ownBlock ≠ some b := fun hA b o e => by
        have := hA b o e
        exact ⟨this.1, by omega, hv' b (by omega) this.2.2⟩
      exact ⟨⟨hset (Arr.keep h1 hB) (hn h4), hset (Arr.keep h2 hB) (hn h5), h3.1, hlo (h3.2.1.keep hB) (hn h4), hlo (h3.2.2.keep hB) (hn h5)⟩, hm h4, hm h5⟩
end Go.Proofs.YtkgkjkghdllkhaaDoor.cp
