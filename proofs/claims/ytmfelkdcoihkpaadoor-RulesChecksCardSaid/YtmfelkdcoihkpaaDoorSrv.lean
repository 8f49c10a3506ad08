/-
  Each partition's windows, as rows of the call's own.
-/
import Derived.Test.YtmfelkdcoihkpaaDoorCont
import Derived.Laws.MakeOwn
import Derived.Laws.OwnMore
import Derived.OneCell
import Derived.OwnWalk
import Derived.Deep.AppendLies
namespace Go.Proofs.YtmfelkdcoihkpaaDoor
open Go.RowKit

/-- The windows of partition p. -/
def filt (L : List WinA) (p : Nat) : List WinA := L.filter fun w => decide (w.2.2.1 = (p : Int))
theorem filt_same (L : List WinA) (x : WinA) (p : Nat) (h : x.2.2.1 = (p : Int)) : filt (L ++ [x]) p = filt L p ++ [x] := by
  unfold filt
  rw [List.filter_append]
  simp [h]
theorem filt_other (L : List WinA) (x : WinA) (p : Nat) (h : x.2.2.1 ≠ (p : Int)) : filt (L ++ [x]) p = filt L p := by
  unfold filt
  rw [List.filter_append]
  simp [h]

structure Srv (W : World) (G n : Nat) (L : List WinA) (cur : Array Value) : Prop where
  row : W.heap[G]? = some (.cells cur 43 (0, 0))
  size : cur.size = n
  own : ∀ (p : Nat) (v : Value), cur[p]? = some v → W.ownsRow (G + 1) 39 4 v (filt L p).length ((filt L p).flatMap winV)
  apart : ∀ (p q : Nat) (v u : Value) (g : Nat), p ≠ q → cur[p]? = some v → cur[q]? = some u → v.ownBlock = some g → u.ownBlock = some g → False

section
variable {W w2 : World} {G n : Nat} {L : List WinA} {cur : Array Value}
theorem Srv.lt (h : Srv W G n L cur) : G < W.heap.size := (Array.getElem?_eq_some_iff.1 h.row).1
theorem Srv.keep (h : Srv W G n L cur) (hB : Below W.heap.size W w2) : Srv w2 G n L cur := by
  have hg : W.grownBy w2 none := ⟨hB.os, hB.tape, hB.output, hB.size, fun i hi _ => hB.block i hi⟩
  refine ⟨(hB.block _ h.lt).trans h.row, h.size, fun p v hp => World.ownsRow.kept (h.own p v hp) hg ?_, h.apart⟩
  cases v.ownBlock <;> simp
theorem Srv.cell (h : Srv W G n L cur) {p : Nat} (hp : p < n) : ∃ v, cur[p]? = some v ∧ W.cell? ⟨G, p, none⟩ = some v ∧ W.frozen? ⟨G, p, none⟩ = false := by
  have hps : p < cur.size := by rw [h.size]; exact hp
  refine ⟨cur[p], Array.getElem?_eq_getElem hps, ?_, frozen_of_row _ _ _ _ _ h.row⟩
  rw [cell_of_row _ _ _ _ _ _ h.row]
  exact Array.getElem?_eq_getElem hps
theorem Srv.step (h : Srv W G n L cur) {x : WinA} {p g cap : Nat} {v : Value} (hx : x.2.2.1 = (p : Int)) (hv : cur[p]? = some v) (hw : W.grownBy w2 v.ownBlock)
    (hown : w2.ownsRow (G + 1) 39 4 (.slice (some ⟨g, 0, none⟩) ((filt L p).length + 1) cap) ((filt L p).length + 1) ((filt L p).flatMap winV ++ winV x)) (hat : v.ownBlock = some g ∨ g = W.heap.size) :
    Srv (w2.setCell ⟨G, p, none⟩ (.slice (some ⟨g, 0, none⟩) ((filt L p).length + 1) cap)) G n (L ++ [x]) (cur.setIfInBounds p (.slice (some ⟨g, 0, none⟩) ((filt L p).length + 1) cap)) := by
  have hp : p < cur.size := (Array.getElem?_eq_some_iff.1 hv).1
  have hG : some G ≠ v.ownBlock := fun e => by
    have := (World.ownsRow.lt (h.own p v hv) G e.symm).1
    omega
  have hgG : G + 1 ≤ g := (World.ownsRow.lt hown g rfl).1
  have hr : w2.heap[G]? = some (.cells cur 43 (0, 0)) := (hw.block G h.lt hG).trans h.row
  refine ⟨heap_setCell_same w2 G p cur 43 _ hr, by simpa using h.size, fun q u hq => ?_, fun q r u t k hne hq hr' h1 h2 => ?_⟩
  · by_cases e : q = p
    · subst e
      rw [Array.getElem?_setIfInBounds] at hq
      simp only [if_pos hp] at hq
      injection hq with hq
      rw [← hq, filt_same L x q hx, List.length_append, List.length_singleton, List.flatMap_append]
      refine ownsRow_setCell_other ?_ (fun e => ?_) _
      · simpa using hown
      · injection e with e
        dsimp only at e
        omega
    · rw [Array.getElem?_setIfInBounds_ne (fun e' => e e'.symm)] at hq
      rw [filt_other L x q (fun e' => e (by rw [hx] at e'; omega))]
      refine ownsRow_setCell_other (World.ownsRow.kept (h.own q u hq) hw ?_) (fun e => ?_) _
      · cases hu : u.ownBlock with
        | none => exact .inl rfl
        | some k => exact .inr fun e' => h.apart q p u v k e hq hv hu e'.symm
      · have := (World.ownsRow.lt (h.own q u hq) G e).1
        omega
  · have key : ∀ q u, q ≠ p → cur[q]? = some u → u.ownBlock = some g → False := fun q u e hq h1 => by
      rcases hat with ha | ha
      · exact h.apart q p u v g e hq hv h1 ha
      · have := (World.ownsRow.lt (h.own q u hq) g h1).2
        omega
    by_cases e : q = p
    · subst e
      rw [Array.getElem?_setIfInBounds] at hq
      simp only [if_pos hp] at hq
      injection hq with hq
      rw [← hq] at h1
      have h1' : g = k := by simpa [Value.ownBlock] using h1
      subst h1'
      rw [Array.getElem?_setIfInBounds_ne hne] at hr'
      exact key r t (fun e => hne e.symm) hr' h2
    · rw [Array.getElem?_setIfInBounds_ne (fun e' => e e'.symm)] at hq
      by_cases e2 : r = p
      · subst e2
        rw [Array.getElem?_setIfInBounds] at hr'
        simp only [if_pos hp] at hr'
        injection hr' with hr'
        rw [← hr'] at h2
        have h2' : g = k := by simpa [Value.ownBlock] using h2
        subst h2'
        exact key q u e hq h1
      · rw [Array.getElem?_setIfInBounds_ne (fun e' => e2 e'.symm)] at hr'
        exact h.apart q r u t k hne hq hr' h1 h2
theorem Srv.start (W : World) (n : Nat) : Srv (W.alloc (.cells (madeCells #[.slice none 0 0] n) 43)) W.heap.size n [] (madeCells #[.slice none 0 0] n) := by
  have hat : ∀ (p : Nat) (v : Value), (madeCells #[.slice none 0 0] n)[p]? = some v → v = .slice none 0 0 := fun p v hp => by
    have : v ∈ (madeCells #[.slice none 0 0] n).toList := List.mem_of_getElem? (by simpa using hp)
    rw [toList_madeCells_one] at this
    exact List.eq_of_mem_replicate this
  refine ⟨heap_alloc_new _ _, size_madeCells _ _, fun p v hp => ?_, fun p q v u g _ hp _ h1 _ => ?_⟩
  · rw [hat p v hp]
    exact ⟨rfl, .inl ⟨rfl, rfl⟩⟩
  · rw [hat p v hp] at h1
    cases h1
end

theorem flat_len4 (l : List WinA) : (l.flatMap winV).length = 4 * l.length := by
  induction l with
  | nil => rfl
  | cons x r ih => rw [List.flatMap_cons, List.length_append, ih, List.length_cons]; show 4 + _ = _; omega
theorem split_at4 {ws : List WinA} (i : Nat) (hi : i < ws.length) : ws.flatMap winV = (ws.take i).flatMap winV ++ (winV (ws.getD i dW) ++ (ws.drop (i + 1)).flatMap winV) := by
  have h1 := List.take_append_drop i ws
  rw [List.drop_eq_getElem_cons hi] at h1
  conv => lhs; rw [← h1]
  rw [List.flatMap_append, List.flatMap_cons, List.getD_eq_getElem?_getD, List.getElem?_eq_getElem hi]
  rfl
/-- The rows as lists of windows. -/
def SrvAt (W : World) (G n : Nat) (cs : List (List WinA)) : Prop :=
  ∃ Pf : Nat → Option Addr × Nat, ∀ p, p < n → W.cell? ⟨G, p, none⟩ = some (slV (Pf p) (servedS cs p).length) ∧ WinsAt W (Pf p).1 (servedS cs p)
theorem wins_of_own {W : World} {base g : Nat} {ws : List WinA} {m cap : Nat} (h : W.ownsRow base 39 4 (.slice (some ⟨g, 0, none⟩) m cap) ws.length (ws.flatMap winV)) : WinsAt W (some ⟨g, 0, none⟩) ws := by
  have hc := World.ownsRow.cells h (g := g) rfl
  intro i hi
  refine ⟨g, 0, rfl, fun j u hu => ?_⟩
  have hj : j < 4 := by
    have := (List.getElem?_eq_some_iff.1 hu).1
    exact this
  have hl : (ws.flatMap winV)[i * 4 + j]? = some u := by
    have hs := split_at4 i hi
    rw [hs]
    rw [List.getElem?_append_right (by rw [flat_len4, List.length_take]; omega), flat_len4, List.length_take, show i * 4 + j - 4 * min i ws.length = j by rw [Nat.min_eq_left (by omega)]; omega,
      List.getElem?_append_left (by exact hj)]
    exact hu
  have := hc (i * 4 + j) u hl
  have hadd : (⟨g, 0, none⟩ : Addr).add (i * 4 + j) = ⟨g, 0 + i * 4 + j, none⟩ := by unfold Addr.add; split <;> simp_all
  rw [hadd] at this
  exact this
theorem Srv.at (W : World) (G n : Nat) (cs : List (List WinA)) (cur : Array Value) (h : Srv W G n cs.flatten cur) : SrvAt W G n cs := by
  classical
  have hx : ∀ p, p < n → ∃ P : Option Addr × Nat, W.cell? ⟨G, p, none⟩ = some (slV P (servedS cs p).length) ∧ WinsAt W P.1 (servedS cs p) := fun p hp => by
    obtain ⟨v, hv, hc, _⟩ := h.cell hp
    have ho := h.own p v hv
    have hf : filt cs.flatten p = servedS cs p := rfl
    rw [hf] at ho
    rcases ho.2 with ⟨hv', h0⟩ | ⟨g, cap, c', hv', _⟩
    · have h0' : (servedS cs p).length = 0 := h0
      exact ⟨(none, 0), by rw [hc, hv', h0']; rfl, fun i hi => by omega⟩
    · rw [hv'] at ho hc
      exact ⟨(some ⟨g, 0, none⟩, cap), hc, wins_of_own ho⟩
  refine ⟨fun p => if hp : p < n then Classical.choose (hx p hp) else (none, 0), fun p hp => ?_⟩
  have := Classical.choose_spec (hx p hp)
  simp only [dif_pos hp]
  exact this
end Go.Proofs.YtmfelkdcoihkpaaDoor
