/-
  The two boxes stored anew; what holds behind a step of one of both.
-/
import Derived.Test.YtoaaeamogpdcgaaDoorSimN
namespace Go.Proofs.YtoaaeamogpdcgaaDoor
open Go.RowKit

noncomputable def sixW (w : World) (B : Nat) (d : Dw) : World :=
  (((((w.setCell ⟨B, 0, none⟩ (.slice d.pA d.M d.cA)).setCell ⟨B, 1, none⟩ (.slice d.pV d.M d.cV)).setCell ⟨B, 2, none⟩ (.slice d.pD d.M d.cD)).setCell ⟨B, 3, none⟩ (.slice d.pE d.M d.cE)).setCell ⟨B, 4, none⟩ (.int .i64 d.did)).setCell ⟨B, 5, none⟩ (.bool d.done)
noncomputable def eightW (w : World) (B : Nat) (d : Dr) : World :=
  (((((((w.setCell ⟨B, 0, none⟩ (.int .i64 d.at')).setCell ⟨B, 1, none⟩ (.int .i64 d.n)).setCell ⟨B, 2, none⟩ (.int .i64 d.next)).setCell ⟨B, 3, none⟩ (.int .u32 d.cn)).setCell ⟨B, 4, none⟩ (.slice d.pL d.nL d.cL)).setCell ⟨B, 5, none⟩ (.bool d.got)).setCell ⟨B, 6, none⟩ (.bool d.done)).setCell ⟨B, 7, none⟩ (.int .i64 d.tr)
theorem cell_past {w : World} {B i j : Nat} {u v : Value} (h : w.cell? ⟨B, i, none⟩ = some v) (hij : i ≠ j) : (w.setCell ⟨B, j, none⟩ u).cell? ⟨B, i, none⟩ = some v := by
  rw [World.cell?_setCell_other _ _ _ _ (by simp only [ne_eq, Addr.mk.injEq, not_and]; omega)]; exact h
theorem cell_here {w : World} {B i : Nat} {u v : Value} (h : w.cell? ⟨B, i, none⟩ = some v) : (w.setCell ⟨B, i, none⟩ u).cell? ⟨B, i, none⟩ = some u := World.cell?_setCell_same _ _ _ h
theorem six_box {w : World} {B : Nat} {d d' : Dw} (h : Box6 w B d) : Box6 (sixW w B d') B d' := by
  obtain ⟨h0, h1, h2, h3, h4, h5⟩ := h
  unfold sixW
  have a1 := cell_past (u := .slice d'.pA d'.M d'.cA) h1 (j := 0) (by omega)
  have a2 := cell_past (u := .slice d'.pV d'.M d'.cV) (cell_past (u := .slice d'.pA d'.M d'.cA) h2 (j := 0) (by omega)) (j := 1) (by omega)
  have a3 := cell_past (u := .slice d'.pD d'.M d'.cD) (cell_past (u := .slice d'.pV d'.M d'.cV) (cell_past (u := .slice d'.pA d'.M d'.cA) h3 (j := 0) (by omega)) (j := 1) (by omega)) (j := 2) (by omega)
  have a4 := cell_past (u := .slice d'.pE d'.M d'.cE) (cell_past (u := .slice d'.pD d'.M d'.cD) (cell_past (u := .slice d'.pV d'.M d'.cV) (cell_past (u := .slice d'.pA d'.M d'.cA) h4 (j := 0) (by omega)) (j := 1) (by omega)) (j := 2) (by omega)) (j := 3) (by omega)
  have a5 := cell_past (u := .int .i64 d'.did) (cell_past (u := .slice d'.pE d'.M d'.cE) (cell_past (u := .slice d'.pD d'.M d'.cD) (cell_past (u := .slice d'.pV d'.M d'.cV) (cell_past (u := .slice d'.pA d'.M d'.cA) h5 (j := 0) (by omega)) (j := 1) (by omega)) (j := 2) (by omega)) (j := 3) (by omega)) (j := 4) (by omega)
  refine ⟨?_, ?_, ?_, ?_, ?_, cell_here a5⟩
  · exact cell_past (cell_past (cell_past (cell_past (cell_past (cell_here h0) (by omega)) (by omega)) (by omega)) (by omega)) (by omega)
  · exact cell_past (cell_past (cell_past (cell_past (cell_here a1) (by omega)) (by omega)) (by omega)) (by omega)
  · exact cell_past (cell_past (cell_past (cell_here a2) (by omega)) (by omega)) (by omega)
  · exact cell_past (cell_past (cell_here a3) (by omega)) (by omega)
  · exact cell_past (cell_here a4) (by omega)
theorem eight_box {w : World} {B : Nat} {d d' : Dr} (h : Box8 w B d) : Box8 (eightW w B d') B d' := by
  obtain ⟨h0, h1, h2, h3, h4, h5, h6, h7⟩ := h
  have p0 : ∀ {i : Nat} {W : World} {v : Value}, W.cell? ⟨B, i, none⟩ = some v → 0 < i → (W.setCell ⟨B, 0, none⟩ (.int .i64 d'.at')).cell? ⟨B, i, none⟩ = some v := fun h hi => cell_past h (by omega)
  have p1 : ∀ {i : Nat} {W : World} {v : Value}, W.cell? ⟨B, i, none⟩ = some v → 1 < i → (W.setCell ⟨B, 1, none⟩ (.int .i64 d'.n)).cell? ⟨B, i, none⟩ = some v := fun h hi => cell_past h (by omega)
  have p2 : ∀ {i : Nat} {W : World} {v : Value}, W.cell? ⟨B, i, none⟩ = some v → 2 < i → (W.setCell ⟨B, 2, none⟩ (.int .i64 d'.next)).cell? ⟨B, i, none⟩ = some v := fun h hi => cell_past h (by omega)
  have p3 : ∀ {i : Nat} {W : World} {v : Value}, W.cell? ⟨B, i, none⟩ = some v → 3 < i → (W.setCell ⟨B, 3, none⟩ (.int .u32 d'.cn)).cell? ⟨B, i, none⟩ = some v := fun h hi => cell_past h (by omega)
  have p4 : ∀ {i : Nat} {W : World} {v : Value}, W.cell? ⟨B, i, none⟩ = some v → 4 < i → (W.setCell ⟨B, 4, none⟩ (.slice d'.pL d'.nL d'.cL)).cell? ⟨B, i, none⟩ = some v := fun h hi => cell_past h (by omega)
  have p5 : ∀ {i : Nat} {W : World} {v : Value}, W.cell? ⟨B, i, none⟩ = some v → 5 < i → (W.setCell ⟨B, 5, none⟩ (.bool d'.got)).cell? ⟨B, i, none⟩ = some v := fun h hi => cell_past h (by omega)
  have p6 : ∀ {i : Nat} {W : World} {v : Value}, W.cell? ⟨B, i, none⟩ = some v → 6 < i → (W.setCell ⟨B, 6, none⟩ (.bool d'.done)).cell? ⟨B, i, none⟩ = some v := fun h hi => cell_past h (by omega)
  unfold eightW
  refine ⟨?_, ?_, ?_, ?_, ?_, ?_, ?_, cell_here (p6 (p5 (p4 (p3 (p2 (p1 (p0 h7 (by omega)) (by omega)) (by omega)) (by omega)) (by omega)) (by omega)) (by omega))⟩
  · exact cell_past (cell_past (cell_past (cell_past (cell_past (cell_past (cell_past (cell_here h0) (by omega)) (by omega)) (by omega)) (by omega)) (by omega)) (by omega)) (by omega)
  · exact cell_past (cell_past (cell_past (cell_past (cell_past (cell_past (cell_here (p0 h1 (by omega))) (by omega)) (by omega)) (by omega)) (by omega)) (by omega)) (by omega)
  · exact cell_past (cell_past (cell_past (cell_past (cell_past (cell_here (p1 (p0 h2 (by omega)) (by omega))) (by omega)) (by omega)) (by omega)) (by omega)) (by omega)
  · exact cell_past (cell_past (cell_past (cell_past (cell_here (p2 (p1 (p0 h3 (by omega)) (by omega)) (by omega))) (by omega)) (by omega)) (by omega)) (by omega)
  · exact cell_past (cell_past (cell_past (cell_here (p3 (p2 (p1 (p0 h4 (by omega)) (by omega)) (by omega)) (by omega))) (by omega)) (by omega)) (by omega)
  · exact cell_past (cell_past (cell_here (p4 (p3 (p2 (p1 (p0 h5 (by omega)) (by omega)) (by omega)) (by omega)) (by omega))) (by omega)) (by omega)
  · exact cell_past (cell_here (p5 (p4 (p3 (p2 (p1 (p0 h6 (by omega)) (by omega)) (by omega)) (by omega)) (by omega)) (by omega))) (by omega)
theorem six_heap {w : World} {B k : Nat} {d : Dw} (h : k ≠ B) : (sixW w B d).heap[k]? = w.heap[k]? := by
  unfold sixW
  rw [Below.heap_setCell _ _ _ _ h, Below.heap_setCell _ _ _ _ h, Below.heap_setCell _ _ _ _ h, Below.heap_setCell _ _ _ _ h, Below.heap_setCell _ _ _ _ h, Below.heap_setCell _ _ _ _ h]
theorem eight_heap {w : World} {B k : Nat} {d : Dr} (h : k ≠ B) : (eightW w B d).heap[k]? = w.heap[k]? := by
  unfold eightW
  rw [Below.heap_setCell _ _ _ _ h, Below.heap_setCell _ _ _ _ h, Below.heap_setCell _ _ _ _ h, Below.heap_setCell _ _ _ _ h, Below.heap_setCell _ _ _ _ h, Below.heap_setCell _ _ _ _ h, Below.heap_setCell _ _ _ _ h, Below.heap_setCell _ _ _ _ h]
theorem six_below {n : Nat} {w0 w : World} {B : Nat} {d : Dw} (h : Below n w0 w) (hB : n ≤ B) : Below n w0 (sixW w B d) := by
  unfold sixW
  exact (((((h.setCell (p := ⟨B, 0, none⟩) hB _).setCell (p := ⟨B, 1, none⟩) hB _).setCell (p := ⟨B, 2, none⟩) hB _).setCell (p := ⟨B, 3, none⟩) hB _).setCell (p := ⟨B, 4, none⟩) hB _).setCell (p := ⟨B, 5, none⟩) hB _
theorem eight_below {n : Nat} {w0 w : World} {B : Nat} {d : Dr} (h : Below n w0 w) (hB : n ≤ B) : Below n w0 (eightW w B d) := by
  unfold eightW
  exact (((((((h.setCell (p := ⟨B, 0, none⟩) hB _).setCell (p := ⟨B, 1, none⟩) hB _).setCell (p := ⟨B, 2, none⟩) hB _).setCell (p := ⟨B, 3, none⟩) hB _).setCell (p := ⟨B, 4, none⟩) hB _).setCell (p := ⟨B, 5, none⟩) hB _).setCell (p := ⟨B, 6, none⟩) hB _).setCell (p := ⟨B, 7, none⟩) hB _
section
variable {H : Nat} {w w' : World} {q : Sb} {Bv Bq : Nat} {at' : Int} {n : Nat} {F : Nat → Ver} {C : Nat} {s : Wr} {f : Nat → Int} {r : Rd} {d : Dw} {s' : Wr} {f' : Nat → Int} {e : Dr} {r' : Rd} {U : Option Addr}
theorem Core.h6 (h : Core H w q Bv Bq at' n F C s f r d s' f' e r' U) : 6 ≤ H := h.sq.lo.2.2.2.2
theorem six_core (h : Core H w q Bv Bq at' n F C s f r d s' f' e r' U) (d2 : Dw) : Core H (sixW w Bv d2) q Bv Bq at' n F C s f r d s' f' e r' U := by
  unfold sixW
  exact (((((h.set h.h6 (.inl rfl) 0 _).set h.h6 (.inl rfl) 1 _).set h.h6 (.inl rfl) 2 _).set h.h6 (.inl rfl) 3 _).set h.h6 (.inl rfl) 4 _).set h.h6 (.inl rfl) 5 _
theorem eight_core (h : Core H w q Bv Bq at' n F C s f r d s' f' e r' U) (d2 : Dr) : Core H (eightW w Bq d2) q Bv Bq at' n F C s f r d s' f' e r' U := by
  unfold eightW
  exact (((((((h.set h.h6 (.inr rfl) 0 _).set h.h6 (.inr rfl) 1 _).set h.h6 (.inr rfl) 2 _).set h.h6 (.inr rfl) 3 _).set h.h6 (.inr rfl) 4 _).set h.h6 (.inr rfl) 5 _).set h.h6 (.inr rfl) 6 _).set h.h6 (.inr rfl) 7 _
end
theorem Rd.step_tr (m : Nat) (f : Nat → Int) (r : Rd) : (r.step m f).tr ≤ r.tr + 1 := by
  unfold Rd.step; split
  · exact Nat.le_succ _
  · split
    · split
      · split
        · exact Nat.le_succ _
        · exact Nat.le_refl _
      · exact Nat.le_succ _
      · exact Nat.le_succ _
    · exact Nat.le_succ _
/-- What holds behind the step of a round. -/
def MidR (H : Nat) (q : Sb) (Bv Bq : Nat) (at' : Int) (n : Nat) (F : Nat → Ver) (w0 : World) (k : Nat) (lv : Value) (wx : World) : Prop :=
  ∃ (s : Wr) (f : Nat → Int) (r : Rd) (d : Dw) (e : Dr) (U : Option Addr) (cu : Nat), lv = .slice U 40 cu ∧ Core H wx q Bv Bq at' n F (k + 2) s f r d s f e r U ∧ Box6 wx Bv d ∧ Box8 wx Bq e ∧ r.tr ≤ k + 1 ∧ Below w0.heap.size w0 wx
end Go.Proofs.YtoaaeamogpdcgaaDoor
