/-
  A memory and the given one beside each other.
-/
import Derived.Test.YtdicmalfnfpmmaaDoorUses
namespace Go.Proofs.YtdicmalfnfpmmaaDoor
open Go.RowKit

theorem UsesAt.cell {w : World} {b o : Nat} {l : List UseA} (h : UsesAt w (some ⟨b, o, none⟩) l) {k : Nat} (hk : k < l.length) {y : UseA} (hy : y = l.getD k dX) :
    w.cell? ⟨b, o + k * 4, none⟩ = some (.int .i64 y.1) ∧ w.cell? ⟨b, o + k * 4 + 1, none⟩ = some (.int .i64 y.2.1) ∧ w.cell? ⟨b, o + k * 4 + 2, none⟩ = some (.int .u32 y.2.2.1) ∧ w.cell? ⟨b, o + k * 4 + 3, none⟩ = some (.int .u32 y.2.2.2) := by
  subst hy
  exact ⟨Arr.at (j := 0) h hk rfl, Arr.at (j := 1) h hk rfl, Arr.at (j := 2) h hk rfl, Arr.at (j := 3) h hk rfl⟩
theorem UsesAt.wide {w w' : World} {A : Option Addr} {l : List UseA} (h : UsesAt w A l) (hB : Below w.heap.size w w') : UsesAt w' A l := Arr.keep h hB
/-- A use in a block of its own. -/
structure XB (w : World) (s : Nat) (K at' old v : Int) : Prop where
  c0 : w.cell? ⟨s, 0, none⟩ = some (.int .i64 K)
  c1 : w.cell? ⟨s, 1, none⟩ = some (.int .i64 at')
  c2 : w.cell? ⟨s, 2, none⟩ = some (.int .u32 old)
  c3 : w.cell? ⟨s, 3, none⟩ = some (.int .u32 v)
theorem XB.new (w : World) (K at' old v : Int) : XB (w.alloc (.cells #[.int .i64 K, .int .i64 at', .int .u32 old, .int .u32 v] 35)) w.heap.size K at' old v := ⟨by simp, by simp, by simp, by simp⟩
theorem XB.lt {w : World} {s : Nat} {K at' old v : Int} (h : XB w s K at' old v) : s < w.heap.size := cell_lt h.c0
theorem XB.same {w w' : World} {s : Nat} {K at' old v : Int} (h : XB w s K at' old v) (e : w'.heap[s]? = w.heap[s]?) : XB w' s K at' old v :=
  ⟨by rw [World.cell?_of_block (w := w) e]; exact h.c0, by rw [World.cell?_of_block (w := w) e]; exact h.c1, by rw [World.cell?_of_block (w := w) e]; exact h.c2, by rw [World.cell?_of_block (w := w) e]; exact h.c3⟩
theorem XB.keep {w w' : World} {s : Nat} {K at' old v : Int} (h : XB w s K at' old v) (hB : Below w.heap.size w w') : XB w' s K at' old v := h.same (hB.block _ h.lt)
theorem XB.else {g b : Nat} {w w' : World} {s : Nat} {K at' old v : Int} (h : XB w s K at' old v) (hE : Else g b w w') (h1 : s ≠ g) (h2 : s ≠ b) : XB w' s K at' old v := h.same (hE.block _ h.lt h1 h2)
/-- The given memory in a block of its own. -/
structure KB (w : World) (s : Nat) (A : Option Addr) (n d : Nat) (c : Int) : Prop where
  c0 : w.cell? ⟨s, 0, none⟩ = some (.slice A n d)
  c1 : w.cell? ⟨s, 1, none⟩ = some (.int .i64 c)
  fz : ∀ j, w.frozen? ⟨s, j, none⟩ = false
theorem KB.lt {w : World} {s : Nat} {A : Option Addr} {n d : Nat} {c : Int} (h : KB w s A n d c) : s < w.heap.size := cell_lt h.c0
theorem KB.same {w w' : World} {s : Nat} {A : Option Addr} {n d : Nat} {c : Int} (h : KB w s A n d c) (e : w'.heap[s]? = w.heap[s]?) : KB w' s A n d c :=
  ⟨by rw [World.cell?_of_block (w := w) e]; exact h.c0, by rw [World.cell?_of_block (w := w) e]; exact h.c1, fun j => by rw [World.frozen?_of_block (w := w) e]; exact h.fz j⟩
theorem KB.keep {w w' : World} {s : Nat} {A : Option Addr} {n d : Nat} {c : Int} (h : KB w s A n d c) (hB : Below w.heap.size w w') : KB w' s A n d c := h.same (hB.block _ h.lt)
theorem KB.set {w : World} {s : Nat} {A A' : Option Addr} {n d d' : Nat} {c c' : Int} (h : KB w s A n d c) : KB ((w.setCell ⟨s, 0, none⟩ (.slice A' n d')).setCell ⟨s, 1, none⟩ (.int .i64 c')) s A' n d' c' := by
  have a0 : (w.setCell ⟨s, 0, none⟩ (.slice A' n d')).cell? ⟨s, 0, none⟩ = some (.slice A' n d') := World.cell?_setCell_same _ _ _ h.c0
  have a1 : (w.setCell ⟨s, 0, none⟩ (.slice A' n d')).cell? ⟨s, 1, none⟩ = some (.int .i64 c) := by rw [World.cell?_setCell_other _ _ _ _ (by simp)]; exact h.c1
  exact ⟨by rw [World.cell?_setCell_other _ _ _ _ (by simp)]; exact a0, World.cell?_setCell_same _ _ _ a1, fun j => by rw [World.frozen?_setCell, World.frozen?_setCell]; exact h.fz j⟩
theorem KB.new (w : World) (A : Option Addr) (n d : Nat) (c : Int) : KB (w.alloc (.cells #[.slice A n d, .int .i64 c] 29)) w.heap.size A n d c :=
  ⟨by simp, by simp, fun j => frozen_new _ _ _ _⟩
/-- The words lie in none of these blocks. -/
def Dis (A : Option Addr) (n g b s : Nat) : Prop := ∀ b' o', A = some ⟨b', o', none⟩ → 0 < n → b' ≠ g ∧ b' ≠ b ∧ b' ≠ s
theorem Us.lt {w : World} {b o n : Nat} {f : Nat → Int} (h : Us w (some ⟨b, o, none⟩) n f) (hn : 0 < n) : b < w.heap.size := cell_lt (h.cell hn)
theorem Us.else {g b : Nat} {w w' : World} {A : Option Addr} {n s : Nat} {f : Nat → Int} (h : Us w A n f) (hE : Else g b w w') (hd : Dis A n g b s) : Us w' A n f := fun i hi => by
  obtain ⟨b', o', e, hc⟩ := h i hi
  obtain ⟨h1, h2, _⟩ := hd _ _ e (by omega)
  exact ⟨b', o', e, hE.cell hc h1 h2⟩
theorem KB.else {g b : Nat} {w w' : World} {A : Option Addr} {n d s : Nat} {c : Int} (h : KB w s A n d c) (hE : Else g b w w') (h1 : s ≠ g) (h2 : s ≠ b) : KB w' s A n d c := h.same (hE.block _ h.lt h1 h2)
/-- Both memories, beside each other, behind j uses at most. -/
structure PX (W : World) (g b s n : Nat) (j : Int) (f : Nat → Int) (c : Int) (A : Option Addr) (d : Nat) (w : World) : Prop where
  c0 : 0 ≤ c
  cj : c ≤ j
  st : St W.heap.size W g b n f c w
  wf : WfF n f
  us : Us w A n f
  kb : KB w s A n d c
  dis : Dis A n g b s
  sg : s ≠ g
  sb : s ≠ b
  sW : W.heap.size ≤ s
theorem PX.keep {W : World} {g b s n : Nat} {j : Int} {f : Nat → Int} {c : Int} {A : Option Addr} {d : Nat} {w w' : World} (h : PX W g b s n j f c A d w) (hB : Below w.heap.size w w') : PX W g b s n j f c A d w' :=
  ⟨h.c0, h.cj, h.st.keep hB, h.wf, h.us.keep hB, h.kb.keep hB, h.dis, h.sg, h.sb, h.sW⟩
theorem PX.mono {W : World} {g b s n : Nat} {j j' : Int} {f : Nat → Int} {c : Int} {A : Option Addr} {d : Nat} {w : World} (h : PX W g b s n j f c A d w) (hj : j ≤ j') : PX W g b s n j' f c A d w :=
  ⟨h.c0, Int.le_trans h.cj hj, h.st, h.wf, h.us, h.kb, h.dis, h.sg, h.sb, h.sW⟩
theorem stepC_rng {n : Nat} {at' c j : Int} (h0 : 0 ≤ c) (hj : c ≤ j) : 0 ≤ stepC n at' c ∧ stepC n at' c ≤ j + 1 := by
  unfold stepC
  split <;> omega
/-- Behind a use of the memory, and of the given one. -/
structure PY (W : World) (g b s n : Nat) (j : Int) (f f' : Nat → Int) (c c' : Int) (A : Option Addr) (d : Nat) (w : World) : Prop where
  c0 : 0 ≤ c'
  cj : c' ≤ j + 1
  st : St W.heap.size W g b n f' c' w
  wf : WfF n f'
  us : Us w A n f
  kb : KB w s A n d c
  dis : Dis A n g b s
  sg : s ≠ g
  sb : s ≠ b
  sW : W.heap.size ≤ s
theorem PX.does {W : World} {g b s n : Nat} {j : Int} {f : Nat → Int} {c : Int} {A : Option Addr} {d : Nat} {w w' : World} {K : Nat} {at' old v : Int} (h : PX W g b s n j f c A d w) (hM : MemAt w' g b n (stepF K at' old v n f) (stepC n at' c)) (hE : Else g b w w') (hv : 0 ≤ v ∧ v < 4294967296) :
    PY W g b s n j f (stepF K at' old v n f) c (stepC n at' c) A d w' :=
  ⟨(stepC_rng h.c0 h.cj).1, (stepC_rng h.c0 h.cj).2, h.st.step hM hE, step_wf h.wf hv, h.us.else hE h.dis, h.kb.else hE h.sg h.sb, h.dis, h.sg, h.sb, h.sW⟩
theorem PY.right {W : World} {g b s n : Nat} {j : Int} {f f' : Nat → Int} {c c' : Int} {A A' : Option Addr} {d d' : Nat} {w w' : World} (h : PY W g b s n j f f' c c' A d w) (hB : Below w.heap.size w w') (hU : Us w' A' n f') (hA : A' = A ∨ ∀ x, A' = some x → w.heap.size ≤ x.block) :
    PX W g b s n (j + 1) f' c' A' d' ((w'.setCell ⟨s, 0, none⟩ (.slice A' n d')).setCell ⟨s, 1, none⟩ (.int .i64 c')) := by
  have hs := h.kb.lt
  have hg := h.st.mem.ltg
  have hb := h.st.mem.row.lt
  have hd : Dis A' n g b s := fun b' o' e hn => by
    rcases hA with rfl | hA
    · exact h.dis _ _ e hn
    · have := hA _ e
      simp at this
      omega
  have hst := h.st.keep hB
  have e1 : Below W.heap.size W ((w'.setCell ⟨s, 0, none⟩ (.slice A' n d')).setCell ⟨s, 1, none⟩ (.int .i64 c')) := (hst.bel.setCell h.sW _).setCell h.sW _
  have eq : ∀ k, k ≠ s → ((w'.setCell ⟨s, 0, none⟩ (.slice A' n d')).setCell ⟨s, 1, none⟩ (.int .i64 c')).heap[k]? = w'.heap[k]? := fun k hk => by
    rw [Below.heap_setCell _ _ _ _ hk, Below.heap_setCell _ _ _ _ hk]
  have hst2 : St W.heap.size W g b n f' c' ((w'.setCell ⟨s, 0, none⟩ (.slice A' n d')).setCell ⟨s, 1, none⟩ (.int .i64 c')) :=
    ⟨hst.mem.same (eq _ (fun e => h.sg e.symm)) (eq _ (fun e => h.sb e.symm)), e1, hst.b6, hst.gB, hst.bB, by simpa using hst.hB, fun K hK => (hst.gok K hK).same (eq _ (by
      have h5 : gK K ≤ 5 := by
        match K, hK with
        | 0, _ => decide
        | 1, _ => decide
        | 2, _ => decide
        | 3, _ => decide
        | 4, _ => decide
        | 5, _ => decide
      have := h.sW
      have := hst.b6
      omega))⟩
  have hus : Us ((w'.setCell ⟨s, 0, none⟩ (.slice A' n d')).setCell ⟨s, 1, none⟩ (.int .i64 c')) A' n f' :=
    (hU.far (fun b' o' e hn => fun e' => (hd b' o' e hn).2.2 e'.symm) _).far (fun b' o' e hn => fun e' => (hd b' o' e hn).2.2 e'.symm) _
  have hkb := (h.kb.keep hB).set (A' := A') (d' := d') (c' := c')
  exact ⟨h.c0, h.cj, hst2, h.wf, hus, hkb, hd, h.sg, h.sb, h.sW⟩
end Go.Proofs.YtdicmalfnfpmmaaDoor
