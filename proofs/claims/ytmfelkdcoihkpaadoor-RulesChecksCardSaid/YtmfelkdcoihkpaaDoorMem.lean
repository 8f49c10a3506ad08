/-
  Plans in memory: lists as slices of cells; what keeps them.
-/
import Derived.Test.YtmfelkdcoihkpaaDoorSpec
import Derived.Test.YtmfelkdcoihkpaaDoorWhy
import Derived.Laws.StructEq
import Derived.BigQuiet
import Derived.Deep.QuietTactic
import Derived.IntWalk
namespace Go.Proofs.YtmfelkdcoihkpaaDoor
open Go.RowKit

/-- From address A on n elements of C cells lie, the i-th of which holds F i. -/
def Arr (w : World) (A : Option Addr) (C n : Nat) (F : Nat → List Value) : Prop :=
  ∀ i, i < n → ∃ b o, A = some ⟨b, o, none⟩ ∧ ∀ j u, (F i)[j]? = some u → w.cell? ⟨b, o + i * C + j, none⟩ = some u
theorem Arr.keep {w w' : World} {A : Option Addr} {C n : Nat} {F : Nat → List Value} (h : Arr w A C n F) (hb : Below w.heap.size w w') : Arr w' A C n F := fun i hi => by
  obtain ⟨b, o, e, hc⟩ := h i hi
  exact ⟨b, o, e, fun j u hu => by rw [hb.cell (cell_lt (hc j u hu))]; exact hc j u hu⟩
theorem Arr.at {w : World} {b o C n : Nat} {F : Nat → List Value} (h : Arr w (some ⟨b, o, none⟩) C n F) {i j : Nat} {u : Value} (hi : i < n) (hu : (F i)[j]? = some u) : w.cell? ⟨b, o + i * C + j, none⟩ = some u := by
  obtain ⟨b', o', e, hc⟩ := h i hi
  injection e with e
  injection e with e1 e2
  rw [e1, e2]
  exact hc j u hu
theorem Arr.head {w : World} {A : Option Addr} {C n : Nat} {F : Nat → List Value} (h : Arr w A C n F) {i : Nat} (hi : i < n) : ∃ b o, A = some ⟨b, o, none⟩ := by
  obtain ⟨b, o, e, _⟩ := h i hi
  exact ⟨b, o, e⟩

theorem Arr.lt {w : World} {b o C n : Nat} {F : Nat → List Value} (h : Arr w (some ⟨b, o, none⟩) C n F) (hn : 0 < n) (hF : F 0 ≠ []) : b < w.heap.size := by
  cases hf : F 0 with
  | nil => exact absurd hf hF
  | cons x r =>
    have := h.at (i := 0) (j := 0) (u := x) hn (by rw [hf]; rfl)
    exact cell_lt this
theorem Arr.below {w w' : World} {A : Option Addr} {C n base : Nat} {F : Nat → List Value} (h : Arr w A C n F) (hb : Below base w w') (hA : 0 < n → ∀ b o, A = some ⟨b, o, none⟩ → b < base) : Arr w' A C n F := fun i hi => by
  obtain ⟨b, o, e, hc⟩ := h i hi
  exact ⟨b, o, e, fun j u hu => by rw [hb.cell (hA (by omega) b o e)]; exact hc j u hu⟩

def bV (z : Int) : Value := .int .u8 z
def winV (w : WinA) : List Value := [.int .u16 w.1, .int .u16 w.2.1, .int .u8 w.2.2.1, .int .u8 w.2.2.2]
def semV (s : SemA) : List Value := [.int .u8 s.1, .int .u8 s.2]
def chanV (c : ChanA) : List Value := [.int .u8 c.1, .int .u8 c.2.1, .int .u8 c.2.2.1, .int .u8 c.2.2.2.1, .int .u8 c.2.2.2.2.1, .int .u16 c.2.2.2.2.2]
def slV (p : Option Addr × Nat) (n : Nat) : Value := .slice p.1 n p.2
def partV (q : PartA) (s p : Option Addr × Nat) : List Value := [slV s q.1.length, .int .u8 q.2.1, slV p q.2.2.1.length, .int .u8 q.2.2.2.1, .int .u8 q.2.2.2.2.1, .int .u8 q.2.2.2.2.2]

/-- Windows in memory. -/
def WinsAt (w : World) (A : Option Addr) (ws : List WinA) : Prop := Arr w A 4 ws.length fun i => winV (ws.getD i dW)
def SemsAt (w : World) (A : Option Addr) (ws : List SemA) : Prop := Arr w A 2 ws.length fun i => semV (ws.getD i dS)
def BytesAt (w : World) (A : Option Addr) (ws : List Int) : Prop := Arr w A 1 ws.length fun i => [bV (ws.getD i 0)]
def ChansAt (w : World) (A : Option Addr) (ws : List ChanA) : Prop := Arr w A 6 ws.length fun i => chanV (ws.getD i dC)
def CoresAt (w : World) (A : Option Addr) (cs : List (List WinA)) : Prop :=
  ∃ P : Nat → Option Addr × Nat, Arr w A 1 cs.length (fun i => [slV (P i) (cs.getD i []).length]) ∧ ∀ i, i < cs.length → WinsAt w (P i).1 (cs.getD i []) ∧ (cs.getD i []).length ≤ (P i).2
def PartsAt (w : World) (A : Option Addr) (ps : List PartA) : Prop :=
  ∃ S P : Nat → Option Addr × Nat, Arr w A 6 ps.length (fun i => partV (ps.getD i dQ) (S i) (P i)) ∧ ∀ i, i < ps.length → SemsAt w (S i).1 (ps.getD i dQ).1 ∧ BytesAt w (P i).1 (ps.getD i dQ).2.2.1 ∧ ((P i).1 = none → (P i).2 = 0)
theorem CoresAt.keep {w w' : World} {A : Option Addr} {cs : List (List WinA)} (h : CoresAt w A cs) (hb : Below w.heap.size w w') : CoresAt w' A cs := by
  obtain ⟨P, h1, h2⟩ := h
  exact ⟨P, h1.keep hb, fun i hi => ⟨Arr.keep (h2 i hi).1 hb, (h2 i hi).2⟩⟩
theorem PartsAt.keep {w w' : World} {A : Option Addr} {ps : List PartA} (h : PartsAt w A ps) (hb : Below w.heap.size w w') : PartsAt w' A ps := by
  obtain ⟨S, P, h1, h2⟩ := h
  exact ⟨S, P, h1.keep hb, fun i hi => ⟨Arr.keep (h2 i hi).1 hb, Arr.keep (h2 i hi).2.1 hb, (h2 i hi).2.2⟩⟩

/-- Where a plan's four lists lie, with their capacities. -/
structure PlanL where
  a1 : Option Addr
  c1 : Nat
  a2 : Option Addr
  c2 : Nat
  a3 : Option Addr
  c3 : Nat
  a4 : Option Addr
  c4 : Nat
/-- A plan, as a value. -/
def planV (P : PlanA) (L : PlanL) : Value := .agg #[.int .u16 P.1, .slice L.a1 P.2.1.length L.c1, .slice L.a2 P.2.2.1.length L.c2, .slice L.a3 P.2.2.2.1.length L.c3, .slice L.a4 P.2.2.2.2.length L.c4]
structure PlanAt (w : World) (P : PlanA) (L : PlanL) : Prop where
  cores : CoresAt w L.a1 P.2.1
  parts : PartsAt w L.a2 P.2.2.1
  chans : ChansAt w L.a3 P.2.2.2.1
  pairs : SemsAt w L.a4 P.2.2.2.2
theorem PlanAt.keep {w w' : World} {P : PlanA} {L : PlanL} (h : PlanAt w P L) (hb : Below w.heap.size w w') : PlanAt w' P L :=
  ⟨h.cores.keep hb, h.parts.keep hb, Arr.keep h.chans hb, Arr.keep h.pairs hb⟩


theorem getD_mem {α : Type} {l : List α} {k : Nat} (d : α) (h : k < l.length) : l.getD k d ∈ l := by
  rw [List.getD_eq_getElem?_getD, List.getElem?_eq_getElem h]
  exact List.getElem_mem h

/-- What a call leaves that only makes memory: what was there is as it was. -/
theorem below_two {w w1 w2 : World} (h1 : Below w.heap.size w w1) (h2 : Below w1.heap.size w1 w2) : Below w.heap.size w w2 := h1.trans (h2.mono h1.size)
theorem below_box {w w1 w2 : World} {v : Array Value} {t : Nat} (h1 : Below w.heap.size w w1) (h2 : Below (w1.alloc (.cells v t)).heap.size (w1.alloc (.cells v t)) w2) : Below w.heap.size w w2 :=
  below_two h1 (((Below.refl _ _).alloc (Nat.le_refl _) _).trans (h2.mono (by simp)))

theorem bcell {W w1 : World} (hb : Below W.heap.size W w1) : (∀ b o, b < W.heap.size → w1.cell? ⟨b, o, none⟩ = W.cell? ⟨b, o, none⟩) ∧ (∀ b o, b < W.heap.size → w1.frozen? ⟨b, o, none⟩ = W.frozen? ⟨b, o, none⟩) :=
  ⟨fun b o h => hb.cell (p := ⟨b, o, none⟩) h, fun b o h => hb.frozen (p := ⟨b, o, none⟩) h⟩
theorem kept {w w' : World} {b o : Nat} {v : Value} (h : w.cell? ⟨b, o, none⟩ = some v) (hb : Below w.heap.size w w') : w'.cell? ⟨b, o, none⟩ = some v := by
  rw [hb.cell (p := ⟨b, o, none⟩) (cell_lt h)]; exact h

theorem ret_b {a b : Bool} (h : a = b) : Ending.returned (.bool a) = .returned (.bool b) := by rw [h]
theorem ret_i {a b : Int} (h : a = b) : Ending.returned (.int .i64 a) = .returned (.int .i64 b) := by rw [h]

/-- A window as a value. -/
def wv (v : WinA) : Value := .agg #[.int .u16 v.1, .int .u16 v.2.1, .int .u8 v.2.2.1, .int .u8 v.2.2.2]
end Go.Proofs.YtmfelkdcoihkpaaDoor
