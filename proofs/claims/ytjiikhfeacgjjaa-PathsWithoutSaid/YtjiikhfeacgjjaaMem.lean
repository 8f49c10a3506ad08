/-
  Plans in memory: lists as slices of cells; what keeps them.
-/
import Derived.Test.YtjiikhfeacgjjaaPSpec
import Derived.Test.YtjiikhfeacgjjaaRows
import Derived.WalkKit
import Derived.WalkSpells
import Derived.WalkLawsBesides
import Derived.WalkSmall
import Derived.Below
import Derived.Lib.Hide
import Derived.RegionTactic
import Derived.BigRegion
import Derived.LoopTactic
import Derived.Laws.StructEq
import Derived.BigQuiet
import Derived.Deep.QuietTactic
import Derived.IntWalk
namespace Go.Proofs.Ytjiikhfeacgjjaa
open Go.RowKit

theorem cell_lt {w : World} {a : Addr} {v : Value} (h : w.cell? a = some v) : a.block < w.heap.size := by
  rcases Nat.lt_or_ge a.block w.heap.size with h' | h'
  · exact h'
  · simp [World.cell?, Array.getElem?_eq_none h'] at h

/-- From address A on n elements of C cells lie, the i-th of which holds F i. -/
def Arr (w : World) (A : Option Addr) (C n : Nat) (F : Nat → List Value) : Prop :=
  ∀ i, i < n → ∃ b o, A = some ⟨b, o, none⟩ ∧ ∀ j u, (F i)[j]? = some u → w.cell? ⟨b, o + i * C + j, none⟩ = some u
theorem Arr.keep {w w' : World} {A : Option Addr} {C n : Nat} {F : Nat → List Value} (h : Arr w A C n F) (hb : Below w.heap.size w w') : Arr w' A C n F := fun i hi => by
  obtain ⟨b, o, e, hc⟩ := h i hi
  exact ⟨b, o, e, fun j u hu => by rw [hb.cell (cell_lt (hc j u hu))]; exact hc j u hu⟩
theorem Arr.at {w : World} {b o C n : Nat} {F : Nat → List Value} (h : Arr w (some ⟨b, o, none⟩) C n F) {i j : Nat} {u : Value} (hi : i < n) (hu : (F i)[j]? = some u) : w.cell? ⟨b, o + i * C + j, none⟩ = some u := by
  obtain ⟨b', o', e, hc⟩ := h i hi
  injection e with e
  injection e with e1 e2
  rw [e1, e2]
  exact hc j u hu
theorem Arr.head {w : World} {A : Option Addr} {C n : Nat} {F : Nat → List Value} (h : Arr w A C n F) {i : Nat} (hi : i < n) : ∃ b o, A = some ⟨b, o, none⟩ := by
  obtain ⟨b, o, e, _⟩ := h i hi
  exact ⟨b, o, e⟩

theorem Arr.lt {w : World} {b o C n : Nat} {F : Nat → List Value} (h : Arr w (some ⟨b, o, none⟩) C n F) (hn : 0 < n) (hF : F 0 ≠ []) : b < w.heap.size := by
  cases hf : F 0 with
  | nil => exact absurd hf hF
  | cons x r =>
    have := h.at (i := 0) (j := 0) (u := x) hn (by rw [hf]; rfl)
    exact cell_lt this
theorem Arr.below {w w' : World} {A : Option Addr} {C n base : Nat} {F : Nat → List Value} (h : Arr w A C n F) (hb : Below base w w') (hA : 0 < n → ∀ b o, A = some ⟨b, o, none⟩ → b < base) : Arr w' A C n F := fun i hi => by
  obtain ⟨b, o, e, hc⟩ := h i hi
  exact ⟨b, o, e, fun j u hu => by rw [hb.cell (hA (by omega) b o e)]; exact hc j u hu⟩

def bV (z : Int) : Value := .int .u8 z
def winV (w : WinA) : List Value := [.int .u16 w.1, .int .u16 w.2.1, .int .u8 w.2.2.1, .int .u8 w.2.2.2]
def semV (s : SemA) : List Value := [.int .u8 s.1, .int .u8 s.2]
def chanV (c : ChanA) : List Value := [.int .u8 c.1, .int .u8 c.2.1, .int .u8 c.2.2.1, .int .u8 c.2.2.2.1, .int .u8 c.2.2.2.2.1, .int .u16 c.2.2.2.2.2]
def slV (p : Option Addr × Nat) (n : Nat) : Value := .slice p.1 n p.2
def partV (q : PartA) (s p : Option Addr × Nat) : List Value := [slV s q.1.length, .int .u8 q.2.1, slV p q.2.2.1.length, .int .u8 q.2.2.2.1, .int .u8 q.2.2.2.2.1, .int .u8 q.2.2.2.2.2]

/-- Windows in memory. -/
def WinsAt (w : World) (A : Option Addr) (ws : List WinA) : Prop := Arr w A 4 ws.length fun i => winV (ws.getD i dW)
def SemsAt (w : World) (A : Option Addr) (ws : List SemA) : Prop := Arr w A 2 ws.length fun i => semV (ws.getD i dS)
def BytesAt (w : World) (A : Option Addr) (ws : List Int) : Prop := Arr w A 1 ws.length fun i => [bV (ws.getD i 0)]
def ChansAt (w : World) (A : Option Addr) (ws : List ChanA) : Prop := Arr w A 6 ws.length fun i => chanV (ws.getD i dC)
def CoresAt (w : World) (A : Option Addr) (cs : List (List WinA)) : Prop :=
  ∃ P : Nat → Option Addr × Nat, Arr w A 1 cs.length (fun i => [slV (P i) (cs.getD i []).length]) ∧ ∀ i, i < cs.length → WinsAt w (P i).1 (cs.getD i []) ∧ (cs.getD i []).length ≤ (P i).2
def PartsAt (w : World) (A : Option Addr) (ps : List PartA) : Prop :=
  ∃ S P : Nat → Option Addr × Nat, Arr w A 6 ps.length (fun i => partV (ps.getD i dQ) (S i) (P i)) ∧ ∀ i, i < ps.length → SemsAt w (S i).1 (ps.getD i dQ).1 ∧ BytesAt w (P i).1 (ps.getD i dQ).2.2.1 ∧ ((P i).1 = none → (P i).2 = 0)
theorem CoresAt.keep {w w' : World} {A : Option Addr} {cs : List (List WinA)} (h : CoresAt w A cs) (hb : Below w.heap.size w w') : CoresAt w' A cs := by
  obtain ⟨P, h1, h2⟩ := h
  exact ⟨P, h1.keep hb, fun i hi => ⟨Arr.keep (h2 i hi).1 hb, (h2 i hi).2⟩⟩
theorem PartsAt.keep {w w' : World} {A : Option Addr} {ps : List PartA} (h : PartsAt w A ps) (hb : Below w.heap.size w w') : PartsAt w' A ps := by
  obtain ⟨S, P, h1, h2⟩ := h
  exact ⟨S, P, h1.keep hb, fun i hi => ⟨Arr.keep (h2 i hi).1 hb, Arr.keep (h2 i hi).2.1 hb, (h2 i hi).2.2⟩⟩

/-- Where a plan's four lists lie, with their capacities. -/
structure PlanL where
  a1 : Option Addr
  c1 : Nat
  a2 : Option Addr
  c2 : Nat
  a3 : Option Addr
  c3 : Nat
  a4 : Option Addr
  c4 : Nat
/-- A plan, as a value. -/
def planV (P : PlanA) (L : PlanL) : Value := .agg #[.int .u16 P.1, .slice L.a1 P.2.1.length L.c1, .slice L.a2 P.2.2.1.length L.c2, .slice L.a3 P.2.2.2.1.length L.c3, .slice L.a4 P.2.2.2.2.length L.c4]
structure PlanAt (w : World) (P : PlanA) (L : PlanL) : Prop where
  cores : CoresAt w L.a1 P.2.1
  parts : PartsAt w L.a2 P.2.2.1
  chans : ChansAt w L.a3 P.2.2.2.1
  pairs : SemsAt w L.a4 P.2.2.2.2
theorem PlanAt.keep {w w' : World} {P : PlanA} {L : PlanL} (h : PlanAt w P L) (hb : Below w.heap.size w w') : PlanAt w' P L :=
  ⟨h.cores.keep hb, h.parts.keep hb, Arr.keep h.chans hb, Arr.keep h.pairs hb⟩


theorem getD_mem {α : Type} {l : List α} {k : Nat} (d : α) (h : k < l.length) : l.getD k d ∈ l := by
  rw [List.getD_eq_getElem?_getD, List.getElem?_eq_getElem h]
  exact List.getElem_mem h

/-- What a call leaves that only makes memory: what was there is as it was. -/
theorem below_two {w w1 w2 : World} (h1 : Below w.heap.size w w1) (h2 : Below w1.heap.size w1 w2) : Below w.heap.size w w2 := h1.trans (h2.mono h1.size)
theorem below_box {w w1 w2 : World} {v : Array Value} {t : Nat} (h1 : Below w.heap.size w w1) (h2 : Below (w1.alloc (.cells v t)).heap.size (w1.alloc (.cells v t)) w2) : Below w.heap.size w w2 :=
  below_two h1 (((Below.refl _ _).alloc (Nat.le_refl _) _).trans (h2.mono (by simp)))

theorem bcell {W w1 : World} (hb : Below W.heap.size W w1) : (∀ b o, b < W.heap.size → w1.cell? ⟨b, o, none⟩ = W.cell? ⟨b, o, none⟩) ∧ (∀ b o, b < W.heap.size → w1.frozen? ⟨b, o, none⟩ = W.frozen? ⟨b, o, none⟩) :=
  ⟨fun b o h => hb.cell (p := ⟨b, o, none⟩) h, fun b o h => hb.frozen (p := ⟨b, o, none⟩) h⟩
theorem kept {w w' : World} {b o : Nat} {v : Value} (h : w.cell? ⟨b, o, none⟩ = some v) (hb : Below w.heap.size w w') : w'.cell? ⟨b, o, none⟩ = some v := by
  rw [hb.cell (p := ⟨b, o, none⟩) (cell_lt h)]; exact h

theorem ret_b {a b : Bool} (h : a = b) : Ending.returned (.bool a) = .returned (.bool b) := by rw [h]
theorem ret_i {a b : Int} (h : a = b) : Ending.returned (.int .i64 a) = .returned (.int .i64 b) := by rw [h]

/-- A window as a value. -/
def wv (v : WinA) : Value := .agg #[.int .u16 v.1, .int .u16 v.2.1, .int .u8 v.2.2.1, .int .u8 v.2.2.2]
/-- A window in a block of its own. -/
def WB (W : World) (b : Nat) (v : WinA) : Prop :=
  W.cell? ⟨b, 0, none⟩ = some (.int .u16 v.1) ∧ W.cell? ⟨b, 1, none⟩ = some (.int .u16 v.2.1) ∧ W.cell? ⟨b, 2, none⟩ = some (.int .u8 v.2.2.1) ∧ W.cell? ⟨b, 3, none⟩ = some (.int .u8 v.2.2.2)
theorem WB.keep {W W' : World} {b : Nat} {v : WinA} (h : WB W b v) (hB : Below W.heap.size W W') : WB W' b v :=
  ⟨kept h.1 hB, kept h.2.1 hB, kept h.2.2.1 hB, kept h.2.2.2 hB⟩
theorem WB.new (W : World) (a b c d : Int) : WB (W.alloc (.cells #[.int .u16 a, .int .u16 b, .int .u8 c, .int .u8 d] 75)) W.heap.size (a, b, c, d) := ⟨by simp, by simp, by simp, by simp⟩
theorem WB.alloc {W : World} {b : Nat} {v : WinA} (h : WB W b v) (o : Obj) : WB (W.alloc o) b v := h.keep ((Below.refl _ _).alloc (Nat.le_refl _) _)
/-- A plan in a block of its own. -/
def PB (W : World) (b : Nat) (P : PlanA) (L : PlanL) : Prop :=
  W.cell? ⟨b, 0, none⟩ = some (.int .u16 P.1) ∧ W.cell? ⟨b, 1, none⟩ = some (.slice L.a1 P.2.1.length L.c1) ∧ W.cell? ⟨b, 2, none⟩ = some (.slice L.a2 P.2.2.1.length L.c2) ∧ W.cell? ⟨b, 3, none⟩ = some (.slice L.a3 P.2.2.2.1.length L.c3) ∧ W.cell? ⟨b, 4, none⟩ = some (.slice L.a4 P.2.2.2.2.length L.c4)
theorem PB.keep {W W' : World} {b : Nat} {P : PlanA} {L : PlanL} (h : PB W b P L) (hB : Below W.heap.size W W') : PB W' b P L :=
  ⟨kept h.1 hB, kept h.2.1 hB, kept h.2.2.1 hB, kept h.2.2.2.1 hB, kept h.2.2.2.2 hB⟩
theorem PB.new (W : World) (fr : Int) (cs : List (List WinA)) (ps : List PartA) (hs : List ChanA) (rs : List PairA) (A1 : Option Addr) (c1 : Nat) (A2 : Option Addr) (c2 : Nat) (A3 : Option Addr) (c3 : Nat) (A4 : Option Addr) (c4 : Nat) :
    PB (W.alloc (.cells #[.int .u16 fr, .slice A1 cs.length c1, .slice A2 ps.length c2, .slice A3 hs.length c3, .slice A4 rs.length c4] 28)) W.heap.size (fr, cs, ps, hs, rs) ⟨A1, c1, A2, c2, A3, c3, A4, c4⟩ := ⟨by simp, by simp, by simp, by simp, by simp⟩
theorem PB.alloc {W : World} {b : Nat} {P : PlanA} {L : PlanL} (h : PB W b P L) (o : Obj) : PB (W.alloc o) b P L := h.keep ((Below.refl _ _).alloc (Nat.le_refl _) _)
/-- A partition as a value. -/
def pv (q : PartA) (S Q : Option Addr × Nat) : Value := .agg #[slV S q.1.length, .int .u8 q.2.1, slV Q q.2.2.1.length, .int .u8 q.2.2.2.1, .int .u8 q.2.2.2.2.1, .int .u8 q.2.2.2.2.2]
/-- A partition's six cells. -/
def QB (W : World) (b : Nat) (S : Option Addr × Nat) (n : Nat) (ev : Int) (Q : Option Addr × Nat) (m : Nat) (a0 a1 a2 : Int) : Prop :=
  W.cell? ⟨b, 0, none⟩ = some (.slice S.1 n S.2) ∧ W.cell? ⟨b, 1, none⟩ = some (.int .u8 ev) ∧ W.cell? ⟨b, 2, none⟩ = some (.slice Q.1 m Q.2) ∧ W.cell? ⟨b, 3, none⟩ = some (.int .u8 a0) ∧ W.cell? ⟨b, 4, none⟩ = some (.int .u8 a1) ∧ W.cell? ⟨b, 5, none⟩ = some (.int .u8 a2)
theorem QB.keep {W W' : World} {b : Nat} {S : Option Addr × Nat} {n : Nat} {ev : Int} {Q : Option Addr × Nat} {m : Nat} {a0 a1 a2 : Int} (h : QB W b S n ev Q m a0 a1 a2) (hB : Below W.heap.size W W') : QB W' b S n ev Q m a0 a1 a2 :=
  ⟨kept h.1 hB, kept h.2.1 hB, kept h.2.2.1 hB, kept h.2.2.2.1 hB, kept h.2.2.2.2.1 hB, kept h.2.2.2.2.2 hB⟩
theorem QB.new (W : World) (S : Option Addr × Nat) (n : Nat) (ev : Int) (Q : Option Addr × Nat) (m : Nat) (a0 a1 a2 : Int) :
    QB (W.alloc (.cells #[.slice S.1 n S.2, .int .u8 ev, .slice Q.1 m Q.2, .int .u8 a0, .int .u8 a1, .int .u8 a2] 60)) W.heap.size S n ev Q m a0 a1 a2 := ⟨by simp, by simp, by simp, by simp, by simp, by simp⟩
/-- A channel as a value. -/
def cv (c : ChanA) : Value := .agg #[.int .u8 c.1, .int .u8 c.2.1, .int .u8 c.2.2.1, .int .u8 c.2.2.2.1, .int .u8 c.2.2.2.2.1, .int .u16 c.2.2.2.2.2]
/-- A semaphore as a value. -/
def sv (v : SemA) : Value := .agg #[.int .u8 v.1, .int .u8 v.2]
theorem any_at {α : Type} {l : List α} {p : α → Bool} {k : Nat} (d : α) (hk : k < l.length) (h : p (l.getD k d) = true) : l.any p = true := List.any_eq_true.2 ⟨_, getD_mem d hk, h⟩
theorem any_none {α : Type} {l : List α} {p : α → Bool} (d : α) (h : ∀ j, j < l.length → p (l.getD j d) = false) : l.any p = false := by
  rw [List.any_eq_false]
  intro x hx
  obtain ⟨j, hj, rfl⟩ := List.getElem_of_mem hx
  have := h j hj
  rw [List.getD_eq_getElem?_getD, List.getElem?_eq_getElem hj] at this
  simpa using this
theorem mem_at {α : Type} {l : List α} {x : α} (d : α) (h : x ∈ l) : ∃ j, j < l.length ∧ x = l.getD j d := by
  obtain ⟨j, hj, rfl⟩ := List.getElem_of_mem h
  exact ⟨j, hj, by rw [List.getD_eq_getElem?_getD, List.getElem?_eq_getElem hj]; rfl⟩
theorem split_at {α : Type} (d : α) {l : List α} {k : Nat} (h : k < l.length) : l = l.take k ++ l.getD k d :: l.drop (k + 1) := by
  have h1 := List.take_append_drop k l
  rw [List.drop_eq_getElem_cons h] at h1
  rw [List.getD_eq_getElem?_getD, List.getElem?_eq_getElem h]
  exact h1.symm
theorem take_getD {α : Type} (d : α) {l : List α} {k j : Nat} (h : j < k) : (l.take k).getD j d = l.getD j d := by
  simp only [List.getD_eq_getElem?_getD, List.getElem?_take]
  rw [if_pos h]
theorem drop_getD {α : Type} (d : α) (l : List α) (k j : Nat) : (l.drop k).getD j d = l.getD (k + j) d := by
  simp only [List.getD_eq_getElem?_getD, List.getElem?_drop]
theorem WinsAt.take {w : World} {A : Option Addr} {ws : List WinA} (h : WinsAt w A ws) (i : Nat) : WinsAt w A (ws.take i) := by
  intro j hj
  rw [List.length_take] at hj
  obtain ⟨b, o, e, hc⟩ := h j (by omega)
  refine ⟨b, o, e, fun k u hu => hc k u ?_⟩
  have : (ws.take i).getD j dW = ws.getD j dW := by
    simp only [List.getD_eq_getElem?_getD, List.getElem?_take]
    rw [if_pos (by omega)]
  dsimp only at hu ⊢
  rw [this] at hu
  exact hu
/-- A plan that may lie in memory. -/
structure POk (P : PlanA) (L : PlanL) : Prop where
  wf : WfPlan P
  l1 : P.2.1.length ≤ 140737488355328
  l2 : P.2.2.1.length ≤ 140737488355328
  l3 : P.2.2.2.1.length ≤ 140737488355328
  l4 : P.2.2.2.2.length ≤ 140737488355328
  li : ∀ ws ∈ P.2.1, ws.length ≤ 140737488355328
  lp : ∀ q ∈ P.2.2.1, q.1.length ≤ 140737488355328 ∧ q.2.2.1.length ≤ 140737488355328
  k1 : P.2.1.length ≤ L.c1
  k4 : P.2.2.2.2.length ≤ L.c4
/-- The function has a body, and is entered. -/
def Enters (K : FuncId) : Prop := ∀ (args : Array Value) (w : World), (callFunc K args).run Try.prog w = .ok (.enter K args) w
theorem enters_of {f : FuncId} {fn : Func} {c : Code} (hf : Try.prog.funcs[f]? = some fn) (hname : (fn.name == "runtime.NumGoroutine") = false) (hb : fn.body = some c) : Enters f := fun args w => by
  have h1 : fn.name ≠ "runtime.NumGoroutine" := by simpa using hname
  simp [callFunc, hf, h1, hb]
end Go.Proofs.Ytjiikhfeacgjjaa
