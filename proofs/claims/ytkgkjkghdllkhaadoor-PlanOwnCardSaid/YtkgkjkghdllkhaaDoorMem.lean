/-
  Plans in memory: lists as slices of cells; what keeps them. Bytes that are put behind bytes of the call's own.
-/
import Derived.Test.YtkgkjkghdllkhaaDoorSpec
import Derived.Test.YtkgkjkghdllkhaaDoorTwo
namespace Go.Proofs.YtkgkjkghdllkhaaDoor
open Go.RowKit

/-- From address A on n elements of C cells lie, the i-th of which holds F i. -/
def Arr (w : World) (A : Option Addr) (C n : Nat) (F : Nat → List Value) : Prop :=
  ∀ i, i < n → ∃ b o, A = some ⟨b, o, none⟩ ∧ ∀ j u, (F i)[j]? = some u → w.cell? ⟨b, o + i * C + j, none⟩ = some u
theorem Arr.keep {w w' : World} {A : Option Addr} {C n : Nat} {F : Nat → List Value} (h : Arr w A C n F) (hb : Below w.heap.size w w') : Arr w' A C n F := fun i hi => by
  obtain ⟨b, o, e, hc⟩ := h i hi
  exact ⟨b, o, e, fun j u hu => by rw [hb.cell (cell_lt' (hc j u hu))]; exact hc j u hu⟩
theorem Arr.at {w : World} {b o C n : Nat} {F : Nat → List Value} (h : Arr w (some ⟨b, o, none⟩) C n F) {i j : Nat} {u : Value} (hi : i < n) (hu : (F i)[j]? = some u) : w.cell? ⟨b, o + i * C + j, none⟩ = some u := by
  obtain ⟨b', o', e, hc⟩ := h i hi
  injection e with e
  injection e with e1 e2
  rw [e1, e2]
  exact hc j u hu
theorem Arr.head {w : World} {A : Option Addr} {C n : Nat} {F : Nat → List Value} (h : Arr w A C n F) {i : Nat} (hi : i < n) : ∃ b o, A = some ⟨b, o, none⟩ := by
  obtain ⟨b, o, e, _⟩ := h i hi
  exact ⟨b, o, e⟩

theorem Arr.lt {w : World} {b o C n : Nat} {F : Nat → List Value} (h : Arr w (some ⟨b, o, none⟩) C n F) (hn : 0 < n) (hF : F 0 ≠ []) : b < w.heap.size := by
  cases hf : F 0 with
  | nil => exact absurd hf hF
  | cons x r =>
    have := h.at (i := 0) (j := 0) (u := x) hn (by rw [hf]; rfl)
    exact cell_lt' this
theorem Arr.below {w w' : World} {A : Option Addr} {C n base : Nat} {F : Nat → List Value} (h : Arr w A C n F) (hb : Below base w w') (hA : 0 < n → ∀ b o, A = some ⟨b, o, none⟩ → b < base) : Arr w' A C n F := fun i hi => by
  obtain ⟨b, o, e, hc⟩ := h i hi
  exact ⟨b, o, e, fun j u hu => by rw [hb.cell (hA (by omega) b o e)]; exact hc j u hu⟩

def bV (z : Int) : Value := .int .u8 z
def winV (w : WinA) : List Value := [.int .u16 w.1, .int .u16 w.2.1, .int .u8 w.2.2.1, .int .u8 w.2.2.2]
def semV (s : SemA) : List Value := [.int .u8 s.1, .int .u8 s.2]
def chanV (c : ChanA) : List Value := [.int .u8 c.1, .int .u8 c.2.1, .int .u8 c.2.2.1, .int .u8 c.2.2.2.1, .int .u8 c.2.2.2.2.1, .int .u16 c.2.2.2.2.2]
def slV (p : Option Addr × Nat) (n : Nat) : Value := .slice p.1 n p.2
def partV (q : PartA) (s p : Option Addr × Nat) : List Value := [slV s q.1.length, .int .u8 q.2.1, slV p q.2.2.1.length, .int .u8 q.2.2.2.1, .int .u8 q.2.2.2.2.1, .int .u8 q.2.2.2.2.2]

def dW : WinA := (0, 0, 0, 0)
def dS : SemA := (0, 0)
def dC : ChanA := (0, 0, 0, 0, 0, 0)
def dQ : PartA := ([], 0, [], 0, 0, 0)
/-- Windows in memory. -/
def WinsAt (w : World) (A : Option Addr) (ws : List WinA) : Prop := Arr w A 4 ws.length fun i => winV (ws.getD i dW)
def SemsAt (w : World) (A : Option Addr) (ws : List SemA) : Prop := Arr w A 2 ws.length fun i => semV (ws.getD i dS)
def BytesAt (w : World) (A : Option Addr) (ws : List Int) : Prop := Arr w A 1 ws.length fun i => [bV (ws.getD i 0)]
def ChansAt (w : World) (A : Option Addr) (ws : List ChanA) : Prop := Arr w A 6 ws.length fun i => chanV (ws.getD i dC)
def CoresAt (w : World) (A : Option Addr) (cs : List (List WinA)) : Prop :=
  ∃ P : Nat → Option Addr × Nat, Arr w A 1 cs.length (fun i => [slV (P i) (cs.getD i []).length]) ∧ ∀ i, i < cs.length → WinsAt w (P i).1 (cs.getD i [])
def PartsAt (w : World) (A : Option Addr) (ps : List PartA) : Prop :=
  ∃ S P : Nat → Option Addr × Nat, Arr w A 6 ps.length (fun i => partV (ps.getD i dQ) (S i) (P i)) ∧ ∀ i, i < ps.length → SemsAt w (S i).1 (ps.getD i dQ).1 ∧ BytesAt w (P i).1 (ps.getD i dQ).2.2.1 ∧ ((P i).1 = none → (P i).2 = 0)
theorem CoresAt.keep {w w' : World} {A : Option Addr} {cs : List (List WinA)} (h : CoresAt w A cs) (hb : Below w.heap.size w w') : CoresAt w' A cs := by
  obtain ⟨P, h1, h2⟩ := h
  exact ⟨P, h1.keep hb, fun i hi => Arr.keep (h2 i hi) hb⟩
theorem PartsAt.keep {w w' : World} {A : Option Addr} {ps : List PartA} (h : PartsAt w A ps) (hb : Below w.heap.size w w') : PartsAt w' A ps := by
  obtain ⟨S, P, h1, h2⟩ := h
  exact ⟨S, P, h1.keep hb, fun i hi => ⟨Arr.keep (h2 i hi).1 hb, Arr.keep (h2 i hi).2.1 hb, (h2 i hi).2.2⟩⟩

/-- Where a plan's four lists lie, with their capacities. -/
structure PlanL where
  a1 : Option Addr
  c1 : Nat
  a2 : Option Addr
  c2 : Nat
  a3 : Option Addr
  c3 : Nat
  a4 : Option Addr
  c4 : Nat
/-- A plan, as a value. -/
def planV (P : PlanA) (L : PlanL) : Value := .agg #[.int .u16 P.1, .slice L.a1 P.2.1.length L.c1, .slice L.a2 P.2.2.1.length L.c2, .slice L.a3 P.2.2.2.1.length L.c3, .slice L.a4 P.2.2.2.2.length L.c4]
structure PlanAt (w : World) (P : PlanA) (L : PlanL) : Prop where
  cores : CoresAt w L.a1 P.2.1
  parts : PartsAt w L.a2 P.2.2.1
  chans : ChansAt w L.a3 P.2.2.2.1
  pairs : SemsAt w L.a4 P.2.2.2.2
theorem PlanAt.keep {w w' : World} {P : PlanA} {L : PlanL} (h : PlanAt w P L) (hb : Below w.heap.size w w') : PlanAt w' P L :=
  ⟨h.cores.keep hb, h.parts.keep hb, Arr.keep h.chans hb, Arr.keep h.pairs hb⟩

theorem take_succ_flat {α β : Type} (e : α → List β) (l : List α) (k : Nat) (d : α) (h : k < l.length) : (l.take (k + 1)).flatMap e = (l.take k).flatMap e ++ e (l.getD k d) := by
  rw [List.take_succ_eq_append_getElem h, List.flatMap_append, List.getD_eq_getElem?_getD, List.getElem?_eq_getElem h]
  simp
theorem getD_mem {α : Type} {l : List α} {k : Nat} (d : α) (h : k < l.length) : l.getD k d ∈ l := by
  rw [List.getD_eq_getElem?_getD, List.getElem?_eq_getElem h]
  exact List.getElem_mem h
theorem flat_le {α β : Type} (e : α → List β) (l : List α) (k : Nat) : ((l.take k).flatMap e).length ≤ (l.flatMap e).length := by
  have : l.flatMap e = (l.take k).flatMap e ++ (l.drop k).flatMap e := by rw [← List.flatMap_append, List.take_append_drop]
  rw [this, List.length_append]
  omega
theorem mem_flat_le {α β : Type} (e : α → List β) {l : List α} {x : α} (h : x ∈ l) : (e x).length ≤ (l.flatMap e).length := by
  obtain ⟨a, b, rfl⟩ := List.append_of_mem h
  simp
  omega

theorem flat_len {α β : Type} (e : α → List β) (c : Nat) (h : ∀ x, (e x).length = c) (l : List α) : (l.flatMap e).length = c * l.length := by
  induction l with
  | nil => rfl
  | cons x r ih => rw [List.flatMap_cons, List.length_append, h, ih, List.length_cons, Nat.mul_add]; omega

/-- Bytes of the call's own, from block base on. -/
def Own (w : World) (base : Nat) (v : Value) (l : List Int) : Prop := w.ownsRow base 5 1 v l.length (l.map bV)
theorem Own.ne {w : World} {base g t : Nat} {v : Value} {l : List Int} {cs : Array Value} {fr : Nat × Nat} (h : Own w base v l) (hg : w.heap[g]? = some (.cells cs t fr)) (ht : t ≠ 5) : some g ≠ v.ownBlock := by
  intro e
  rcases h.2 with ⟨rfl, _⟩ | ⟨g', cap, cur, rfl, _, hh, _⟩
  · cases e
  · injection e with e
    subst e
    rw [hg] at hh
    injection hh with hh
    injection hh with _ h2
    exact ht h2
theorem Own.lo {w : World} {base : Nat} {v : Value} {l : List Int} (h : Own w base v l) : ∀ k, v.ownBlock = some k → base ≤ k := fun k hk => (World.ownsRow.lt h k hk).1
theorem bV_one (l : List Int) : ∀ u ∈ l.map bV, u.oneCell' = true := by
  intro u hu
  obtain ⟨z, _, rfl⟩ := List.mem_map.1 hu
  rfl
theorem Own.alloc {w : World} {base : Nat} {v : Value} {l : List Int} (h : Own w base v l) (o : Obj) : Own (w.alloc o) base v l := World.ownsRow.alloc h o
theorem Own.keep {w w' : World} {base : Nat} {v : Value} {l : List Int} (h : Own w base v l) (hb : Below w.heap.size w w') : Own w' base v l := by
  refine World.ownsRow.kept h (only_below hb none) ?_
  cases v.ownBlock <;> simp

set_option maxHeartbeats 1000000 in
/-- putTwo puts a number's two bytes behind bytes of the call's own. -/
theorem putTwo_any (base : Nat) (v : Value) (l : List Int) (n : Int) (w : World) (hO : Own w base v l) (hb : base ≤ w.heap.size) (h0 : 0 ≤ n) (h1 : n ≤ 65535) (hl : l.length ≤ 1000000000) :
    Calls Tryd.prog 22 #[v, .int .u16 n] w fun e w' => ∃ v', e = .returned v' ∧ Own w' base v' (l ++ two n) ∧ w.grownBy w' v.ownBlock := by
  obtain ⟨i0, hi, hz0, hz1, hz2⟩ := info_parts info5
  have HO := Lib.hid hO
  clear hO
  go_enter Tryd.func22, Tryd.ntmps22
  go_wp2_with fail
  refine (two_nil n w h0 (by omega)).mono ?_
  rintro e w1 ⟨v1, rfl, hO1, hv1, hB⟩
  rcases hO1.2 with ⟨hn, _⟩ | ⟨h, c, cur, rfl, _, _, _⟩
  · exact absurd hn hv1
  have c0 : ∀ j u, ([.int .u8 (n / 256), .int .u8 (n % 256)] : List Value)[j]? = some u → w1.cell? ((⟨h, 0, none⟩ : Addr).add j) = some u := World.ownsRow.cells hO1 (g := h) rfl
  have hown := HO.out.keep hB
  have hs := hB.size
  have HC := Lib.hid c0
  have HB := Lib.hid hB
  clear hO1 hv1 hB c0
  go_wp2_with (at_builtin; refine wpList_append_own _ rfl _ _ 31 rfl base 5 i0 (.int .u8 0) 1 1 Tryd.underlying31 hi hz0 hz1 hz2 rfl (by decide) v l.length (l.map bV) rfl hown ⟨h, 0, none⟩ 2 c [.int .u8 (n / 256), .int .u8 (n % 256)] rfl rfl HC.out ?d2 ?d3 ?d4 ?d5 ?_)
  case d2 => intro u hu; simp at hu; rcases hu with rfl | rfl <;> rfl
  case d3 => unfold maxLen; omega
  case d4 => omega
  case d5 => omega
  intro v3 w3 hown3 hg3 hnil3
  have HO3 : Hid (Own w3 base v3 (l ++ two n)) := by
    show w3.ownsRow _ _ _ _ _ _
    simpa [two, bV] using hown3
  have HG : Hid (w.grownBy w3 v.ownBlock) := only_trans (only_below HB.out _) hg3
  clear hown3 hg3 hnil3 hown
  go_wp2_with fail
  go_ret
  exact ⟨_, rfl, HO3.out, HG.out⟩
end Go.Proofs.YtkgkjkghdllkhaaDoor
