/-
  Plans as plain data, and what the rules ask of them: no word of the program.
-/
namespace Go.Proofs.YtmfelkdcoihkpaaDoor

/-! ### plans -/
/-- Start, length, partition, gang. -/
abbrev WinA := Int × Int × Int × Int
abbrev SemA := Int × Int
abbrev ChanA := Int × Int × Int × Int × Int × Int
abbrev PairA := Int × Int
/-- Semaphores, the number of events, priorities, the three actions. -/
abbrev PartA := List SemA × Int × List Int × Int × Int × Int
/-- Frame, cores, partitions, channels, pairs. -/
abbrev PlanA := Int × List (List WinA) × List PartA × List ChanA × List PairA

def byte (z : Int) : Prop := 0 ≤ z ∧ z ≤ 255
def wide (z : Int) : Prop := 0 ≤ z ∧ z ≤ 65535
def WfWin (w : WinA) : Prop := wide w.1 ∧ wide w.2.1 ∧ byte w.2.2.1 ∧ byte w.2.2.2
def WfSem (s : SemA) : Prop := byte s.1 ∧ byte s.2
def WfPair (s : PairA) : Prop := byte s.1 ∧ byte s.2
def WfChan (c : ChanA) : Prop := byte c.1 ∧ byte c.2.1 ∧ byte c.2.2.1 ∧ byte c.2.2.2.1 ∧ byte c.2.2.2.2.1 ∧ wide c.2.2.2.2.2
def WfPart (p : PartA) : Prop := (∀ s ∈ p.1, WfSem s) ∧ byte p.2.1 ∧ (∀ z ∈ p.2.2.1, byte z) ∧ byte p.2.2.2.1 ∧ byte p.2.2.2.2.1 ∧ byte p.2.2.2.2.2
def WfPlan (p : PlanA) : Prop := wide p.1 ∧ (∀ ws ∈ p.2.1, ∀ w ∈ ws, WfWin w) ∧ (∀ q ∈ p.2.2.1, WfPart q) ∧ (∀ c ∈ p.2.2.2.1, WfChan c) ∧ (∀ r ∈ p.2.2.2.2, WfPair r)

def dW : WinA := (0, 0, 0, 0)
def dS : SemA := (0, 0)
def dC : ChanA := (0, 0, 0, 0, 0, 0)
def dQ : PartA := ([], 0, [], 0, 0, 0)

/-! ### windows -/
def endW (w : WinA) : Int := w.1 + w.2.1
/-- Two windows have a tick both. -/
def ovB (v w : WinA) : Bool := decide ((if v.1 ≤ w.1 then w.1 else v.1) < (if endW v ≤ endW w then endW v else endW w))
/-- Two windows name one gang. -/
def gangB (v w : WinA) : Bool := v.2.2.2 != 0 && v.2.2.2 == w.2.2.2
def togB (v w : WinA) : Bool := gangB v w && decide (v = w)
def winAt (cs : List (List WinA)) (c i : Nat) : WinA := (cs.getD c []).getD i dW

/-! ### the first that is wrong -/
/-- Of all that may be wrong, the first number that isn't 0, and its place. -/
def firstP {α : Type} (e : α → Int) (at_ : α → Int) : List α → Int × Int
  | [] => (0, 0)
  | x :: r => if e x = 0 then firstP e at_ r else (e x, at_ x)
theorem firstP_none {α : Type} {e : α → Int} {at_ : α → Int} {l : List α} (h : ∀ x ∈ l, e x = 0) : firstP e at_ l = (0, 0) := by
  induction l with
  | nil => rfl
  | cons x r ih =>
    unfold firstP
    rw [if_pos (h x List.mem_cons_self)]
    exact ih fun y hy => h y (List.mem_cons_of_mem _ hy)
theorem firstP_at {α : Type} {e : α → Int} {at_ : α → Int} {a b : List α} {x : α} (h : ∀ y ∈ a, e y = 0) (hx : e x ≠ 0) : firstP e at_ (a ++ x :: b) = (e x, at_ x) := by
  induction a with
  | nil => show (if e x = 0 then _ else _) = _; rw [if_neg hx]
  | cons y r ih =>
    show (if e y = 0 then _ else _) = _
    rw [if_pos (h y List.mem_cons_self)]
    exact ih fun z hz => h z (List.mem_cons_of_mem _ hz)
theorem firstP_zero {α : Type} {e : α → Int} {at_ : α → Int} {l : List α} (h : (firstP e at_ l).1 = 0) : ∀ x ∈ l, e x = 0 := by
  induction l with
  | nil => intro x hx; cases hx
  | cons x r ih =>
    unfold firstP at h
    split at h
    · intro y hy
      rcases List.mem_cons.1 hy with rfl | hy
      · assumption
      · exact ih h y hy
    · exact absurd h ‹_›
/-- The first number that isn't 0. -/
def firstE {α : Type} (e : α → Int) (l : List α) : Int := (firstP e (fun _ => 0) l).1

/-- All windows' places, core by core. -/
def places (cs : List (List WinA)) : List (Nat × Nat) := (List.range cs.length).flatMap fun c => (List.range (cs.getD c []).length).map fun i => (c, i)
theorem mem_places {cs : List (List WinA)} {c i : Nat} : (c, i) ∈ places cs ↔ c < cs.length ∧ i < (cs.getD c []).length := by
  unfold places
  simp [List.mem_flatMap]

/-! ### the rules -/
def frameR (P : PlanA) : Int × Int := if P.1 = 0 then (40, 0) else (0, 0)
def coresR (P : PlanA) : Int × Int := if 1 ≤ P.2.1.length ∧ P.2.1.length ≤ 8 then (0, 0) else (41, (P.2.1.length : Int))
def partsR (P : PlanA) : Int × Int := if 1 ≤ P.2.2.1.length ∧ P.2.2.1.length ≤ 64 then (0, 0) else (42, (P.2.2.1.length : Int))
def manyE (P : PlanA) (c : Nat) : Int := if (P.2.1.getD c []).length ≤ 256 then 0 else 43
def manyR (P : PlanA) : Int × Int := firstP (manyE P) (fun c => (c : Int)) (List.range P.2.1.length)
/-- The first tick behind the window before. -/
def freeW (P : PlanA) (c i : Nat) : Int := if i = 0 then 0 else endW (winAt P.2.1 c (i - 1))
def placedE (P : PlanA) (x : Nat × Nat) : Int :=
  if (winAt P.2.1 x.1 x.2).2.1 = 0 ∨ (winAt P.2.1 x.1 x.2).1 < freeW P x.1 x.2 ∨ P.1 < endW (winAt P.2.1 x.1 x.2) then 44
  else if (winAt P.2.1 x.1 x.2).2.2.1 < P.2.2.1.length then 0 else 45
def placeN (x : Nat × Nat) : Int := 256 * (x.1 : Int) + x.2
def orderR (P : PlanA) : Int × Int := firstP (placedE P) placeN (places P.2.1)
/-- What is wrong with windows of two cores. -/
def twoE (v w : WinA) : Int := if togB v w then 0 else if gangB v w then 46 else if v.2.2.1 = w.2.2.1 ∧ ovB v w = true then 47 else 0
def besideE (P : PlanA) (x : Nat × Nat) : Int :=
  if ((P.2.1.getD x.1 []).take x.2).any (fun v => gangB v (winAt P.2.1 x.1 x.2)) then 46
  else firstE (twoE (winAt P.2.1 x.1 x.2)) (P.2.1.drop (x.1 + 1)).flatten
def gangR (P : PlanA) : Int × Int := firstP (besideE P) placeN (places P.2.1)
/-- A partition's windows. -/
def servedS (cs : List (List WinA)) (p : Int) : List WinA := cs.flatten.filter fun w => decide (w.2.2.1 = p)
def clashB (vs ws : List WinA) : Bool := vs.any fun v => ws.any fun w => ovB v w
def pairE (P : PlanA) (i : Nat) : Int :=
  if (P.2.2.2.2.getD i dS).2 ≤ (P.2.2.2.2.getD i dS).1 ∨ P.2.2.1.length ≤ (P.2.2.2.2.getD i dS).2 ∨ P.2.2.2.2.getD i dS ∈ P.2.2.2.2.take i then 48
  else if clashB (servedS P.2.1 (P.2.2.2.2.getD i dS).1) (servedS P.2.1 (P.2.2.2.2.getD i dS).2) then 49 else 0
def pairR (P : PlanA) : Int × Int := firstP (pairE P) (fun c => (c : Int)) (List.range P.2.2.2.2.length)
def depthB (n : Int) : Bool := n == 1 || n == 2 || n == 4 || n == 8 || n == 16
/-- Kind, from, to, size, depth, age. -/
def chanB (n : Nat) (c : ChanA) : Bool :=
  ((c.1 == 0 && depthB c.2.2.2.2.1 && c.2.2.2.2.2 == 0) || (c.1 == 1 && c.2.2.2.2.1 == 0 && decide (0 < c.2.2.2.2.2))) &&
  decide (c.2.1 < n ∧ c.2.2.1 < n ∧ c.2.1 ≠ c.2.2.1 ∧ 1 ≤ c.2.2.2.1 ∧ c.2.2.2.1 ≤ 32)
def chanE (P : PlanA) (i : Nat) : Int := if i < 64 ∧ chanB P.2.2.1.length (P.2.2.2.1.getD i dC) = true then 0 else 50
def chanR (P : PlanA) : Int × Int := firstP (chanE P) (fun c => (c : Int)) (List.range P.2.2.2.1.length)
/-- Sems, events, procs, acts. -/
def partB (q : PartA) : Bool :=
  decide (q.1.length ≤ 16) && q.1.all (fun s => decide (s.2 ≠ 0 ∧ s.1 ≤ s.2)) && decide (q.2.1 ≤ 16) && decide (1 ≤ q.2.2.1.length ∧ q.2.2.1.length ≤ 16) &&
  q.2.2.1.all (fun z => decide (z ≤ 63)) && decide (q.2.2.2.1 ≤ 2 ∧ q.2.2.2.2.1 ≤ 2 ∧ q.2.2.2.2.2 ≤ 2)
def partE (P : PlanA) (i : Nat) : Int := if partB (P.2.2.1.getD i dQ) then 0 else 51
def partR (P : PlanA) : Int × Int := firstP (partE P) (fun c => (c : Int)) (List.range P.2.2.1.length)

/-- The rules, in order. -/
def ruleN (P : PlanA) : Nat → Int × Int
  | 0 => frameR P
  | 1 => coresR P
  | 2 => partsR P
  | 3 => manyR P
  | 4 => orderR P
  | 5 => gangR P
  | 6 => pairR P
  | 7 => chanR P
  | 8 => partR P
  | _ => (0, 0)
/-- The first rule that is broken. -/
def checkS (P : PlanA) : Int × Int :=
  if (frameR P).1 ≠ 0 then frameR P else if (coresR P).1 ≠ 0 then coresR P else if (partsR P).1 ≠ 0 then partsR P else if (manyR P).1 ≠ 0 then manyR P
  else if (orderR P).1 ≠ 0 then orderR P else if (gangR P).1 ≠ 0 then gangR P else if (pairR P).1 ≠ 0 then pairR P else if (chanR P).1 ≠ 0 then chanR P else partR P

/-- All of the first k rules hold. -/
def Holds_ (P : PlanA) (k : Nat) : Prop := ∀ j, j < k → (ruleN P j).1 = 0
theorem checkS_at {P : PlanA} {k : Nat} (hk : k < 9) (h : Holds_ P k) (hx : (ruleN P k).1 ≠ 0) : checkS P = ruleN P k := by
  unfold checkS
  match k, hk with
  | 0, _ => rw [if_pos (show (frameR P).1 ≠ 0 from hx)]; rfl
  | 1, _ => rw [if_neg (fun q => q (h 0 (by omega)) : ¬ (frameR P).1 ≠ 0), if_pos (show (coresR P).1 ≠ 0 from hx)]; rfl
  | 2, _ => rw [if_neg (fun q => q (h 0 (by omega)) : ¬ (frameR P).1 ≠ 0), if_neg (fun q => q (h 1 (by omega)) : ¬ (coresR P).1 ≠ 0), if_pos (show (partsR P).1 ≠ 0 from hx)]; rfl
  | 3, _ => rw [if_neg (fun q => q (h 0 (by omega)) : ¬ (frameR P).1 ≠ 0), if_neg (fun q => q (h 1 (by omega)) : ¬ (coresR P).1 ≠ 0), if_neg (fun q => q (h 2 (by omega)) : ¬ (partsR P).1 ≠ 0), if_pos (show (manyR P).1 ≠ 0 from hx)]; rfl
  | 4, _ => rw [if_neg (fun q => q (h 0 (by omega)) : ¬ (frameR P).1 ≠ 0), if_neg (fun q => q (h 1 (by omega)) : ¬ (coresR P).1 ≠ 0), if_neg (fun q => q (h 2 (by omega)) : ¬ (partsR P).1 ≠ 0), if_neg (fun q => q (h 3 (by omega)) : ¬ (manyR P).1 ≠ 0), if_pos (show (orderR P).1 ≠ 0 from hx)]; rfl
  | 5, _ => rw [if_neg (fun q => q (h 0 (by omega)) : ¬ (frameR P).1 ≠ 0), if_neg (fun q => q (h 1 (by omega)) : ¬ (coresR P).1 ≠ 0), if_neg (fun q => q (h 2 (by omega)) : ¬ (partsR P).1 ≠ 0), if_neg (fun q => q (h 3 (by omega)) : ¬ (manyR P).1 ≠ 0), if_neg (fun q => q (h 4 (by omega)) : ¬ (orderR P).1 ≠ 0), if_pos (show (gangR P).1 ≠ 0 from hx)]; rfl
  | 6, _ => rw [if_neg (fun q => q (h 0 (by omega)) : ¬ (frameR P).1 ≠ 0), if_neg (fun q => q (h 1 (by omega)) : ¬ (coresR P).1 ≠ 0), if_neg (fun q => q (h 2 (by omega)) : ¬ (partsR P).1 ≠ 0), if_neg (fun q => q (h 3 (by omega)) : ¬ (manyR P).1 ≠ 0), if_neg (fun q => q (h 4 (by omega)) : ¬ (orderR P).1 ≠ 0), if_neg (fun q => q (h 5 (by omega)) : ¬ (gangR P).1 ≠ 0), if_pos (show (pairR P).1 ≠ 0 from hx)]; rfl
  | 7, _ => rw [if_neg (fun q => q (h 0 (by omega)) : ¬ (frameR P).1 ≠ 0), if_neg (fun q => q (h 1 (by omega)) : ¬ (coresR P).1 ≠ 0), if_neg (fun q => q (h 2 (by omega)) : ¬ (partsR P).1 ≠ 0), if_neg (fun q => q (h 3 (by omega)) : ¬ (manyR P).1 ≠ 0), if_neg (fun q => q (h 4 (by omega)) : ¬ (orderR P).1 ≠ 0), if_neg (fun q => q (h 5 (by omega)) : ¬ (gangR P).1 ≠ 0), if_neg (fun q => q (h 6 (by omega)) : ¬ (pairR P).1 ≠ 0), if_pos (show (chanR P).1 ≠ 0 from hx)]; rfl
  | 8, _ => rw [if_neg (fun q => q (h 0 (by omega)) : ¬ (frameR P).1 ≠ 0), if_neg (fun q => q (h 1 (by omega)) : ¬ (coresR P).1 ≠ 0), if_neg (fun q => q (h 2 (by omega)) : ¬ (partsR P).1 ≠ 0), if_neg (fun q => q (h 3 (by omega)) : ¬ (manyR P).1 ≠ 0), if_neg (fun q => q (h 4 (by omega)) : ¬ (orderR P).1 ≠ 0), if_neg (fun q => q (h 5 (by omega)) : ¬ (gangR P).1 ≠ 0), if_neg (fun q => q (h 6 (by omega)) : ¬ (pairR P).1 ≠ 0), if_neg (fun q => q (h 7 (by omega)) : ¬ (chanR P).1 ≠ 0)]; rfl
theorem firstP_snd {α : Type} {e : α → Int} {at_ : α → Int} {l : List α} (h : (firstP e at_ l).1 = 0) : firstP e at_ l = (0, 0) := firstP_none (firstP_zero h)
theorem checkS_ok {P : PlanA} (h : Holds_ P 9) : checkS P = (0, 0) := by
  unfold checkS
  rw [if_neg (fun q => q (h 0 (by omega)) : ¬ (frameR P).1 ≠ 0), if_neg (fun q => q (h 1 (by omega)) : ¬ (coresR P).1 ≠ 0), if_neg (fun q => q (h 2 (by omega)) : ¬ (partsR P).1 ≠ 0), if_neg (fun q => q (h 3 (by omega)) : ¬ (manyR P).1 ≠ 0), if_neg (fun q => q (h 4 (by omega)) : ¬ (orderR P).1 ≠ 0), if_neg (fun q => q (h 5 (by omega)) : ¬ (gangR P).1 ≠ 0), if_neg (fun q => q (h 6 (by omega)) : ¬ (pairR P).1 ≠ 0), if_neg (fun q => q (h 7 (by omega)) : ¬ (chanR P).1 ≠ 0)]
  exact firstP_snd (h 8 (by omega))
theorem holds_of_ok {P : PlanA} (h : (checkS P).1 = 0) : Holds_ P 9 := by
  intro j hj
  apply Classical.byContradiction
  intro hx
  have : ∀ n, n ≤ 9 → ∃ k, k < 9 ∧ (Holds_ P k ∧ (ruleN P k).1 ≠ 0) ∨ Holds_ P n := by
    intro n
    induction n with
    | zero => intro _; exact ⟨0, .inr fun j hj => absurd hj (by omega)⟩
    | succ n ih =>
      intro hn
      obtain ⟨k, h | h⟩ := ih (by omega)
      · exact ⟨k, .inl h⟩
      · by_cases hr : (ruleN P n).1 = 0
        · exact ⟨0, .inr fun j hj => by
            by_cases e : j = n
            · subst e; exact hr
            · exact h j (by omega)⟩
        · exact ⟨n, .inl ⟨by omega, h, hr⟩⟩
  obtain ⟨k, ⟨hk, h1, h2⟩ | h1⟩ := this 9 (by omega)
  · rw [checkS_at hk h1 h2] at h
    exact h2 h
  · exact hx (h1 j hj)
end Go.Proofs.YtmfelkdcoihkpaaDoor
