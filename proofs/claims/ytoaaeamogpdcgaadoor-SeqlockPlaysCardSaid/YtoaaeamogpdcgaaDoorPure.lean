/-
  A writer and a reader of words behind a counter, pure: what a step makes of them and of the words.
-/
namespace Go.Proofs.YtoaaeamogpdcgaaDoor

/-- Whether a word exists. -/
def inM (n : Nat) (a : Int) : Bool := decide (0 ≤ a ∧ a < (n : Int))
theorem inM_yes {n : Nat} {a : Int} (h : inM n a = true) : 0 ≤ a ∧ a < n := by unfold inM at h; exact of_decide_eq_true h
theorem inM_no {n : Nat} {a : Int} (h : inM n a = false) : ¬ (0 ≤ a ∧ a < n) := by unfold inM at h; exact of_decide_eq_false h
theorem inM_of {n : Nat} {a : Int} (h : 0 ≤ a ∧ a < n) : inM n a = true := by unfold inM; exact decide_eq_true h
theorem inM_ne {n : Nat} {a : Int} (h : ¬ (0 ≤ a ∧ a < n)) : inM n a = false := by unfold inM; exact decide_eq_false h

/-- Add 1 to a number of 32 bits. -/
def inc (x : Int) : Int := (x + 1) % 4294967296
theorem inc_rng (x : Int) : 0 ≤ inc x ∧ inc x < 4294967296 := by unfold inc; omega

def upd {α : Type} (l : Nat → α) (i : Nat) (x : α) : Nat → α := fun j => if j = i then x else l j
theorem upd_same {α : Type} {l : Nat → α} {i : Nat} {x : α} : upd l i x i = x := by simp [upd]
theorem upd_other {α : Type} {l : Nat → α} {i j : Nat} {x : α} (h : j ≠ i) : upd l i x j = l j := by simp [upd, h]
theorem upd_self {α : Type} (f : Nat → α) (i : Nat) : upd f i (f i) = f := by
  funext j; unfold upd; split
  · subst j; rfl
  · rfl

/-- A walk along the counter and the words: where, how many words, its next phase (0 opens, 1 passes, 2 closes, 3 over, 4 lost), how many words it has used this time. -/
structure Wk where
  at' : Int
  n : Nat
  ph : Nat
  pa : Nat

/-- The word that its next step uses. -/
def Wk.wh (k : Wk) : Int := if k.ph = 1 then k.at' + 1 + k.pa else k.at'
/-- Behind a word. -/
def Wk.pass (k : Wk) : Wk := if k.pa + 1 < k.n then { k with ph := 1, pa := k.pa + 1 } else { k with ph := 2, pa := 0 }
/-- Behind a word that does not exist. -/
def Wk.lose (k : Wk) : Wk := { (if k.ph = 1 then k.pass else k) with ph := 4 }

/-- A writer: its walk, how many versions it has, the words of all versions in order, how many are written. -/
structure Wr where
  k : Wk
  L : Nat
  V : Nat → Int
  wr : Nat
/-- A reader: its walk, what the counter was, how often it began, the words. -/
structure Rd where
  k : Wk
  cn : Int
  tr : Nat
  ws : Nat → Int

/-- A writer behind a step over words f of a memory of m. -/
def Wr.step (m : Nat) (s : Wr) : Wr :=
  if 3 ≤ s.k.ph then s
  else if inM m s.k.wh then
    match s.k.ph with
    | 0 => { s with k := { s.k with ph := 1 } }
    | 1 => { s with k := s.k.pass }
    | _ => { s with k := { s.k with ph := if s.wr + 1 = s.L then 3 else 0 }, wr := s.wr + 1 }
  else { s with k := s.k.lose }
/-- The words behind it. -/
def Wr.word (m : Nat) (f : Nat → Int) (s : Wr) : Nat → Int :=
  if 3 ≤ s.k.ph then f
  else if inM m s.k.wh then
    if s.k.ph = 1 then upd f s.k.wh.toNat (s.V (s.wr * s.k.n + s.k.pa)) else upd f s.k.wh.toNat (inc (f s.k.wh.toNat))
  else f
/-- A reader behind a step. -/
def Rd.step (m : Nat) (f : Nat → Int) (r : Rd) : Rd :=
  if 3 ≤ r.k.ph then r
  else if inM m r.k.wh then
    match r.k.ph with
    | 0 => if f r.k.wh.toNat % 2 = 1 then r else { r with k := { r.k with ph := 1 }, cn := f r.k.wh.toNat, tr := r.tr + 1 }
    | 1 => { r with k := r.k.pass, ws := upd r.ws r.k.pa (f r.k.wh.toNat) }
    | _ => { r with k := { r.k with ph := if f r.k.wh.toNat = r.cn then 3 else 0 } }
  else { r with k := r.k.lose, ws := if r.k.ph = 1 then upd r.ws r.k.pa 0 else r.ws }
end Go.Proofs.YtoaaeamogpdcgaaDoor
