/-
  Waiters of a barrier, pure: what a step makes of a waiter and of the words; picks, rounds; what is kept; that all pass all rounds.
-/
namespace Go.Proofs.YtcjhbmkpfclmfaaDoor

/-- A waiter: its words, how many wait, how many rounds, its next step (0 arrives, 1 resets, 2 opens, 3 checks, 4 none), to how many rounds it has come, how many it has passed, whether it is done. -/
structure Tk where
  at' : Int
  n : Int
  rds : Int
  ph : Nat
  came : Int
  psd : Int
  done : Bool

/-- Whether a word exists. -/
def inM (n : Nat) (a : Int) : Bool := decide (0 ≤ a ∧ a < (n : Int))
theorem inM_yes {n : Nat} {a : Int} (h : inM n a = true) : 0 ≤ a ∧ a < n := by unfold inM at h; exact of_decide_eq_true h
theorem inM_no {n : Nat} {a : Int} (h : inM n a = false) : ¬ (0 ≤ a ∧ a < n) := by unfold inM at h; exact of_decide_eq_false h
theorem inM_of {n : Nat} {a : Int} (h : 0 ≤ a ∧ a < n) : inM n a = true := by unfold inM; exact decide_eq_true h
theorem inM_ne {n : Nat} {a : Int} (h : ¬ (0 ≤ a ∧ a < n)) : inM n a = false := by unfold inM; exact decide_eq_false h

/-- Add 1 to a number of 32 bits. -/
def inc (x : Int) : Int := (x + 1) % 4294967296
/-- Its own sense. -/
def Tk.own (t : Tk) : Int := (t.psd + 1) % 2
/-- The word that its next step uses. -/
def Tk.wh (t : Tk) : Int :=
  match t.ph with
  | 0 => t.at'
  | 1 => t.at'
  | _ => t.at' + 1
/-- Whether its next step finds no word, or there is none. -/
def Tk.over (n : Nat) (t : Tk) : Bool := decide (4 ≤ t.ph) || !inM n t.wh
/-- Changes nothing but be done. -/
def Tk.end (t : Tk) : Tk := { t with ph := 4, done := true }
/-- A round passed. -/
def Tk.pass (t : Tk) : Tk := if t.psd + 1 = t.rds then { t with psd := t.psd + 1, ph := 4, done := true } else { t with psd := t.psd + 1, ph := 0 }
/-- A step that finds its word, x. -/
def Tk.go (t : Tk) (x : Int) : Tk :=
  match t.ph with
  | 0 => if x = t.n - 1 then { t with came := t.came + 1, ph := 1 } else { t with came := t.came + 1, ph := 3 }
  | 1 => { t with ph := 2 }
  | 2 => t.pass
  | _ => if x = t.own then t.pass else t
/-- What it leaves of it. -/
def Tk.puts (t : Tk) (x : Int) : Int :=
  match t.ph with
  | 0 => inc x
  | 1 => 0
  | 2 => t.own
  | _ => x
/-- A waiter behind its next step; x: its word. -/
def Tk.next (n : Nat) (t : Tk) (x : Int) : Tk := if t.over n then t.end else t.go x
/-- The word behind its next step. -/
def Tk.word (n : Nat) (t : Tk) (x : Int) : Int := if t.over n then x else t.puts x

/-- One of a row turned to another one. -/
def upd {α : Type} (l : Nat → α) (i : Nat) (x : α) : Nat → α := fun j => if j = i then x else l j
theorem upd_same {α : Type} {l : Nat → α} {i : Nat} {x : α} : upd l i x i = x := by simp [upd]
theorem upd_other {α : Type} {l : Nat → α} {i j : Nat} {x : α} (h : j ≠ i) : upd l i x j = l j := by simp [upd, h]
theorem upd_self {α : Type} (f : Nat → α) (i : Nat) : upd f i (f i) = f := by
  funext j; unfold upd; split
  · subst j; rfl
  · rfl

/-- Waiters and words. -/
structure Sy where
  l : Nat → Tk
  f : Nat → Int

/-- A pick of a task that is there; m: how many words there are. -/
def Sy.pick (m : Nat) (s : Sy) (i : Nat) : Sy :=
  if (s.l i).done then s else
  { l := upd s.l i ((s.l i).next m (s.f (s.l i).wh.toNat)), f := upd s.f (s.l i).wh.toNat ((s.l i).word m (s.f (s.l i).wh.toNat)) }
/-- Whether there is such a task. -/
def isT (N : Nat) (i : Int) : Bool := decide (0 ≤ i ∧ i < (N : Int))
theorem isT_yes {N : Nat} {i : Int} (h : isT N i = true) : 0 ≤ i ∧ i < N := by unfold isT at h; exact of_decide_eq_true h
/-- A pick of any number. -/
def Sy.pickI (m N : Nat) (s : Sy) (i : Int) : Sy := if isT N i then s.pick m i.toNat else s
/-- What it answers. -/
def Sy.err (N : Nat) (s : Sy) (i : Int) : Int := if isT N i then (if (s.l i.toNat).done then 91 else 0) else 90
/-- The first k tasks picked. -/
def Sy.upTo (m : Nat) (s : Sy) : Nat → Sy
  | 0 => s
  | k + 1 => (s.upTo m k).pick m k
/-- A round. -/
def Sy.round (m N : Nat) (s : Sy) : Sy := s.upTo m N
/-- How many tasks aren't done. -/
def leftN (l : Nat → Tk) : Nat → Nat
  | 0 => 0
  | k + 1 => leftN l k + if (l k).done then 0 else 1
theorem leftN_le (l : Nat → Tk) : ∀ N, leftN l N ≤ N
  | 0 => Nat.le_refl _
  | k + 1 => by have := leftN_le l k; simp only [leftN]; split <;> omega
theorem leftN_zero {l : Nat → Tk} : ∀ {N}, leftN l N = 0 → ∀ i, i < N → (l i).done = true
  | 0, _, i, hi => absurd hi (by omega)
  | k + 1, h, i, hi => by
    simp only [leftN] at h
    by_cases e : i = k
    · subst e
      cases hd : (l i).done
      · rw [hd] at h; simp at h
      · rfl
    · exact leftN_zero (l := l) (N := k) (by omega) i (by omega)
theorem leftN_of {l : Nat → Tk} : ∀ {N}, (∀ i, i < N → (l i).done = true) → leftN l N = 0
  | 0, _ => rfl
  | k + 1, h => by simp only [leftN]; rw [leftN_of fun i hi => h i (by omega), h k (by omega)]; rfl
theorem leftN_congr {l l' : Nat → Tk} : ∀ {N}, (∀ i, i < N → (l i).done = (l' i).done) → leftN l N = leftN l' N
  | 0, _ => rfl
  | k + 1, h => by simp only [leftN]; rw [leftN_congr fun i hi => h i (by omega), h k (by omega)]

/-- So many rounds, as long as something is left. -/
def Sy.rounds (m N : Nat) (s : Sy) : Nat → Sy
  | 0 => s
  | k + 1 => if leftN s.l N = 0 then s else (s.round m N).rounds m N k
/-- How many rounds that are. -/
def Sy.count (m N : Nat) (s : Sy) : Nat → Nat
  | 0 => 0
  | k + 1 => if leftN s.l N = 0 then 0 else (s.round m N).count m N k + 1
theorem Sy.rounds_done {m N : Nat} {s : Sy} (h : leftN s.l N = 0) : ∀ k, s.rounds m N k = s
  | 0 => rfl
  | k + 1 => by simp only [Sy.rounds, h, if_true]
theorem Sy.rounds_add (m N : Nat) : ∀ (s : Sy) (j k : Nat), s.rounds m N (j + k) = (s.rounds m N j).rounds m N k
  | s, 0, k => by simp [Sy.rounds]
  | s, j + 1, k => by
    rw [show j + 1 + k = (j + k) + 1 by omega]
    simp only [Sy.rounds]
    split
    · rename_i h; rw [Sy.rounds_done h]
    · exact Sy.rounds_add m N _ j k
theorem Sy.count_le (m N : Nat) : ∀ (s : Sy) (k : Nat), s.count m N k ≤ k
  | _, 0 => Nat.le_refl _
  | s, k + 1 => by
    simp only [Sy.count]
    split
    · omega
    · have := Sy.count_le m N (s.round m N) k; omega
theorem pick_done {m : Nat} {s : Sy} {i : Nat} (h : (s.l i).done = true) : s.pick m i = s := by unfold Sy.pick; rw [if_pos h]
theorem pick_go {m : Nat} {s : Sy} {i : Nat} (h : (s.l i).done = false) : s.pick m i = { l := upd s.l i ((s.l i).next m (s.f (s.l i).wh.toNat)), f := upd s.f (s.l i).wh.toNat ((s.l i).word m (s.f (s.l i).wh.toNat)) } := by
  unfold Sy.pick; rw [if_neg (by simp [h])]
theorem next_end {n : Nat} {t : Tk} {x : Int} (h : t.over n = true) : t.next n x = t.end := by unfold Tk.next; rw [if_pos h]
theorem word_end {n : Nat} {t : Tk} {x : Int} (h : t.over n = true) : t.word n x = x := by unfold Tk.word; rw [if_pos h]
theorem next_go {n : Nat} {t : Tk} {x : Int} (h : t.over n = false) : t.next n x = t.go x := by unfold Tk.next; rw [h]; simp
theorem word_go {n : Nat} {t : Tk} {x : Int} (h : t.over n = false) : t.word n x = t.puts x := by unfold Tk.word; rw [h]; simp
theorem go0 {t : Tk} {x : Int} (e : t.ph = 0) : t.go x = if x = t.n - 1 then { t with came := t.came + 1, ph := 1 } else { t with came := t.came + 1, ph := 3 } := by unfold Tk.go; rw [e]; rfl
theorem go1 {t : Tk} {x : Int} (e : t.ph = 1) : t.go x = { t with ph := 2 } := by unfold Tk.go; rw [e]; rfl
theorem go2 {t : Tk} {x : Int} (e : t.ph = 2) : t.go x = t.pass := by unfold Tk.go; rw [e]; rfl
theorem go3 {t : Tk} {x : Int} (e : t.ph = 3) : t.go x = if x = t.own then t.pass else t := by unfold Tk.go; rw [e]; rfl
theorem cases5 {p : Nat} (h : p ≤ 4) : p = 0 ∨ p = 1 ∨ p = 2 ∨ p = 3 ∨ p = 4 := by omega
/-- Where a pick leads to whatever word it finds. -/
theorem pick_l {m : Nat} {s : Sy} {i j : Nat} (h : j ≠ i) : (s.pick m i).l j = s.l j := by
  unfold Sy.pick; split
  · rfl
  · exact upd_other h

/-! ## Sums -/

def sumN (g : Nat → Int) : Nat → Int
  | 0 => 0
  | k + 1 => sumN g k + g k
theorem sumN_upd (g : Nat → Int) (i : Nat) (x : Int) : ∀ N, sumN (upd g i x) N = if i < N then sumN g N - g i + x else sumN g N
  | 0 => by simp [sumN]
  | k + 1 => by
    simp only [sumN, sumN_upd g i x k]
    by_cases h : i < k
    · rw [upd_other (show k ≠ i by omega), if_pos h, if_pos (show i < k + 1 by omega)]; omega
    · by_cases e : i = k
      · subst e; rw [upd_same, if_neg h, if_pos (show i < i + 1 by omega)]; omega
      · rw [upd_other (fun hh => e hh.symm), if_neg h, if_neg (show ¬ i < k + 1 by omega)]
theorem sumN_congr {g g' : Nat → Int} : ∀ {N}, (∀ i, i < N → g i = g' i) → sumN g N = sumN g' N
  | 0, _ => rfl
  | k + 1, h => by simp only [sumN]; rw [sumN_congr fun i hi => h i (by omega), h k (by omega)]
theorem sumN_le {g : Nat → Int} : ∀ {N}, (∀ i, i < N → 0 ≤ g i ∧ g i ≤ 1) → 0 ≤ sumN g N ∧ sumN g N ≤ N
  | 0, _ => by simp [sumN]
  | k + 1, h => by
    have h1 := sumN_le (g := g) (N := k) fun i hi => h i (by omega)
    have := h k (by omega)
    simp only [sumN]
    omega
theorem sumN_zero {g : Nat → Int} : ∀ {N}, (∀ i, i < N → g i = 0) → sumN g N = 0
  | 0, _ => rfl
  | k + 1, h => by simp only [sumN]; rw [sumN_zero fun i hi => h i (by omega), h k (by omega)]; rfl
/-- Where one is not counted the sum is less. -/
theorem sumN_lt {g : Nat → Int} {N i : Nat} (h : ∀ i, i < N → 0 ≤ g i ∧ g i ≤ 1) (hi : i < N) (h0 : g i = 0) : sumN g N + 1 ≤ N := by
  have h1 := sumN_upd g i 1 N
  rw [if_pos hi, h0] at h1
  have h2 := sumN_le (g := upd g i 1) (N := N) fun j hj => by
    by_cases e : j = i
    · subst e; rw [upd_same]; omega
    · rw [upd_other e]; exact h j hj
  omega
theorem sumN_lt2 {g : Nat → Int} {N i j : Nat} (h : ∀ i, i < N → 0 ≤ g i ∧ g i ≤ 1) (hi : i < N) (hj : j < N) (hij : j ≠ i) (h0 : g i = 0) (h1 : g j = 0) : sumN g N + 2 ≤ N := by
  have h2 := sumN_upd g i 1 N
  rw [if_pos hi, h0] at h2
  have h3 := sumN_lt (g := upd g i 1) (N := N) (i := j) (fun j hj => by
    by_cases e : j = i
    · subst e; rw [upd_same]; omega
    · rw [upd_other e]; exact h j hj) hj (by rw [upd_other hij]; exact h1)
  omega
theorem sumN_all {g : Nat → Int} : ∀ {N}, (∀ i, i < N → g i = 1) → sumN g N = N
  | 0, _ => rfl
  | k + 1, h => by simp only [sumN]; rw [sumN_all fun i hi => h i (by omega), h k (by omega)]; omega

/-! ## What is kept -/

/-- Where a waiter stands when r rounds were opened. -/
def Kind (R r : Int) (t : Tk) : Prop :=
  (t.psd = r - 1 ∧ t.came = r ∧ t.ph = 3 ∧ 1 ≤ r) ∨
  (t.psd = r ∧ t.came = r ∧ ((t.ph = 0 ∧ r < R) ∨ (t.ph = 4 ∧ r = R))) ∨
  (t.psd = r ∧ t.came = r + 1 ∧ r < R ∧ (t.ph = 1 ∨ t.ph = 2 ∨ t.ph = 3))
/-- Whether it has come to the round that isn't opened. -/
def Tk.arr (r : Int) (t : Tk) : Int := if t.came = r + 1 then 1 else 0
theorem arr_rng (r : Int) (t : Tk) : 0 ≤ t.arr r ∧ t.arr r ≤ 1 := by unfold Tk.arr; split <;> omega
def Mode (N A : Nat) (r : Int) (s : Sy) : Prop :=
  (s.f A = sumN (fun i => (s.l i).arr r) N ∧ sumN (fun i => (s.l i).arr r) N + 1 ≤ N ∧ ∀ j, j < N → (s.l j).ph ≠ 1 ∧ (s.l j).ph ≠ 2) ∨
  (∃ i, i < N ∧ (s.l i).ph = 1 ∧ ∀ j, j < N → (s.l j).came = r + 1 ∧ (j ≠ i → (s.l j).ph = 3)) ∨
  (∃ i, i < N ∧ (s.l i).ph = 2 ∧ s.f A = 0 ∧ ∀ j, j < N → (s.l j).came = r + 1 ∧ (j ≠ i → (s.l j).ph = 3))
/-- What is kept; A: where the words are; R: how many rounds. -/
structure Inv (N A : Nat) (R r : Int) (s : Sy) : Prop where
  N8 : 1 ≤ N ∧ N ≤ 8
  r0 : 0 ≤ r ∧ r ≤ R ∧ R ≤ 1000
  se : s.f (A + 1) = r % 2
  at0 : ∀ i, i < N → (s.l i).at' = A
  nn : ∀ i, i < N → (s.l i).n = N
  rd : ∀ i, i < N → (s.l i).rds = R
  kd : ∀ i, i < N → Kind R r (s.l i)
  dn : ∀ i, i < N → (s.l i).done = true → (s.l i).ph = 4
  md : Mode N A r s
/-- One waiter turned. -/
theorem sum_turn (r : Int) (l : Nat → Tk) (i N : Nat) (t : Tk) (hi : i < N) : sumN (fun j => (upd l i t j).arr r) N = sumN (fun j => (l j).arr r) N - (l i).arr r + t.arr r := by
  have e : (fun j => (upd l i t j).arr r) = upd (fun j => (l j).arr r) i (t.arr r) := by
    funext j
    unfold upd
    split <;> rfl
  rw [e, sumN_upd, if_pos hi]
theorem all_upd {P : Nat → Tk → Prop} {l : Nat → Tk} {N i : Nat} {t : Tk} (h : ∀ j, j < N → j ≠ i → P j (l j)) (ht : P i t) : ∀ j, j < N → P j (upd l i t j) := fun j hj => by
  by_cases e : j = i
  · subst e; rw [upd_same]; exact ht
  · rw [upd_other e]; exact h j hj e
/-- A waiter that differs in where it stands alone. -/
structure Like (t t' : Tk) : Prop where
  a : t'.at' = t.at'
  n : t'.n = t.n
  r : t'.rds = t.rds
theorem Inv.turn {N A : Nat} {R r r' : Int} {s : Sy} (h : Inv N A R r s) {i : Nat} (hi : i < N) (t : Tk) (f : Nat → Int) (hL : Like (s.l i) t) (hr : 0 ≤ r' ∧ r' ≤ R) (hs : f (A + 1) = r' % 2)
    (hk : ∀ j, j < N → j ≠ i → Kind R r' (s.l j)) (hki : Kind R r' t) (hd : t.done = true → t.ph = 4) (hm : Mode N A r' ⟨upd s.l i t, f⟩) : Inv N A R r' ⟨upd s.l i t, f⟩ :=
  ⟨h.N8, ⟨hr.1, hr.2, h.r0.2.2⟩, hs, all_upd (P := fun _ t => t.at' = A) (fun j hj _ => h.at0 j hj) (by rw [hL.a]; exact h.at0 i hi), all_upd (P := fun _ t => t.n = N) (fun j hj _ => h.nn j hj) (by rw [hL.n]; exact h.nn i hi),
   all_upd (P := fun _ t => t.rds = R) (fun j hj _ => h.rd j hj) (by rw [hL.r]; exact h.rd i hi), all_upd (P := fun _ t => Kind R r' t) hk hki, all_upd (P := fun _ t => t.done = true → t.ph = 4) (fun j hj _ => h.dn j hj) hd, hm⟩
theorem Inv.ph4 {N A : Nat} {R r : Int} {s : Sy} (h : Inv N A R r s) {i : Nat} (hi : i < N) : (s.l i).ph ≤ 4 := by
  rcases h.kd i hi with e | e | e <;> omega
theorem pass_ph {t : Tk} : (t.psd + 1 = t.rds → t.pass.ph = 4) ∧ (t.psd + 1 ≠ t.rds → t.pass.ph = 0) ∧ t.pass.psd = t.psd + 1 ∧ t.pass.came = t.came ∧ Like t t.pass ∧ (t.done = false → t.pass.done = true → t.pass.ph = 4) ∧ (t.psd + 1 = t.rds → t.pass.done = true) := by
  unfold Tk.pass
  split
  · rename_i e; exact ⟨fun _ => rfl, fun hh => absurd e hh, rfl, rfl, ⟨rfl, rfl, rfl⟩, fun _ _ => rfl, fun _ => rfl⟩
  · rename_i e; exact ⟨fun hh => absurd hh e, fun _ => rfl, rfl, rfl, ⟨rfl, rfl, rfl⟩, fun h1 h2 => (by rw [show (t.done = true) from h2] at h1; cases h1), fun hh => absurd hh e⟩
/-- A pick: what is kept is kept; how many were opened. -/
theorem Inv.pick {N A m : Nat} {R r : Int} {s : Sy} (h : Inv N A R r s) (hA : A + 1 < m) {i : Nat} (hi : i < N) :
    ∃ r', r ≤ r' ∧ Inv N A R r' (s.pick m i) ∧ (s.l i).psd ≤ ((s.pick m i).l i).psd ∧ (s.l i).came ≤ ((s.pick m i).l i).came ∧
      -- what it has done
      ((s.l i).ph = 0 → ((s.pick m i).l i).came = (s.l i).came + 1) ∧ ((s.l i).ph = 1 → ((s.pick m i).l i).ph = 2) ∧ ((s.l i).ph = 2 → r' = r + 1) ∧ ((s.l i).ph = 3 → (s.l i).psd + 1 = r → ((s.pick m i).l i).psd = r) ∧ ((s.l i).ph = 3 → (s.l i).psd = r → s.pick m i = s) ∧ ((s.l i).ph = 4 → ((s.pick m i).l i).done = true) := by
  have hat := h.at0 i hi
  have hnn := h.nn i hi
  have hrd := h.rd i hi
  have hkd := h.kd i hi
  have hr0 := h.r0
  have hN8 := h.N8
  by_cases hd : (s.l i).done = true
  · have h4 := h.dn i hi hd
    rw [pick_done hd]
    exact ⟨r, Int.le_refl _, h, Int.le_refl _, Int.le_refl _, fun e => absurd e (by omega), fun e => absurd e (by omega), fun e => absurd e (by omega), fun e => absurd e (by omega), fun e => absurd e (by omega), fun _ => hd⟩
  have hd : (s.l i).done = false := by simpa using hd
  have hall : ∀ j, j < N → 0 ≤ (s.l j).arr r ∧ (s.l j).arr r ≤ 1 := fun j _ => arr_rng r _
  have hpk := pick_go (m := m) hd
  rw [hpk]
  simp only [upd_same]
  rcases cases5 (h.ph4 hi) with e | e | e | e | e
  · -- arrives
    have hw : (s.l i).wh = A := by unfold Tk.wh; rw [e]; exact hat
    have ho : (s.l i).over m = false := by unfold Tk.over; rw [hw, inM_of (by omega), e]; rfl
    have hk : (s.l i).psd = r ∧ (s.l i).came = r ∧ r < R := by rcases hkd with q | q | q <;> omega
    have hm : s.f A = sumN (fun i => (s.l i).arr r) N ∧ sumN (fun i => (s.l i).arr r) N + 1 ≤ N ∧ ∀ j, j < N → (s.l j).ph ≠ 1 ∧ (s.l j).ph ≠ 2 := by
      rcases h.md with q | ⟨j, _, _, q⟩ | ⟨j, _, _, _, q⟩
      · exact q
      · have := (q i hi).1; omega
      · have := (q i hi).1; omega
    have ha : (s.l i).arr r = 0 := by unfold Tk.arr; rw [if_neg (by omega)]
    have hsum := sumN_le (g := fun i => (s.l i).arr r) hall
    rw [hw, next_go ho, word_go ho]
    have hp : (s.l i).puts (s.f A) = s.f A + 1 := by unfold Tk.puts; rw [e]; show inc _ = _; unfold inc; omega
    rw [show ((A : Int).toNat) = A by omega, hp]
    have hg : (s.l i).go (s.f A) = if s.f A = (s.l i).n - 1 then { s.l i with came := (s.l i).came + 1, ph := 1 } else { s.l i with came := (s.l i).came + 1, ph := 3 } := go0 e
    rw [hg]
    by_cases hx : s.f A = (s.l i).n - 1
    · rw [if_pos hx]
      have hoth : ∀ j, j < N → j ≠ i → (s.l j).arr r = 1 := fun j hj hji => by
        have hj1 := arr_rng r (s.l j)
        by_cases h0 : (s.l j).arr r = 0
        · have := sumN_lt2 (g := fun i => (s.l i).arr r) hall hi hj hji ha h0
          omega
        · omega
      have hc : ∀ j, j < N → j ≠ i → (s.l j).came = r + 1 := fun j hj hji => by
        have := hoth j hj hji
        unfold Tk.arr at this
        split at this
        · assumption
        · omega
      refine ⟨r, Int.le_refl _, h.turn hi _ _ ⟨rfl, rfl, rfl⟩ ⟨hr0.1, hr0.2.1⟩ (by rw [upd_other (by omega)]; exact h.se) (fun j hj _ => h.kd j hj) (.inr (.inr ⟨hk.1, by show (s.l i).came + 1 = _; omega, hk.2.2, .inl rfl⟩)) (fun hh => by rw [show (s.l i).done = true from hh] at hd; exact absurd hd (by simp)) ?_, Int.le_refl _, by show (s.l i).came ≤ (s.l i).came + 1; omega, fun _ => rfl, fun hh => absurd hh (by omega), fun hh => absurd hh (by omega), fun hh => absurd hh (by omega), fun hh => absurd hh (by omega), fun hh => absurd hh (by omega)⟩
      refine .inr (.inl ⟨i, hi, by show (upd s.l i _ i).ph = 1; rw [upd_same], fun j hj => ?_⟩)
      show (upd s.l i _ j).came = r + 1 ∧ (j ≠ i → (upd s.l i _ j).ph = 3)
      by_cases hji : j = i
      · subst hji; rw [upd_same]; exact ⟨by show (s.l j).came + 1 = _; omega, fun hh => absurd rfl hh⟩
      · rw [upd_other hji]
        refine ⟨hc j hj hji, fun _ => ?_⟩
        have h1 := hc j hj hji
        have h2 := hm.2.2 j hj
        rcases h.kd j hj with q | q | q <;> omega
    · rw [if_neg hx]
      refine ⟨r, Int.le_refl _, h.turn hi _ _ ⟨rfl, rfl, rfl⟩ ⟨hr0.1, hr0.2.1⟩ (by rw [upd_other (by omega)]; exact h.se) (fun j hj _ => h.kd j hj) (.inr (.inr ⟨hk.1, by show (s.l i).came + 1 = _; omega, hk.2.2, .inr (.inr rfl)⟩)) (fun hh => by rw [show (s.l i).done = true from hh] at hd; exact absurd hd (by simp)) ?_, Int.le_refl _, by show (s.l i).came ≤ (s.l i).came + 1; omega, fun _ => rfl, fun hh => absurd hh (by omega), fun hh => absurd hh (by omega), fun hh => absurd hh (by omega), fun hh => absurd hh (by omega), fun hh => absurd hh (by omega)⟩
      have hsu : sumN (fun j => (upd s.l i { s.l i with came := (s.l i).came + 1, ph := 3 } j).arr r) N = s.f A + 1 := by
        rw [sum_turn r s.l i N _ hi, ha, hm.1]
        have : Tk.arr r { s.l i with came := (s.l i).came + 1, ph := 3 } = 1 := by unfold Tk.arr; rw [if_pos (by show (s.l i).came + 1 = _; omega)]
        rw [this]; omega
      refine .inl ⟨?_, ?_, all_upd (P := fun _ t => t.ph ≠ 1 ∧ t.ph ≠ 2) (fun j hj _ => hm.2.2 j hj) ⟨by simp, by simp⟩⟩
      · show upd s.f A (s.f A + 1) A = _
        rw [upd_same]; exact hsu.symm
      · show sumN (fun j => (upd s.l i { s.l i with came := (s.l i).came + 1, ph := 3 } j).arr r) N + 1 ≤ N
        rw [hsu]; omega
  · -- resets
    have hw : (s.l i).wh = A := by unfold Tk.wh; rw [e]; exact hat
    have ho : (s.l i).over m = false := by unfold Tk.over; rw [hw, inM_of (by omega), e]; rfl
    have hk : (s.l i).psd = r ∧ (s.l i).came = r + 1 ∧ r < R := by rcases hkd with q | q | q <;> omega
    have hm : ∀ j, j < N → (s.l j).came = r + 1 ∧ (j ≠ i → (s.l j).ph = 3) := by
      rcases h.md with q | ⟨j, hj, hj1, q⟩ | ⟨j, hj, hj1, _, q⟩
      · exact absurd e (q.2.2 i hi).1
      · by_cases hji : i = j
        · subst hji; exact q
        · have := (q i hi).2 hji; omega
      · by_cases hji : i = j
        · subst hji; omega
        · have := (q i hi).2 hji; omega
    rw [hw, next_go ho, word_go ho]
    have hp : (s.l i).puts (s.f A) = 0 := by unfold Tk.puts; rw [e]; rfl
    have hg : (s.l i).go (s.f A) = { s.l i with ph := 2 } := go1 e
    rw [show ((A : Int).toNat) = A by omega, hp, hg]
    refine ⟨r, Int.le_refl _, h.turn hi _ _ ⟨rfl, rfl, rfl⟩ ⟨hr0.1, hr0.2.1⟩ (by rw [upd_other (by omega)]; exact h.se) (fun j hj _ => h.kd j hj) (.inr (.inr ⟨hk.1, hk.2.1, hk.2.2, .inr (.inl rfl)⟩)) (fun hh => by rw [show (s.l i).done = true from hh] at hd; exact absurd hd (by simp)) ?_, Int.le_refl _, Int.le_refl _, fun hh => absurd hh (by omega), fun _ => rfl, fun hh => absurd hh (by omega), fun hh => absurd hh (by omega), fun hh => absurd hh (by omega), fun hh => absurd hh (by omega)⟩
    refine .inr (.inr ⟨i, hi, by show (upd s.l i _ i).ph = 2; rw [upd_same], upd_same, fun j hj => ?_⟩)
    show (upd s.l i _ j).came = r + 1 ∧ (j ≠ i → (upd s.l i _ j).ph = 3)
    by_cases hji : j = i
    · subst hji; rw [upd_same]; exact ⟨hk.2.1, fun hh => absurd rfl hh⟩
    · rw [upd_other hji]; exact hm j hj
  · -- opens
    have hw : (s.l i).wh = ((A + 1 : Nat) : Int) := by unfold Tk.wh; rw [e]; show (s.l i).at' + 1 = _; omega
    have ho : (s.l i).over m = false := by unfold Tk.over; rw [hw, inM_of (by omega), e]; rfl
    have hk : (s.l i).psd = r ∧ (s.l i).came = r + 1 ∧ r < R := by rcases hkd with q | q | q <;> omega
    have hm : s.f A = 0 ∧ ∀ j, j < N → (s.l j).came = r + 1 ∧ (j ≠ i → (s.l j).ph = 3) := by
      rcases h.md with q | ⟨j, hj, hj1, q⟩ | ⟨j, hj, hj1, q0, q⟩
      · exact absurd e (q.2.2 i hi).2
      · by_cases hji : i = j
        · subst hji; omega
        · have := (q i hi).2 hji; omega
      · by_cases hji : i = j
        · subst hji; exact ⟨q0, q⟩
        · have := (q i hi).2 hji; omega
    rw [hw, next_go ho, word_go ho]
    have hp : (s.l i).puts (s.f (A + 1)) = (r + 1) % 2 := by unfold Tk.puts; rw [e]; show (s.l i).own = _; unfold Tk.own; rw [hk.1]
    have hg : (s.l i).go (s.f (A + 1)) = (s.l i).pass := go2 e
    rw [show (((A + 1 : Nat) : Int).toNat) = A + 1 by omega, hp, hg]
    obtain ⟨p1, p2, p3, p4, p5, p6, p7⟩ := pass_ph (t := s.l i)
    have hki : Kind R (r + 1) (s.l i).pass := by
      refine .inr (.inl ⟨by omega, by omega, ?_⟩)
      by_cases hR : (s.l i).psd + 1 = (s.l i).rds
      · exact .inr ⟨p1 hR, by omega⟩
      · exact .inl ⟨p2 hR, by omega⟩
    refine ⟨r + 1, by omega, h.turn hi _ _ p5 ⟨by omega, by omega⟩ upd_same (fun j hj hji => ?_) hki (p6 hd) ?_, by omega, by omega, fun hh => absurd hh (by omega), fun hh => absurd hh (by omega), fun _ => rfl, fun hh => absurd hh (by omega), fun hh => absurd hh (by omega), fun hh => absurd hh (by omega)⟩
    · have h1 := hm.2 j hj
      have h2 := h1.2 hji
      refine .inl ⟨?_, h1.1, h2, by omega⟩
      rcases h.kd j hj with q | q | q <;> omega
    · have hz : sumN (fun j => (upd s.l i (s.l i).pass j).arr (r + 1)) N = 0 := sumN_zero fun j hj => by
        unfold Tk.arr
        rw [if_neg]
        by_cases hji : j = i
        · subst hji; rw [upd_same]; omega
        · rw [upd_other hji]; have := (hm.2 j hj).1; omega
      refine .inl ⟨?_, by show sumN (fun j => (upd s.l i (s.l i).pass j).arr (r + 1)) N + 1 ≤ N; rw [hz]; omega, all_upd (P := fun _ t => t.ph ≠ 1 ∧ t.ph ≠ 2) (fun j hj hji => ?_) ?_⟩
      · show upd s.f (A + 1) _ A = sumN (fun j => (upd s.l i (s.l i).pass j).arr (r + 1)) N
        rw [hz, upd_other (by omega)]; exact hm.1
      · have := (hm.2 j hj).2 hji; omega
      · by_cases hR : (s.l i).psd + 1 = (s.l i).rds
        · have := p1 hR; omega
        · have := p2 hR; omega
  · -- checks
    have hw : (s.l i).wh = ((A + 1 : Nat) : Int) := by unfold Tk.wh; rw [e]; show (s.l i).at' + 1 = _; omega
    have ho : (s.l i).over m = false := by unfold Tk.over; rw [hw, inM_of (by omega), e]; rfl
    rw [hw, next_go ho, word_go ho]
    have hp : (s.l i).puts (s.f (A + 1)) = s.f (A + 1) := by unfold Tk.puts; rw [e]; rfl
    have hg : (s.l i).go (s.f (A + 1)) = if s.f (A + 1) = (s.l i).own then (s.l i).pass else s.l i := go3 e
    rw [show (((A + 1 : Nat) : Int).toNat) = A + 1 by omega, hp, hg, upd_self, h.se]
    rcases hkd with q | q | q
    · -- it had come to the round that is opened
      rw [if_pos (by unfold Tk.own; rw [q.1]; congr 1; omega)]
      have hm : s.f A = sumN (fun i => (s.l i).arr r) N ∧ sumN (fun i => (s.l i).arr r) N + 1 ≤ N ∧ ∀ j, j < N → (s.l j).ph ≠ 1 ∧ (s.l j).ph ≠ 2 := by
        rcases h.md with q' | ⟨j, _, _, q'⟩ | ⟨j, _, _, _, q'⟩
        · exact q'
        · have := (q' i hi).1; omega
        · have := (q' i hi).1; omega
      obtain ⟨p1, p2, p3, p4, p5, p6, p7⟩ := pass_ph (t := s.l i)
      have hki : Kind R r (s.l i).pass := by
        refine .inr (.inl ⟨by omega, by omega, ?_⟩)
        by_cases hR : (s.l i).psd + 1 = (s.l i).rds
        · exact .inr ⟨p1 hR, by omega⟩
        · exact .inl ⟨p2 hR, by omega⟩
      refine ⟨r, Int.le_refl _, h.turn hi _ _ p5 ⟨hr0.1, hr0.2.1⟩ h.se (fun j hj _ => h.kd j hj) hki (p6 hd) ?_, by omega, by omega, fun hh => absurd hh (by omega), fun hh => absurd hh (by omega), fun hh => absurd hh (by omega), fun _ _ => by omega, fun _ hh => absurd hh (by omega), fun hh => absurd hh (by omega)⟩
      have hsu : sumN (fun j => (upd s.l i (s.l i).pass j).arr r) N = sumN (fun i => (s.l i).arr r) N := by
        rw [sum_turn r s.l i N _ hi]
        have h1 : (s.l i).arr r = 0 := by unfold Tk.arr; rw [if_neg (by omega)]
        have h2 : (s.l i).pass.arr r = 0 := by unfold Tk.arr; rw [if_neg (by omega)]
        rw [h1, h2]; omega
      refine .inl ⟨?_, by show sumN (fun j => (upd s.l i (s.l i).pass j).arr r) N + 1 ≤ N; rw [hsu]; exact hm.2.1, all_upd (P := fun _ t => t.ph ≠ 1 ∧ t.ph ≠ 2) (fun j hj hji => hm.2.2 j hj) ?_⟩
      · show s.f A = sumN (fun j => (upd s.l i (s.l i).pass j).arr r) N
        rw [hsu]; exact hm.1
      · by_cases hR : (s.l i).psd + 1 = (s.l i).rds
        · have := p1 hR; omega
        · have := p2 hR; omega
    · omega
    · rw [if_neg (by unfold Tk.own; rw [q.1]; omega), upd_self]
      exact ⟨r, Int.le_refl _, h, Int.le_refl _, Int.le_refl _, fun hh => absurd hh (by omega), fun hh => absurd hh (by omega), fun hh => absurd hh (by omega), fun _ _ => by omega, fun _ _ => rfl, fun hh => absurd hh (by omega)⟩
  · -- none
    have ho : (s.l i).over m = true := by unfold Tk.over; rw [e]; rfl
    have hk : (s.l i).psd = r ∧ (s.l i).came = r ∧ r = R := by rcases hkd with q | q | q <;> omega
    rw [next_end ho, word_end ho, upd_self]
    refine ⟨r, Int.le_refl _, h.turn hi _ _ ⟨rfl, rfl, rfl⟩ ⟨hr0.1, hr0.2.1⟩ h.se (fun j hj _ => h.kd j hj) (.inr (.inl ⟨hk.1, hk.2.1, .inr ⟨rfl, hk.2.2⟩⟩)) (fun _ => rfl) ?_, Int.le_refl _, Int.le_refl _, fun hh => absurd hh (by omega), fun hh => absurd hh (by omega), fun hh => absurd hh (by omega), fun hh => absurd hh (by omega), fun hh => absurd hh (by omega), fun _ => rfl⟩
    have hm : s.f A = sumN (fun i => (s.l i).arr r) N ∧ sumN (fun i => (s.l i).arr r) N + 1 ≤ N ∧ ∀ j, j < N → (s.l j).ph ≠ 1 ∧ (s.l j).ph ≠ 2 := by
      rcases h.md with q' | ⟨j, _, _, q'⟩ | ⟨j, _, _, _, q'⟩
      · exact q'
      · have := (q' i hi).1; omega
      · have := (q' i hi).1; omega
    have hsu : sumN (fun j => (upd s.l i (s.l i).end j).arr r) N = sumN (fun i => (s.l i).arr r) N := by
      rw [sum_turn r s.l i N _ hi]
      have h2 : (s.l i).end.arr r = (s.l i).arr r := rfl
      rw [h2]; omega
    refine .inl ⟨?_, by show sumN (fun j => (upd s.l i (s.l i).end j).arr r) N + 1 ≤ N; rw [hsu]; exact hm.2.1, all_upd (P := fun _ t => t.ph ≠ 1 ∧ t.ph ≠ 2) (fun j hj hji => hm.2.2 j hj) ⟨by unfold Tk.end; simp, by unfold Tk.end; simp⟩⟩
    show s.f A = sumN (fun j => (upd s.l i (s.l i).end j).arr r) N
    rw [hsu]; exact hm.1
end Go.Proofs.YtcjhbmkpfclmfaaDoor
