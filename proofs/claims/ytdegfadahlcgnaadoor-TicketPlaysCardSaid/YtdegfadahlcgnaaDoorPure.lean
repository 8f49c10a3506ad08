/-
  Takers of a lock, pure: what a step makes of a taker and of the words; picks, rounds; the same over whole numbers, without beginning anew; what is kept.
-/
namespace Go.Proofs.YtdegfadahlcgnaaDoor

/-- A taker: its words, how many times are left, its next step (0 draws, 1 checks, 2 loads, 3 stores, 4 releases, 5 none), its ticket, what it loaded, whether it is done. -/
structure Tk where
  at' : Int
  cl : Int
  left : Int
  ph : Nat
  tk : Int
  ld : Int
  done : Bool

/-- Whether a word exists. -/
def inM (n : Nat) (a : Int) : Bool := decide (0 ≤ a ∧ a < (n : Int))
theorem inM_yes {n : Nat} {a : Int} (h : inM n a = true) : 0 ≤ a ∧ a < n := by unfold inM at h; exact of_decide_eq_true h
theorem inM_no {n : Nat} {a : Int} (h : inM n a = false) : ¬ (0 ≤ a ∧ a < n) := by unfold inM at h; exact of_decide_eq_false h
theorem inM_of {n : Nat} {a : Int} (h : 0 ≤ a ∧ a < n) : inM n a = true := by unfold inM; exact decide_eq_true h
theorem inM_ne {n : Nat} {a : Int} (h : ¬ (0 ≤ a ∧ a < n)) : inM n a = false := by unfold inM; exact decide_eq_false h

/-- Add 1 to a number of 32 bits. -/
def inc (x : Int) : Int := (x + 1) % 4294967296

/-- The word that its next step uses. -/
def Tk.wh (t : Tk) : Int :=
  match t.ph with
  | 0 => t.at'
  | 1 => t.at' + 1
  | 2 => t.cl
  | 3 => t.cl
  | _ => t.at' + 1
/-- Whether its next step finds no word, or there is none. -/
def Tk.over (n : Nat) (t : Tk) : Bool := decide (5 ≤ t.ph) || !inM n t.wh
/-- Changes nothing but be done. -/
def Tk.end (t : Tk) : Tk := { t with ph := 5, ld := if t.ph = 2 then 0 else t.ld, done := true }
/-- A step that finds its word, x. -/
def Tk.go (t : Tk) (x : Int) : Tk :=
  match t.ph with
  | 0 => { t with tk := x, ph := 1 }
  | 1 => if x = t.tk then { t with ph := 2 } else t
  | 2 => { t with ld := x, ph := 3 }
  | 3 => { t with ph := 4 }
  | _ => if t.left = 1 then { t with left := 0, ph := 5, done := true } else { t with left := t.left - 1, ph := 0 }
/-- What it leaves of it. -/
def Tk.puts (t : Tk) (x : Int) : Int :=
  match t.ph with
  | 0 => inc x
  | 1 => x
  | 2 => x
  | 3 => inc t.ld
  | _ => inc t.tk
/-- A taker behind its next step; x: its word. -/
def Tk.next (n : Nat) (t : Tk) (x : Int) : Tk := if t.over n then t.end else t.go x
/-- The word behind its next step. -/
def Tk.word (n : Nat) (t : Tk) (x : Int) : Int := if t.over n then x else t.puts x
/-- Whether it holds the lock, or waits for it. -/
def Tk.holds (t : Tk) : Bool := decide (2 ≤ t.ph) && decide (t.ph ≤ 4)
def Tk.waits (t : Tk) : Bool := decide (t.ph = 1)

/-- One of a row turned to another one. -/
def upd {α : Type} (l : Nat → α) (i : Nat) (x : α) : Nat → α := fun j => if j = i then x else l j
theorem upd_same {α : Type} {l : Nat → α} {i : Nat} {x : α} : upd l i x i = x := by simp [upd]
theorem upd_other {α : Type} {l : Nat → α} {i j : Nat} {x : α} (h : j ≠ i) : upd l i x j = l j := by simp [upd, h]
theorem upd_self {α : Type} (f : Nat → α) (i : Nat) : upd f i (f i) = f := by
  funext j; unfold upd; split
  · subst j; rfl
  · rfl

/-- Takers and words. -/
structure Sy where
  l : Nat → Tk
  f : Nat → Int

/-- A pick of a task that is there; m: how many words there are. -/
def Sy.pick (m : Nat) (s : Sy) (i : Nat) : Sy :=
  if (s.l i).done then s else
  { l := upd s.l i ((s.l i).next m (s.f (s.l i).wh.toNat)), f := upd s.f (s.l i).wh.toNat ((s.l i).word m (s.f (s.l i).wh.toNat)) }
/-- Whether there is such a task. -/
def isT (N : Nat) (i : Int) : Bool := decide (0 ≤ i ∧ i < (N : Int))
/-- A pick of any number. -/
def Sy.pickI (m N : Nat) (s : Sy) (i : Int) : Sy := if isT N i then s.pick m i.toNat else s
/-- What it answers. -/
def Sy.err (N : Nat) (s : Sy) (i : Int) : Int := if isT N i then (if (s.l i.toNat).done then 91 else 0) else 90
/-- The first k tasks picked. -/
def Sy.upTo (m : Nat) (s : Sy) : Nat → Sy
  | 0 => s
  | k + 1 => (s.upTo m k).pick m k
/-- A round. -/
def Sy.round (m N : Nat) (s : Sy) : Sy := s.upTo m N
/-- How many tasks aren't done. -/
def leftN (l : Nat → Tk) : Nat → Nat
  | 0 => 0
  | k + 1 => leftN l k + if (l k).done then 0 else 1
theorem leftN_le (l : Nat → Tk) : ∀ N, leftN l N ≤ N
  | 0 => Nat.le_refl _
  | k + 1 => by have := leftN_le l k; simp only [leftN]; split <;> omega
theorem leftN_zero {l : Nat → Tk} : ∀ {N}, leftN l N = 0 → ∀ i, i < N → (l i).done = true
  | 0, _, i, hi => absurd hi (by omega)
  | k + 1, h, i, hi => by
    simp only [leftN] at h
    by_cases e : i = k
    · subst e
      cases hd : (l i).done
      · rw [hd] at h; simp at h
      · rfl
    · exact leftN_zero (l := l) (N := k) (by omega) i (by omega)
theorem leftN_of {l : Nat → Tk} : ∀ {N}, (∀ i, i < N → (l i).done = true) → leftN l N = 0
  | 0, _ => rfl
  | k + 1, h => by simp only [leftN]; rw [leftN_of fun i hi => h i (by omega), h k (by omega)]; rfl
theorem leftN_pos {l : Nat → Tk} : ∀ {N}, leftN l N ≠ 0 → ∃ i, i < N ∧ (l i).done = false
  | 0, h => absurd rfl h
  | k + 1, h => by
    cases hd : (l k).done
    · exact ⟨k, by omega, hd⟩
    · simp only [leftN, hd] at h
      obtain ⟨i, hi, e⟩ := leftN_pos (l := l) (N := k) (by simpa using h)
      exact ⟨i, by omega, e⟩
theorem leftN_congr {l l' : Nat → Tk} : ∀ {N}, (∀ i, i < N → (l i).done = (l' i).done) → leftN l N = leftN l' N
  | 0, _ => rfl
  | k + 1, h => by simp only [leftN]; rw [leftN_congr fun i hi => h i (by omega), h k (by omega)]

/-- So many rounds, as long as something is left. -/
def Sy.rounds (m N : Nat) (s : Sy) : Nat → Sy
  | 0 => s
  | k + 1 => if leftN s.l N = 0 then s else (s.round m N).rounds m N k
/-- How many rounds that are. -/
def Sy.count (m N : Nat) (s : Sy) : Nat → Nat
  | 0 => 0
  | k + 1 => if leftN s.l N = 0 then 0 else (s.round m N).count m N k + 1
theorem Sy.rounds_done {m N : Nat} {s : Sy} (h : leftN s.l N = 0) : ∀ k, s.rounds m N k = s
  | 0 => rfl
  | k + 1 => by simp only [Sy.rounds, h, if_true]
theorem Sy.rounds_add (m N : Nat) : ∀ (s : Sy) (j k : Nat), s.rounds m N (j + k) = (s.rounds m N j).rounds m N k
  | s, 0, k => by simp [Sy.rounds]
  | s, j + 1, k => by
    rw [show j + 1 + k = (j + k) + 1 by omega]
    simp only [Sy.rounds]
    split
    · rename_i h; rw [Sy.rounds_done h]
    · exact Sy.rounds_add m N _ j k
theorem Sy.count_le (m N : Nat) : ∀ (s : Sy) (k : Nat), s.count m N k ≤ k
  | _, 0 => Nat.le_refl _
  | s, k + 1 => by
    simp only [Sy.count]
    split
    · omega
    · have := Sy.count_le m N (s.round m N) k; omega
theorem pick_done {m : Nat} {s : Sy} {i : Nat} (h : (s.l i).done = true) : s.pick m i = s := by unfold Sy.pick; rw [if_pos h]

/-- A sum over a row. -/
def sumN (g : Nat → Int) : Nat → Int
  | 0 => 0
  | k + 1 => sumN g k + g k
theorem sumN_upd (g : Nat → Int) (i : Nat) (x : Int) : ∀ N, sumN (upd g i x) N = if i < N then sumN g N - g i + x else sumN g N
  | 0 => by simp [sumN]
  | k + 1 => by
    simp only [sumN, sumN_upd g i x k]
    by_cases h : i < k
    · rw [upd_other (show k ≠ i by omega), if_pos h, if_pos (show i < k + 1 by omega)]; omega
    · by_cases e : i = k
      · subst e; rw [upd_same, if_neg h, if_pos (show i < i + 1 by omega)]; omega
      · rw [upd_other (fun hh => e hh.symm), if_neg h, if_neg (show ¬ i < k + 1 by omega)]
theorem sumN_congr {g g' : Nat → Int} : ∀ {N}, (∀ i, i < N → g i = g' i) → sumN g N = sumN g' N
  | 0, _ => rfl
  | k + 1, h => by simp only [sumN]; rw [sumN_congr fun i hi => h i (by omega), h k (by omega)]
theorem sumN_nonneg {g : Nat → Int} : ∀ {N}, (∀ i, i < N → 0 ≤ g i) → 0 ≤ sumN g N
  | 0, _ => Int.le_refl _
  | k + 1, h => by have := sumN_nonneg (g := g) (N := k) fun i hi => h i (by omega); have := h k (by omega); simp only [sumN]; omega
theorem sumN_ge {g : Nat → Int} : ∀ {N}, (∀ i, i < N → 0 ≤ g i) → ∀ i, i < N → g i ≤ sumN g N
  | 0, _, i, hi => absurd hi (by omega)
  | k + 1, h, i, hi => by
    have h0 := sumN_nonneg (g := g) (N := k) fun j hj => h j (by omega)
    have h1 := h k (by omega)
    simp only [sumN]
    by_cases e : i = k
    · subst e; omega
    · have := sumN_ge (g := g) (N := k) (fun j hj => h j (by omega)) i (by omega); omega
theorem sumN_zero {g : Nat → Int} : ∀ {N}, (∀ i, i < N → g i = 0) → sumN g N = 0
  | 0, _ => rfl
  | k + 1, h => by simp only [sumN]; rw [sumN_zero fun i hi => h i (by omega), h k (by omega)]; rfl
theorem sumN_le {g : Nat → Int} {c : Int} (hc : 0 ≤ c) : ∀ {N}, (∀ i, i < N → g i ≤ c) → sumN g N ≤ N * c
  | 0, _ => by simp [sumN]
  | k + 1, h => by
    have := sumN_le (g := g) (N := k) hc fun i hi => h i (by omega)
    have := h k (by omega)
    simp only [sumN]
    rw [Int.natCast_add, Int.add_mul]
    omega
theorem sumN_add (g g' : Nat → Int) : ∀ N, sumN (fun i => g i + g' i) N = sumN g N + sumN g' N
  | 0 => rfl
  | k + 1 => by simp only [sumN, sumN_add g g' k]; omega
/-- A row of which one only counts. -/
theorem sumN_one {g : Nat → Int} {i : Nat} : ∀ {N}, i < N → (∀ j, j < N → j ≠ i → g j = 0) → sumN g N = g i
  | 0, h, _ => absurd h (by omega)
  | k + 1, h, h0 => by
    simp only [sumN]
    by_cases e : i = k
    · subst e; rw [sumN_zero fun j hj => h0 j (by omega) (by omega)]; omega
    · rw [sumN_one (i := i) (N := k) (by omega) fun j hj => h0 j (by omega), h0 k (by omega) (fun hh => e hh.symm)]; omega

/-! ## Over whole numbers -/

/-- Takers whose tickets are whole numbers; how many were drawn, how many served, the cell. -/
structure Gh where
  l : Nat → Tk
  a : Int
  r : Int
  c : Int
/-- A pick. -/
def Gh.pick (g : Gh) (i : Nat) : Gh :=
  if (g.l i).done then g else
  match (g.l i).ph with
  | 0 => { g with l := upd g.l i { g.l i with tk := g.a, ph := 1 }, a := g.a + 1 }
  | 1 => if g.r = (g.l i).tk then { g with l := upd g.l i { g.l i with ph := 2 } } else g
  | 2 => { g with l := upd g.l i { g.l i with ld := g.c, ph := 3 } }
  | 3 => { g with l := upd g.l i { g.l i with ph := 4 }, c := (g.l i).ld + 1 }
  | 4 => { g with l := upd g.l i (if (g.l i).left = 1 then { g.l i with left := 0, ph := 5, done := true } else { g.l i with left := (g.l i).left - 1, ph := 0 }), r := g.r + 1 }
  | _ => { g with l := upd g.l i { g.l i with ph := 5, done := true } }
/-- Has drawn a ticket. -/
def Tk.act (t : Tk) : Prop := 1 ≤ t.ph ∧ t.ph ≤ 4
/-- The same as a number. -/
def Tk.actN (t : Tk) : Int := if 1 ≤ t.ph ∧ t.ph ≤ 4 then 1 else 0
/-- What is kept; S: how many times the lock is taken in all. -/
structure Inv (N : Nat) (S : Int) (g : Gh) : Prop where
  ph : ∀ i, i < N → (g.l i).ph ≤ 5
  dn : ∀ i, i < N → (g.l i).done = true → (g.l i).ph = 5
  lf : ∀ i, i < N → if (g.l i).ph = 5 then (g.l i).left = 0 else 1 ≤ (g.l i).left
  rng : ∀ i, i < N → (g.l i).act → g.r ≤ (g.l i).tk ∧ (g.l i).tk < g.a
  hld : ∀ i, i < N → 2 ≤ (g.l i).ph → (g.l i).ph ≤ 4 → (g.l i).tk = g.r
  one : ∀ i j, i < N → j < N → (g.l i).act → (g.l j).act → (g.l i).tk = (g.l j).tk → i = j
  all : ∀ v, g.r ≤ v → v < g.a → ∃ i, i < N ∧ (g.l i).act ∧ (g.l i).tk = v
  cnt : sumN (fun i => (g.l i).actN) N = g.a - g.r
  c3 : ∀ i, i < N → (g.l i).ph = 3 → (g.l i).ld = g.r
  c4 : ∀ i, i < N → (g.l i).ph = 4 → g.c = g.r + 1
  c0 : (∀ i, i < N → (g.l i).ph ≠ 4) → g.c = g.r
  sum : g.r + sumN (fun i => (g.l i).left) N = S
  r0 : 0 ≤ g.r
theorem Inv.left0 {N : Nat} {S : Int} {g : Gh} (h : Inv N S g) {i : Nat} (hi : i < N) : 0 ≤ (g.l i).left := by
  have := h.lf i hi
  split at this <;> omega
theorem Inv.rest0 {N : Nat} {S : Int} {g : Gh} (h : Inv N S g) : 0 ≤ sumN (fun i => (g.l i).left) N := sumN_nonneg fun _ hi => h.left0 hi
theorem Inv.rS {N : Nat} {S : Int} {g : Gh} (h : Inv N S g) : g.r ≤ S := by have := h.rest0; have := h.sum; omega
theorem actN_rng (t : Tk) : 0 ≤ t.actN ∧ t.actN ≤ 1 := by unfold Tk.actN; split <;> omega
theorem Inv.aN {N : Nat} {S : Int} {g : Gh} (h : Inv N S g) : g.r ≤ g.a ∧ g.a ≤ g.r + N := by
  have h1 := sumN_le (g := fun i => (g.l i).actN) (c := 1) (by omega) (N := N) fun i _ => (actN_rng _).2
  have h2 := sumN_nonneg (g := fun i => (g.l i).actN) (N := N) fun i _ => (actN_rng _).1
  have := h.cnt
  omega
/-- A row with one turned. -/
theorem sumN_turn (F : Tk → Int) (l : Nat → Tk) (i N : Nat) (t : Tk) (hi : i < N) : sumN (fun j => F (upd l i t j)) N = sumN (fun j => F (l j)) N - F (l i) + F t := by
  have e : (fun j => F (upd l i t j)) = upd (fun j => F (l j)) i (F t) := by
    funext j
    unfold upd
    split <;> rfl
  rw [e, sumN_upd, if_pos hi]

/-- One taker turned, and the numbers. -/
theorem Inv.turn {N : Nat} {S : Int} {g : Gh} (h : Inv N S g) {i : Nat} (hi : i < N) (t : Tk) (a r c : Int)
    (p1 : t.ph ≤ 5) (p2 : t.done = true → t.ph = 5) (p3 : if t.ph = 5 then t.left = 0 else 1 ≤ t.left)
    (p4 : ∀ j, j < N → j ≠ i → (g.l j).act → r ≤ (g.l j).tk ∧ (g.l j).tk < a) (p4i : t.act → r ≤ t.tk ∧ t.tk < a)
    (p5 : ∀ j, j < N → j ≠ i → 2 ≤ (g.l j).ph → (g.l j).ph ≤ 4 → (g.l j).tk = r) (p5i : 2 ≤ t.ph → t.ph ≤ 4 → t.tk = r)
    (p6 : ∀ j, j < N → j ≠ i → (g.l j).act → t.act → (g.l j).tk ≠ t.tk)
    (p7 : ∀ v, r ≤ v → v < a → (t.act ∧ t.tk = v) ∨ ∃ j, j < N ∧ j ≠ i ∧ (g.l j).act ∧ (g.l j).tk = v)
    (p8 : g.a - g.r - (g.l i).actN + t.actN = a - r)
    (p9 : ∀ j, j < N → j ≠ i → (g.l j).ph = 3 → (g.l j).ld = r) (p9i : t.ph = 3 → t.ld = r)
    (p10 : ∀ j, j < N → j ≠ i → (g.l j).ph = 4 → c = r + 1) (p10i : t.ph = 4 → c = r + 1)
    (p11 : (∀ j, j < N → j ≠ i → (g.l j).ph ≠ 4) → t.ph ≠ 4 → c = r)
    (p12 : r - (g.l i).left + t.left = g.r) (p13 : 0 ≤ r) : Inv N S ⟨upd g.l i t, a, r, c⟩ := by
  refine ⟨fun j hj => ?_, fun j hj => ?_, fun j hj => ?_, fun j hj => ?_, fun j hj => ?_, fun j k hj hk => ?_, fun v hv1 hv2 => ?_, ?_, fun j hj => ?_, fun j hj => ?_, fun hn => ?_, ?_, p13⟩
  · show (upd g.l i t j).ph ≤ 5
    by_cases e : j = i
    · subst e; rw [upd_same]; exact p1
    · rw [upd_other e]; exact h.ph j hj
  · show (upd g.l i t j).done = true → (upd g.l i t j).ph = 5
    by_cases e : j = i
    · subst e; rw [upd_same]; exact p2
    · rw [upd_other e]; exact h.dn j hj
  · show if (upd g.l i t j).ph = 5 then (upd g.l i t j).left = 0 else 1 ≤ (upd g.l i t j).left
    by_cases e : j = i
    · subst e; rw [upd_same]; exact p3
    · rw [upd_other e]; exact h.lf j hj
  · show (upd g.l i t j).act → r ≤ (upd g.l i t j).tk ∧ (upd g.l i t j).tk < a
    by_cases e : j = i
    · subst e; rw [upd_same]; exact p4i
    · rw [upd_other e]; exact p4 j hj e
  · show 2 ≤ (upd g.l i t j).ph → (upd g.l i t j).ph ≤ 4 → (upd g.l i t j).tk = r
    by_cases e : j = i
    · subst e; rw [upd_same]; exact p5i
    · rw [upd_other e]; exact p5 j hj e
  · show (upd g.l i t j).act → (upd g.l i t k).act → (upd g.l i t j).tk = (upd g.l i t k).tk → j = k
    by_cases e : j = i
    · by_cases e2 : k = i
      · intro _ _ _; omega
      · subst e
        rw [upd_same, upd_other e2]
        intro h1 h2 h3
        exact absurd h3.symm (p6 k hk e2 h2 h1)
    · by_cases e2 : k = i
      · subst e2
        rw [upd_same, upd_other e]
        intro h1 h2 h3
        exact absurd h3 (p6 j hj e h1 h2)
      · rw [upd_other e, upd_other e2]; exact h.one j k hj hk
  · show ∃ j, j < N ∧ (upd g.l i t j).act ∧ (upd g.l i t j).tk = v
    rcases p7 v hv1 hv2 with ⟨h1, h2⟩ | ⟨j, h1, h2, h3, h4⟩
    · exact ⟨i, hi, by rw [upd_same]; exact h1, by rw [upd_same]; exact h2⟩
    · exact ⟨j, h1, by rw [upd_other h2]; exact h3, by rw [upd_other h2]; exact h4⟩
  · show sumN (fun j => (upd g.l i t j).actN) N = a - r
    have := sumN_turn Tk.actN g.l i N t hi
    have := h.cnt
    omega
  · show (upd g.l i t j).ph = 3 → (upd g.l i t j).ld = r
    by_cases e : j = i
    · subst e; rw [upd_same]; exact p9i
    · rw [upd_other e]; exact p9 j hj e
  · show (upd g.l i t j).ph = 4 → c = r + 1
    by_cases e : j = i
    · subst e; rw [upd_same]; exact p10i
    · rw [upd_other e]; exact p10 j hj e
  · show c = r
    refine p11 (fun j hj e => ?_) ?_
    · have : (upd g.l i t j).ph ≠ 4 := hn j hj
      rwa [upd_other e] at this
    · have : (upd g.l i t i).ph ≠ 4 := hn i hi
      rwa [upd_same] at this
  · show r + sumN (fun j => (upd g.l i t j).left) N = S
    have := sumN_turn Tk.left g.l i N t hi
    have := h.sum
    omega
theorem act_of {t : Tk} (h1 : 1 ≤ t.ph) (h2 : t.ph ≤ 4) : t.act := ⟨h1, h2⟩
theorem actN_yes {t : Tk} (h1 : 1 ≤ t.ph) (h2 : t.ph ≤ 4) : t.actN = 1 := by unfold Tk.actN; rw [if_pos ⟨h1, h2⟩]
theorem actN_no {t : Tk} (h : ¬ (1 ≤ t.ph ∧ t.ph ≤ 4)) : t.actN = 0 := by unfold Tk.actN; rw [if_neg h]
/-- Who has the served ticket is alone. -/
theorem Inv.alone {N : Nat} {S : Int} {g : Gh} (h : Inv N S g) {i j : Nat} (hi : i < N) (hj : j < N) (h1 : 2 ≤ (g.l i).ph) (h2 : (g.l i).ph ≤ 4) (h3 : 2 ≤ (g.l j).ph) (h4 : (g.l j).ph ≤ 4) : j = i :=
  h.one j i hj hi ⟨by omega, h4⟩ ⟨by omega, h2⟩ (by rw [h.hld i hi h1 h2, h.hld j hj h3 h4])

/-- What a pick of a taker makes of the numbers, by its step. -/
theorem gpick_done {g : Gh} {i : Nat} (h : (g.l i).done = true) : g.pick i = g := by unfold Gh.pick; rw [if_pos h]
theorem gpick0 {g : Gh} {i : Nat} (hd : (g.l i).done = false) (h : (g.l i).ph = 0) : g.pick i = { g with l := upd g.l i { g.l i with tk := g.a, ph := 1 }, a := g.a + 1 } := by
  unfold Gh.pick; rw [if_neg (by simp [hd]), h]; rfl
theorem gpick1 {g : Gh} {i : Nat} (hd : (g.l i).done = false) (h : (g.l i).ph = 1) (hr : g.r = (g.l i).tk) : g.pick i = { g with l := upd g.l i { g.l i with ph := 2 } } := by
  unfold Gh.pick; rw [if_neg (by simp [hd]), h]; simp only; rw [if_pos hr]
theorem gpick1n {g : Gh} {i : Nat} (hd : (g.l i).done = false) (h : (g.l i).ph = 1) (hr : g.r ≠ (g.l i).tk) : g.pick i = g := by
  unfold Gh.pick; rw [if_neg (by simp [hd]), h]; simp only; rw [if_neg hr]
theorem gpick2 {g : Gh} {i : Nat} (hd : (g.l i).done = false) (h : (g.l i).ph = 2) : g.pick i = { g with l := upd g.l i { g.l i with ld := g.c, ph := 3 } } := by
  unfold Gh.pick; rw [if_neg (by simp [hd]), h]; rfl
theorem gpick3 {g : Gh} {i : Nat} (hd : (g.l i).done = false) (h : (g.l i).ph = 3) : g.pick i = { g with l := upd g.l i { g.l i with ph := 4 }, c := (g.l i).ld + 1 } := by
  unfold Gh.pick; rw [if_neg (by simp [hd]), h]; rfl
theorem gpick4 {g : Gh} {i : Nat} (hd : (g.l i).done = false) (h : (g.l i).ph = 4) : g.pick i = { g with l := upd g.l i (if (g.l i).left = 1 then { g.l i with left := 0, ph := 5, done := true } else { g.l i with left := (g.l i).left - 1, ph := 0 }), r := g.r + 1 } := by
  unfold Gh.pick; rw [if_neg (by simp [hd]), h]; rfl
theorem gpick5 {g : Gh} {i : Nat} (hd : (g.l i).done = false) (h : (g.l i).ph = 5) : g.pick i = { g with l := upd g.l i { g.l i with ph := 5, done := true } } := by
  unfold Gh.pick; rw [if_neg (by simp [hd]), h]; rfl
theorem cases6 {p : Nat} (h : p ≤ 5) : p = 0 ∨ p = 1 ∨ p = 2 ∨ p = 3 ∨ p = 4 ∨ p = 5 := by omega

theorem Inv.pick {N : Nat} {S : Int} {g : Gh} (h : Inv N S g) {i : Nat} (hi : i < N) : Inv N S (g.pick i) := by
  cases hd : (g.l i).done
  · have hlf := h.lf i hi
    have hr0 := h.r0
    have haN := h.aN
    rcases cases6 (h.ph i hi) with e | e | e | e | e | e
    · rw [gpick0 hd e]
      rw [e, if_neg (by omega)] at hlf
      refine h.turn hi _ _ _ _ (by simp) (fun hh => by simp [hd] at hh) (by simpa using hlf) (fun j hj _ ha => by have := h.rng j hj ha; omega) (fun _ => by simp; omega) (fun j hj _ => h.hld j hj) (fun hh => by simp at hh)
        (fun j hj _ ha _ => by have := h.rng j hj ha; simp; omega) (fun v h1 h2 => ?_) ?_ (fun j hj _ => h.c3 j hj) (fun hh => by simp at hh) (fun j hj _ => h.c4 j hj) (fun hh => by simp at hh) (fun hn _ => h.c0 fun j hj => ?_) (by simp) hr0
      · by_cases hv : v = g.a
        · exact .inl ⟨by unfold Tk.act; simp, hv.symm⟩
        · obtain ⟨j, q1, q2, q3⟩ := h.all v h1 (by omega)
          exact .inr ⟨j, q1, fun hj => by subst hj; unfold Tk.act at q2; omega, q2, q3⟩
      · rw [actN_no (t := g.l i) (by omega), actN_yes (t := { g.l i with tk := g.a, ph := 1 }) (by simp) (by simp)]; omega
      · by_cases hj2 : j = i
        · subst hj2; omega
        · exact hn j hj hj2
    · have hact : (g.l i).act := ⟨by omega, by omega⟩
      by_cases hr : g.r = (g.l i).tk
      · rw [gpick1 hd e hr]
        rw [e, if_neg (by omega)] at hlf
        have hrg := h.rng i hi hact
        refine h.turn hi _ _ _ _ (by simp) (fun hh => by simp [hd] at hh) (by simpa using hlf) (fun j hj _ ha => h.rng j hj ha) (fun _ => hrg) (fun j hj _ => h.hld j hj) (fun _ _ => hr.symm)
          (fun j hj hne ha _ => fun e2 => hne (h.one j i hj hi ha hact e2)) (fun v h1 h2 => ?_) ?_ (fun j hj _ => h.c3 j hj) (fun hh => by simp at hh) (fun j hj _ => h.c4 j hj) (fun hh => by simp at hh) (fun hn _ => h.c0 fun j hj => ?_) (by simp) hr0
        · obtain ⟨j, q1, q2, q3⟩ := h.all v h1 h2
          by_cases hj2 : j = i
          · subst hj2; exact .inl ⟨by unfold Tk.act; simp, q3⟩
          · exact .inr ⟨j, q1, hj2, q2, q3⟩
        · rw [actN_yes (t := g.l i) (by omega) (by omega), actN_yes (t := { g.l i with ph := 2 }) (by simp) (by simp)]; omega
        · by_cases hj2 : j = i
          · subst hj2; omega
          · exact hn j hj hj2
      · rw [gpick1n hd e hr]; exact h
    · have hact : (g.l i).act := ⟨by omega, by omega⟩
      rw [gpick2 hd e]
      rw [e, if_neg (by omega)] at hlf
      have hrg := h.rng i hi hact
      have hh2 := h.hld i hi (by omega) (by omega)
      have hc : g.c = g.r := h.c0 fun j hj e4 => by
        have := h.alone hi hj (by omega) (by omega) (by omega) (by omega)
        subst this; omega
      refine h.turn hi _ _ _ _ (by simp) (fun hh => by simp [hd] at hh) (by simpa using hlf) (fun j hj _ ha => h.rng j hj ha) (fun _ => hrg) (fun j hj _ => h.hld j hj) (fun _ _ => hh2)
        (fun j hj hne ha _ => fun e2 => hne (h.one j i hj hi ha hact e2)) (fun v h1 h2 => ?_) ?_ (fun j hj _ => h.c3 j hj) (fun _ => hc) (fun j hj _ => h.c4 j hj) (fun hh => by simp at hh) (fun _ _ => hc) (by simp) hr0
      · obtain ⟨j, q1, q2, q3⟩ := h.all v h1 h2
        by_cases hj2 : j = i
        · subst hj2; exact .inl ⟨by unfold Tk.act; simp, q3⟩
        · exact .inr ⟨j, q1, hj2, q2, q3⟩
      · rw [actN_yes (t := g.l i) (by omega) (by omega), actN_yes (t := { g.l i with ld := g.c, ph := 3 }) (by simp) (by simp)]; omega
    · have hact : (g.l i).act := ⟨by omega, by omega⟩
      rw [gpick3 hd e]
      rw [e, if_neg (by omega)] at hlf
      have hrg := h.rng i hi hact
      have hh2 := h.hld i hi (by omega) (by omega)
      have hc : (g.l i).ld + 1 = g.r + 1 := by rw [h.c3 i hi e]
      refine h.turn hi _ _ _ _ (by simp) (fun hh => by simp [hd] at hh) (by simpa using hlf) (fun j hj _ ha => h.rng j hj ha) (fun _ => hrg) (fun j hj _ => h.hld j hj) (fun _ _ => hh2)
        (fun j hj hne ha _ => fun e2 => hne (h.one j i hj hi ha hact e2)) (fun v h1 h2 => ?_) ?_ (fun j hj _ => h.c3 j hj) (fun hh => by simp at hh) (fun j hj _ _ => hc) (fun _ => hc) (fun _ hn => absurd rfl hn) (by simp) hr0
      · obtain ⟨j, q1, q2, q3⟩ := h.all v h1 h2
        by_cases hj2 : j = i
        · subst hj2; exact .inl ⟨by unfold Tk.act; simp, q3⟩
        · exact .inr ⟨j, q1, hj2, q2, q3⟩
      · rw [actN_yes (t := g.l i) (by omega) (by omega), actN_yes (t := { g.l i with ph := 4 }) (by simp) (by simp)]; omega
    · have hact : (g.l i).act := ⟨by omega, by omega⟩
      rw [gpick4 hd e]
      rw [e, if_neg (by omega)] at hlf
      have hrg := h.rng i hi hact
      have hh2 := h.hld i hi (by omega) (by omega)
      have hc := h.c4 i hi e
      have hno : ∀ j, j < N → j ≠ i → ¬ (2 ≤ (g.l j).ph ∧ (g.l j).ph ≤ 4) := fun j hj hne hh => hne (h.alone hi hj (by omega) (by omega) hh.1 hh.2)
      obtain ⟨t, ht⟩ : ∃ t, t = (if (g.l i).left = 1 then { g.l i with left := 0, ph := 5, done := true } else { g.l i with left := (g.l i).left - 1, ph := 0 }) := ⟨_, rfl⟩
      rw [← ht]
      have ht1 : (t.ph = 5 ∧ t.left = 0 ∧ (g.l i).left = 1) ∨ (t.ph = 0 ∧ t.left = (g.l i).left - 1 ∧ (g.l i).left ≠ 1 ∧ t.done = false) := by
        rw [ht]
        split
        · rename_i h1; exact .inl ⟨rfl, rfl, h1⟩
        · rename_i h1; exact .inr ⟨rfl, rfl, h1, hd⟩
      refine h.turn hi t _ _ _ (by omega) (fun hh => ?_) ?_ (fun j hj hne ha => ?_) (fun hh => by unfold Tk.act at hh; omega) (fun j hj hne q1 q2 => absurd ⟨q1, q2⟩ (hno j hj hne)) (fun q1 q2 => by omega)
        (fun j hj hne ha hh => by unfold Tk.act at hh; omega) (fun v h1 h2 => ?_) ?_ (fun j hj hne q1 => absurd ⟨by omega, by omega⟩ (hno j hj hne)) (fun hh => by omega) (fun j hj hne q1 => absurd ⟨by omega, by omega⟩ (hno j hj hne)) (fun hh => by omega) (fun _ _ => hc) (by omega) (by omega)
      · rcases ht1 with q | q
        · exact q.1
        · rw [q.2.2.2] at hh; cases hh
      · rcases ht1 with q | q
        · rw [if_pos q.1]; exact q.2.1
        · rw [if_neg (by omega)]; omega
      · have h1 := h.rng j hj ha
        have h2 : (g.l j).tk ≠ (g.l i).tk := fun e2 => hne (h.one j i hj hi ha hact e2)
        omega
      · obtain ⟨j, q1, q2, q3⟩ := h.all v (by omega) h2
        exact .inr ⟨j, q1, fun hj => by subst hj; omega, q2, q3⟩
      · rw [actN_yes (t := g.l i) (by omega) (by omega), actN_no (t := t) (by omega)]; omega
    · rw [gpick5 hd e]
      rw [e, if_pos rfl] at hlf
      refine h.turn hi _ _ _ _ (by simp) (fun _ => rfl) (by simpa using hlf) (fun j hj _ ha => h.rng j hj ha) (fun hh => by unfold Tk.act at hh; simp at hh) (fun j hj _ => h.hld j hj) (fun _ hh => by simp at hh)
        (fun j hj _ ha hh => by unfold Tk.act at hh; simp at hh) (fun v h1 h2 => ?_) ?_ (fun j hj _ => h.c3 j hj) (fun hh => by simp at hh) (fun j hj _ => h.c4 j hj) (fun hh => by simp at hh) (fun hn _ => h.c0 fun j hj => ?_) (by simp) hr0
      · obtain ⟨j, q1, q2, q3⟩ := h.all v h1 h2
        exact .inr ⟨j, q1, fun hj => by subst hj; unfold Tk.act at q2; omega, q2, q3⟩
      · rw [actN_no (t := g.l i) (by omega), actN_no (t := { g.l i with ph := 5, done := true }) (by simp)]; omega
      · by_cases hj2 : j = i
        · subst hj2; omega
        · exact hn j hj hj2
  · rw [gpick_done hd]; exact h
def Gh.pickI (N : Nat) (g : Gh) (i : Int) : Gh := if isT N i then g.pick i.toNat else g
theorem isT_yes {N : Nat} {i : Int} (h : isT N i = true) : 0 ≤ i ∧ i < N := by unfold isT at h; exact of_decide_eq_true h
theorem Inv.pickI {N : Nat} {S : Int} {g : Gh} (h : Inv N S g) (i : Int) : Inv N S (g.pickI N i) := by
  unfold Gh.pickI
  split
  · rename_i hh; have := isT_yes hh; exact h.pick (by omega)
  · exact h

/-! ## Takers and words against whole numbers -/

structure Rel (q : Int) (N : Nat) (g : Gh) (s : Sy) : Prop where
  ph : ∀ i, i < N → (s.l i).ph = (g.l i).ph
  left : ∀ i, i < N → (s.l i).left = (g.l i).left
  done : ∀ i, i < N → (s.l i).done = (g.l i).done
  ld : ∀ i, i < N → (g.l i).ph = 3 → (s.l i).ld = (g.l i).ld
  at0 : ∀ i, i < N → (g.l i).ph ≠ 5 → (s.l i).at' = 0 ∧ (s.l i).cl = 2
  tk : ∀ i, i < N → (g.l i).act → (s.l i).tk = (q + (g.l i).tk) % 4294967296
  f0 : s.f 0 = (q + g.a) % 4294967296
  f1 : s.f 1 = (q + g.r) % 4294967296
  f2 : s.f 2 = g.c
theorem Rel.turn {q : Int} {N : Nat} {g : Gh} {s : Sy} (h : Rel q N g s) {i : Nat} (t u : Tk) (a r c : Int) (f : Nat → Int) (h1 : u.ph = t.ph) (h2 : u.left = t.left) (h3 : u.done = t.done) (h4 : t.ph = 3 → u.ld = t.ld) (h5 : t.ph ≠ 5 → u.at' = 0 ∧ u.cl = 2)
    (h6 : t.act → u.tk = (q + t.tk) % 4294967296) (h7 : f 0 = (q + a) % 4294967296) (h8 : f 1 = (q + r) % 4294967296) (h9 : f 2 = c) : Rel q N ⟨upd g.l i t, a, r, c⟩ ⟨upd s.l i u, f⟩ := by
  refine ⟨fun j hj => ?_, fun j hj => ?_, fun j hj => ?_, fun j hj => ?_, fun j hj => ?_, fun j hj => ?_, h7, h8, h9⟩
  · show (upd s.l i u j).ph = (upd g.l i t j).ph
    by_cases e : j = i
    · subst e; rw [upd_same, upd_same]; exact h1
    · rw [upd_other e, upd_other e]; exact h.ph j hj
  · show (upd s.l i u j).left = (upd g.l i t j).left
    by_cases e : j = i
    · subst e; rw [upd_same, upd_same]; exact h2
    · rw [upd_other e, upd_other e]; exact h.left j hj
  · show (upd s.l i u j).done = (upd g.l i t j).done
    by_cases e : j = i
    · subst e; rw [upd_same, upd_same]; exact h3
    · rw [upd_other e, upd_other e]; exact h.done j hj
  · show (upd g.l i t j).ph = 3 → (upd s.l i u j).ld = (upd g.l i t j).ld
    by_cases e : j = i
    · subst e; rw [upd_same, upd_same]; exact h4
    · rw [upd_other e, upd_other e]; exact h.ld j hj
  · show (upd g.l i t j).ph ≠ 5 → (upd s.l i u j).at' = 0 ∧ (upd s.l i u j).cl = 2
    by_cases e : j = i
    · subst e; rw [upd_same, upd_same]; exact h5
    · rw [upd_other e, upd_other e]; exact h.at0 j hj
  · show (upd g.l i t j).act → (upd s.l i u j).tk = (q + (upd g.l i t j).tk) % 4294967296
    by_cases e : j = i
    · subst e; rw [upd_same, upd_same]; exact h6
    · rw [upd_other e, upd_other e]; exact h.tk j hj
/-- A pick of a taker that finds its word. -/
theorem pick_go {m : Nat} {s : Sy} {i : Nat} {k : Nat} (hd : (s.l i).done = false) (hp : (s.l i).ph ≠ 5) (hp2 : (s.l i).ph ≤ 5) (hw : (s.l i).wh = k) (hk : k < m) : s.pick m i = ⟨upd s.l i ((s.l i).go (s.f k)), upd s.f k ((s.l i).puts (s.f k))⟩ := by
  unfold Sy.pick Tk.next Tk.word
  have ho : (s.l i).over m = false := by
    unfold Tk.over
    rw [hw, inM_of (by omega)]
    simp; omega
  rw [if_neg (by simp [hd]), ho, hw]
  rfl
theorem pick_over {m : Nat} {s : Sy} {i : Nat} (hd : (s.l i).done = false) (hp : (s.l i).ph = 5) : s.pick m i = ⟨upd s.l i (s.l i).end, s.f⟩ := by
  unfold Sy.pick Tk.next Tk.word
  have ho : (s.l i).over m = true := by unfold Tk.over; rw [hp]; rfl
  rw [if_neg (by simp [hd]), ho]
  simp only [if_true]
  rw [upd_self]
theorem Rel.pick {q S : Int} {N : Nat} {g : Gh} {s : Sy} (h : Rel q N g s) (hI : Inv N S g) (hS : S ≤ 1000) (hN : N ≤ 1000) {i : Nat} (hi : i < N) : Rel q N (g.pick i) (s.pick 3 i) := by
  have e1 := h.ph i hi
  have e2 := h.left i hi
  have e3 := h.done i hi
  have hr0 := hI.r0
  have hrS := hI.rS
  have haN := hI.aN
  have hf0 := h.f0
  have hf1 := h.f1
  have hf2 := h.f2
  cases hd : (g.l i).done
  · rw [hd] at e3
    rcases cases6 (hI.ph i hi) with e | e | e | e | e | e
    all_goals have e0 := h.at0 i hi
    · obtain ⟨a0, c0⟩ := e0 (by omega)
      have e' : (s.l i).ph = 0 := by omega
      rw [gpick0 hd e, pick_go (k := 0) e3 (by omega) (by omega) (by unfold Tk.wh; rw [e', a0]; rfl) (by omega)]
      have hgo : (s.l i).go (s.f 0) = { s.l i with tk := s.f 0, ph := 1 } := by unfold Tk.go; rw [e']; rfl
      have hpu : (s.l i).puts (s.f 0) = inc (s.f 0) := by unfold Tk.puts; rw [e']; rfl
      rw [hgo, hpu]
      refine h.turn _ _ _ _ _ _ rfl e2 (by simp [e3, hd]) (fun hh => by simp at hh) (fun _ => ⟨a0, c0⟩) (fun _ => hf0) ?_ ?_ ?_
      · rw [upd_same, hf0]; unfold inc; omega
      · rw [upd_other (by omega)]; exact hf1
      · rw [upd_other (by omega)]; exact hf2
    · obtain ⟨a0, c0⟩ := e0 (by omega)
      have e' : (s.l i).ph = 1 := by omega
      have hact : (g.l i).act := ⟨by omega, by omega⟩
      have htk := h.tk i hi hact
      have hrg := hI.rng i hi hact
      rw [pick_go (k := 1) e3 (by omega) (by omega) (by unfold Tk.wh; rw [e', a0]; rfl) (by omega)]
      have hpu : (s.l i).puts (s.f 1) = s.f 1 := by unfold Tk.puts; rw [e']; rfl
      rw [hpu, upd_self]
      have hgo : (s.l i).go (s.f 1) = if s.f 1 = (s.l i).tk then { s.l i with ph := 2 } else s.l i := by unfold Tk.go; rw [e']; rfl
      rw [hgo]
      by_cases hr : g.r = (g.l i).tk
      · rw [gpick1 hd e hr, if_pos (by rw [hf1, htk, hr])]
        exact h.turn _ _ _ _ _ _ rfl e2 (by simp [e3, hd]) (fun hh => by simp at hh) (fun _ => ⟨a0, c0⟩) (fun _ => htk) hf0 hf1 hf2
      · rw [gpick1n hd e hr, if_neg (by rw [hf1, htk]; omega), upd_self]
        exact h
    · obtain ⟨a0, c0⟩ := e0 (by omega)
      have e' : (s.l i).ph = 2 := by omega
      have htk := h.tk i hi ⟨by omega, by omega⟩
      rw [gpick2 hd e, pick_go (k := 2) e3 (by omega) (by omega) (by unfold Tk.wh; rw [e']; exact c0) (by omega)]
      have hgo : (s.l i).go (s.f 2) = { s.l i with ld := s.f 2, ph := 3 } := by unfold Tk.go; rw [e']; rfl
      have hpu : (s.l i).puts (s.f 2) = s.f 2 := by unfold Tk.puts; rw [e']; rfl
      rw [hgo, hpu, upd_self]
      exact h.turn _ _ _ _ _ _ rfl e2 (by simp [e3, hd]) (fun _ => hf2) (fun _ => ⟨a0, c0⟩) (fun _ => htk) hf0 hf1 hf2
    · obtain ⟨a0, c0⟩ := e0 (by omega)
      have e' : (s.l i).ph = 3 := by omega
      have htk := h.tk i hi ⟨by omega, by omega⟩
      have hld := h.ld i hi e
      have hc3 := hI.c3 i hi e
      rw [gpick3 hd e, pick_go (k := 2) e3 (by omega) (by omega) (by unfold Tk.wh; rw [e']; exact c0) (by omega)]
      have hgo : (s.l i).go (s.f 2) = { s.l i with ph := 4 } := by unfold Tk.go; rw [e']; rfl
      have hpu : (s.l i).puts (s.f 2) = inc (s.l i).ld := by unfold Tk.puts; rw [e']; rfl
      rw [hgo, hpu]
      refine h.turn _ _ _ _ _ _ rfl e2 (by simp [e3, hd]) (fun hh => by simp at hh) (fun _ => ⟨a0, c0⟩) (fun _ => htk) ?_ ?_ ?_
      · rw [upd_other (by omega)]; exact hf0
      · rw [upd_other (by omega)]; exact hf1
      · rw [upd_same, hld]; unfold inc; omega
    · obtain ⟨a0, c0⟩ := e0 (by omega)
      have e' : (s.l i).ph = 4 := by omega
      have htk := h.tk i hi ⟨by omega, by omega⟩
      have hh2 := hI.hld i hi (by omega) (by omega)
      rw [gpick4 hd e, pick_go (k := 1) e3 (by omega) (by omega) (by unfold Tk.wh; rw [e', a0]; rfl) (by omega)]
      have hgo : (s.l i).go (s.f 1) = if (s.l i).left = 1 then { s.l i with left := 0, ph := 5, done := true } else { s.l i with left := (s.l i).left - 1, ph := 0 } := by unfold Tk.go; rw [e']; rfl
      have hpu : (s.l i).puts (s.f 1) = inc (s.l i).tk := by unfold Tk.puts; rw [e']; rfl
      rw [hgo, hpu, e2]
      have w0 : upd s.f 1 (inc (s.l i).tk) 0 = (q + g.a) % 4294967296 := by rw [upd_other (by omega)]; exact hf0
      have w1 : upd s.f 1 (inc (s.l i).tk) 1 = (q + (g.r + 1)) % 4294967296 := by rw [upd_same, htk, hh2]; unfold inc; omega
      have w2 : upd s.f 1 (inc (s.l i).tk) 2 = g.c := by rw [upd_other (by omega)]; exact hf2
      split
      · exact h.turn _ _ _ _ _ _ rfl rfl rfl (fun hh => by simp at hh) (fun hh => absurd rfl hh) (fun hh => by unfold Tk.act at hh; simp at hh) w0 w1 w2
      · exact h.turn _ _ _ _ _ _ rfl rfl (by simp [e3, hd]) (fun hh => by simp at hh) (fun _ => ⟨a0, c0⟩) (fun hh => by unfold Tk.act at hh; simp at hh) w0 w1 w2
    · have e' : (s.l i).ph = 5 := by omega
      rw [gpick5 hd e, pick_over e3 e']
      exact h.turn _ _ _ _ _ _ rfl e2 rfl (fun hh => by simp at hh) (fun hh => absurd rfl hh) (fun hh => by unfold Tk.act at hh; simp at hh) hf0 hf1 hf2
  · rw [gpick_done hd, pick_done (by rw [e3]; exact hd)]; exact h
theorem Rel.pickI {q S : Int} {N : Nat} {g : Gh} {s : Sy} (h : Rel q N g s) (hI : Inv N S g) (hS : S ≤ 1000) (hN : N ≤ 1000) (i : Int) : Rel q N (g.pickI N i) (s.pickI 3 N i) := by
  unfold Gh.pickI Sy.pickI
  split
  · rename_i hh; have := isT_yes hh; exact h.pick hI hS hN (by omega)
  · exact h
theorem Rel.err {q q' : Int} {N : Nat} {g : Gh} {s s' : Sy} (h : Rel q N g s) (h' : Rel q' N g s') (i : Int) : s.err N i = s'.err N i := by
  unfold Sy.err
  split
  · rename_i hh; have := isT_yes hh; rw [h.done _ (by omega), h'.done _ (by omega)]
  · rfl
theorem Rel.leftN {q : Int} {N : Nat} {g : Gh} {s : Sy} (h : Rel q N g s) : leftN s.l N = Go.Proofs.YtdegfadahlcgnaaDoor.leftN g.l N := leftN_congr h.done

/-! ## All are done in the end -/

/-- How much work is left. -/
def Tk.work (t : Tk) : Int := if t.done then 0 else if t.ph = 5 then 1 else 1 + 5 * t.left - t.ph
def Gh.work (g : Gh) (N : Nat) : Int := sumN (fun i => (g.l i).work) N
theorem Inv.work1 {N : Nat} {S : Int} {g : Gh} (h : Inv N S g) {i : Nat} (hi : i < N) : 0 ≤ (g.l i).work ∧ ((g.l i).done = false → 1 ≤ (g.l i).work) := by
  have h1 := h.lf i hi
  have h2 := h.ph i hi
  unfold Tk.work
  cases hd : (g.l i).done
  · split at h1
    · rename_i e; rw [if_pos e]; simp
    · rename_i e; rw [if_neg e]; simp; omega
  · simp
theorem Inv.work0 {N : Nat} {S : Int} {g : Gh} (h : Inv N S g) : 0 ≤ g.work N := sumN_nonneg fun _ hi => (h.work1 hi).1
theorem work_zero {N : Nat} {S : Int} {g : Gh} (h : Inv N S g) (hw : g.work N ≤ 0) : leftN g.l N = 0 := leftN_of fun i hi => by
  cases hd : (g.l i).done
  · have := sumN_ge (g := fun i => (g.l i).work) (N := N) (fun j hj => (h.work1 hj).1) i hi
    have := (h.work1 hi).2 hd
    unfold Gh.work at hw
    simp at *
    omega
  · rfl
/-- Stands still. -/
def Gh.still (g : Gh) (i : Nat) : Prop := (g.l i).done = true ∨ ((g.l i).ph = 1 ∧ g.r ≠ (g.l i).tk)
theorem gwork_turn {g : Gh} {N i : Nat} (hi : i < N) (t : Tk) (a r c : Int) : Gh.work ⟨upd g.l i t, a, r, c⟩ N = g.work N - (g.l i).work + t.work := sumN_turn Tk.work g.l i N t hi
theorem pick_work {N : Nat} {S : Int} {g : Gh} (h : Inv N S g) {i : Nat} (hi : i < N) : (g.pick i = g ∧ g.still i) ∨ (g.pick i).work N < g.work N := by
  cases hd : (g.l i).done
  · have hlf := h.lf i hi
    have wd : ∀ t : Tk, t.done = false → t.ph ≠ 5 → t.work = 1 + 5 * t.left - t.ph := fun t h1 h2 => by unfold Tk.work; rw [if_neg (by simp [h1]), if_neg h2]
    have key : (g.l i).ph ≠ 5 → ∀ u : Tk, u.done = false → u.ph ≠ 5 → 5 * u.left - u.ph < 5 * (g.l i).left - (g.l i).ph → g.work N - (g.l i).work + u.work < g.work N := fun h0 u h1 h2 h3 => by
      rw [wd _ hd h0, wd u h1 h2]; omega
    rcases cases6 (h.ph i hi) with e | e | e | e | e | e
    · right
      rw [gpick0 hd e, gwork_turn hi]
      exact key (by omega) _ hd (by simp) (by simp [e]; try omega)
    · by_cases hr : g.r = (g.l i).tk
      · right
        rw [gpick1 hd e hr, gwork_turn hi]
        exact key (by omega) _ hd (by simp) (by simp [e]; try omega)
      · left; exact ⟨gpick1n hd e hr, .inr ⟨e, hr⟩⟩
    · right
      rw [gpick2 hd e, gwork_turn hi]
      exact key (by omega) _ hd (by simp) (by simp [e]; try omega)
    · right
      rw [gpick3 hd e, gwork_turn hi]
      exact key (by omega) _ hd (by simp) (by simp [e]; try omega)
    · right
      rw [gpick4 hd e, gwork_turn hi]
      split
      · rename_i h1
        have : Tk.work { g.l i with left := 0, ph := 5, done := true } = 0 := by unfold Tk.work; simp
        rw [wd _ hd (by omega)]
        refine Int.lt_of_le_of_lt (Int.add_le_add_left (Int.le_of_eq this) _) ?_
        rw [e, h1]; simp; omega
      · exact key (by omega) _ hd (by simp) (by simp [e]; try omega)
    · right
      rw [gpick5 hd e, gwork_turn hi]
      have : Tk.work { g.l i with ph := 5, done := true } = 0 := by unfold Tk.work; simp
      refine Int.lt_of_le_of_lt (Int.add_le_add_left (Int.le_of_eq this) _) ?_
      have := (h.work1 hi).2 hd
      omega
  · left; exact ⟨gpick_done hd, .inl hd⟩
def Gh.upTo (g : Gh) : Nat → Gh
  | 0 => g
  | k + 1 => (g.upTo k).pick k
theorem Inv.upTo {N : Nat} {S : Int} {g : Gh} (h : Inv N S g) : ∀ k, k ≤ N → Inv N S (g.upTo k)
  | 0, _ => h
  | k + 1, hk => (h.upTo k (by omega)).pick (by omega)
theorem Rel.upTo {q S : Int} {N : Nat} {g : Gh} {s : Sy} (h : Rel q N g s) (hI : Inv N S g) (hS : S ≤ 1000) (hN : N ≤ 1000) : ∀ k, k ≤ N → Rel q N (g.upTo k) (s.upTo 3 k)
  | 0, _ => h
  | k + 1, hk => (h.upTo hI hS hN k (by omega)).pick (hI.upTo k (by omega)) hS hN (by omega)
theorem upTo_work {N : Nat} {S : Int} {g : Gh} (h : Inv N S g) : ∀ k, k ≤ N → (g.upTo k = g ∧ ∀ i, i < k → g.still i) ∨ (g.upTo k).work N < g.work N
  | 0, _ => .inl ⟨rfl, fun i hi => absurd hi (by omega)⟩
  | k + 1, hk => by
    have e : g.upTo (k + 1) = (g.upTo k).pick k := rfl
    rw [e]
    rcases upTo_work h k (by omega) with ⟨h1, h2⟩ | h1
    · rw [h1]
      rcases pick_work h (i := k) (by omega) with ⟨h3, h4⟩ | h3
      · refine .inl ⟨h3, fun i hi => ?_⟩
        by_cases e : i = k
        · subst e; exact h4
        · exact h2 i (by omega)
      · exact .inr h3
    · rcases pick_work (h.upTo k (by omega)) (i := k) (by omega) with ⟨h3, _⟩ | h3
      · rw [h3]; exact .inr h1
      · exact .inr (by omega)
theorem round_work {N : Nat} {S : Int} {g : Gh} (h : Inv N S g) (hn : leftN g.l N ≠ 0) : (g.upTo N).work N < g.work N := by
  rcases upTo_work h N (Nat.le_refl _) with ⟨_, h2⟩ | h1
  · exfalso
    obtain ⟨i, hi, hd⟩ := leftN_pos hn
    rcases h2 i hi with h3 | ⟨h3, h4⟩
    · rw [hd] at h3; cases h3
    · have hr := h.rng i hi ⟨by omega, by omega⟩
      obtain ⟨j, q1, q2, q3⟩ := h.all g.r (by omega) (by omega)
      rcases h2 j q1 with h5 | ⟨h5, h6⟩
      · have := h.dn j q1 h5
        unfold Tk.act at q2
        omega
      · exact h6 q3.symm
  · exact h1
/-- So many rounds: behind them all are done, what is kept is kept. -/
theorem rounds_all {q S : Int} {N : Nat} (hS : S ≤ 1000) (hN : N ≤ 1000) : ∀ (k : Nat) {g : Gh} {s : Sy} (_ : Rel q N g s) (_ : Inv N S g), ∃ g', Rel q N g' (s.rounds 3 N k) ∧ Inv N S g' ∧ (g.work N ≤ k → leftN (s.rounds 3 N k).l N = 0)
  | 0, g, s, h, hI => ⟨g, h, hI, fun hw => by show leftN s.l N = 0; rw [h.leftN]; exact work_zero hI (by omega)⟩
  | k + 1, g, s, h, hI => by
    simp only [Sy.rounds]
    by_cases hz : leftN s.l N = 0
    · rw [if_pos hz]; exact ⟨g, h, hI, fun _ => hz⟩
    · rw [if_neg hz]
      obtain ⟨g', h1, h2, h3⟩ := rounds_all hS hN k (h.upTo hI hS hN N (Nat.le_refl _)) (hI.upTo N (Nat.le_refl _))
      have hw := round_work hI (by rw [← h.leftN]; exact hz)
      exact ⟨g', h1, h2, fun hk => h3 (by omega)⟩
/-- Where all are done the cell is all. -/
theorem cell_all {q S : Int} {N : Nat} {g : Gh} {s : Sy} (h : Rel q N g s) (hI : Inv N S g) (hz : leftN s.l N = 0) : s.f 2 = S := by
  have hd : ∀ i, i < N → (g.l i).ph = 5 := fun i hi => hI.dn i hi (by rw [← h.done i hi]; exact leftN_zero hz i hi)
  rw [h.f2, hI.c0 fun i hi => by rw [hd i hi]; omega]
  have h1 : sumN (fun i => (g.l i).left) N = 0 := sumN_zero fun i hi => by have := hI.lf i hi; rw [if_pos (hd i hi)] at this; exact this
  have := hI.sum
  omega
/-- At first. -/
def tk0 (a c times : Int) : Tk := if times < 1 then ⟨0, 0, 0, 5, 0, 0, false⟩ else ⟨a, c, times, 0, 0, 0, false⟩
def gh0 (T : Nat → Int) : Gh := ⟨fun j => tk0 0 2 (T j), 0, 0, 0⟩
theorem tk0_ph (a c x : Int) : ((tk0 a c x).ph = 5 ∧ (tk0 a c x).left = 0 ∧ x < 1) ∨ ((tk0 a c x).ph = 0 ∧ (tk0 a c x).left = x ∧ 1 ≤ x ∧ (tk0 a c x).at' = a ∧ (tk0 a c x).cl = c) := by
  unfold tk0
  split
  · rename_i h; exact .inl ⟨rfl, rfl, h⟩
  · rename_i h; exact .inr ⟨rfl, rfl, by omega, rfl, rfl⟩
theorem tk0_done (a c x : Int) : (tk0 a c x).done = false := by unfold tk0; split <;> rfl
theorem inv0 (N : Nat) (T : Nat → Int) (hT : ∀ i, i < N → 0 ≤ T i) : Inv N (sumN T N) (gh0 T) := by
  have hp := fun i => tk0_ph 0 2 (T i)
  refine ⟨fun i _ => ?_, fun i _ hd => ?_, fun i hi => ?_, fun i _ ha => ?_, fun i _ h1 h2 => ?_, fun i j _ _ ha => ?_, fun v h1 h2 => ?_, ?_, fun i _ h => ?_, fun i _ h => ?_, fun _ => rfl, ?_, Int.le_refl _⟩
  · show (tk0 0 2 (T i)).ph ≤ 5
    rcases hp i with h | h <;> omega
  · have : (tk0 0 2 (T i)).done = true := hd
    rw [tk0_done] at this; cases this
  · show if (tk0 0 2 (T i)).ph = 5 then (tk0 0 2 (T i)).left = 0 else 1 ≤ (tk0 0 2 (T i)).left
    rcases hp i with h | h
    · rw [if_pos h.1]; exact h.2.1
    · rw [if_neg (by omega)]; omega
  · have ha : 1 ≤ (tk0 0 2 (T i)).ph ∧ (tk0 0 2 (T i)).ph ≤ 4 := ha
    rcases hp i with h | h <;> omega
  · have h1 : 2 ≤ (tk0 0 2 (T i)).ph := h1
    have h2 : (tk0 0 2 (T i)).ph ≤ 4 := h2
    rcases hp i with h | h <;> omega
  · have ha : 1 ≤ (tk0 0 2 (T i)).ph ∧ (tk0 0 2 (T i)).ph ≤ 4 := ha
    rcases hp i with h | h <;> omega
  · have h1 : 0 ≤ v := h1
    have h2 : v < 0 := h2
    omega
  · show sumN (fun i => (tk0 0 2 (T i)).actN) N = 0 - 0
    rw [sumN_zero fun i _ => actN_no (by rcases hp i with h | h <;> omega)]; rfl
  · have h : (tk0 0 2 (T i)).ph = 3 := h
    rcases hp i with h | h <;> omega
  · have h : (tk0 0 2 (T i)).ph = 4 := h
    rcases hp i with h | h <;> omega
  · show 0 + sumN (fun i => (tk0 0 2 (T i)).left) N = sumN T N
    rw [sumN_congr (g' := T) fun i hi => ?_]
    · omega
    · have := hT i hi
      rcases hp i with h | h <;> omega
theorem work_le {N : Nat} (T : Nat → Int) (hT : ∀ i, i < N → 0 ≤ T i) : (gh0 T).work N ≤ N + 5 * sumN T N := by
  unfold Gh.work
  have : ∀ k, k ≤ N → sumN (fun i => ((gh0 T).l i).work) k ≤ k + 5 * sumN T k := fun k => by
    induction k with
    | zero => intro _; simp [sumN]
    | succ k ih =>
      intro hk
      have := ih (by omega)
      have hw : ((gh0 T).l k).work ≤ 1 + 5 * T k := by
        show (tk0 0 2 (T k)).work ≤ _
        have h0 := hT k (by omega)
        unfold Tk.work
        rw [tk0_done]
        rcases tk0_ph 0 2 (T k) with h | h
        · rw [if_pos h.1]; simp; omega
        · rw [if_neg (show ¬ (tk0 0 2 (T k)).ph = 5 by omega), h.1, h.2.1]; simp
      simp only [sumN]
      omega
  exact this N (Nat.le_refl _)
/-- No pick makes more work. -/
theorem pick_work_le {N : Nat} {S : Int} {g : Gh} (h : Inv N S g) {i : Nat} (hi : i < N) : (g.pick i).work N ≤ g.work N := by
  rcases pick_work h hi with ⟨h1, _⟩ | h1
  · rw [h1]; exact Int.le_refl _
  · omega
end Go.Proofs.YtdegfadahlcgnaaDoor
