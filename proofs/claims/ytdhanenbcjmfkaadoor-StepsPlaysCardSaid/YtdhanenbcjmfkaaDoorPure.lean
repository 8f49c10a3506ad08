/-
  Tasks, pure: what a step makes of a task and of the words; picks, rounds; what is kept.
-/
namespace Go.Proofs.YtdhanenbcjmfkaaDoor

/-- A task: its kind (0 Adds, 1 Bumps, else Swaps), its word, how many times are left, what was loaded, whether it is done. -/
structure Tk where
  kind : Nat
  at' : Int
  left : Int
  has : Bool
  v : Int
  done : Bool

/-- Whether a word exists. -/
def inM (n : Nat) (a : Int) : Bool := decide (0 ≤ a ∧ a < (n : Int))
theorem inM_yes {n : Nat} {a : Int} (h : inM n a = true) : 0 ≤ a ∧ a < n := by unfold inM at h; exact of_decide_eq_true h
theorem inM_no {n : Nat} {a : Int} (h : inM n a = false) : ¬ (0 ≤ a ∧ a < n) := by unfold inM at h; exact of_decide_eq_false h
theorem inM_of {n : Nat} {a : Int} (h : 0 ≤ a ∧ a < n) : inM n a = true := by unfold inM; exact decide_eq_true h
theorem inM_ne {n : Nat} {a : Int} (h : ¬ (0 ≤ a ∧ a < n)) : inM n a = false := by unfold inM; exact decide_eq_false h

/-- Add 1 to a number of 32 bits. -/
def inc (x : Int) : Int := (x + 1) % 4294967296

/-- Changes nothing but be done. -/
def Tk.end (t : Tk) : Tk := { t with done := true }
/-- One time less. -/
def Tk.less (t : Tk) : Tk := { t with left := t.left - 1, has := t.kind == 0 && t.has, done := decide (t.left = 1) }
/-- The word was loaded. -/
def Tk.load (t : Tk) (x : Int) : Tk := { t with has := true, v := x }
/-- The word was another one. -/
def Tk.miss (t : Tk) : Tk := { t with has := false }

/-- Whether the next step ends the task without any use that counts. -/
def Tk.over (n : Nat) (t : Tk) : Bool := decide (t.left < 1) || !inM n t.at'
/-- Whether the next step, of a task that goes on, adds 1. -/
def Tk.hot (t : Tk) (x : Int) : Bool := t.kind == 0 || (t.has && (t.kind == 1 || x == t.v))
/-- The word that it leaves, then. -/
def Tk.puts (t : Tk) (x : Int) : Int := if t.kind = 0 then inc x else inc t.v

/-- A task behind its next step; x: its word. -/
def Tk.next (n : Nat) (t : Tk) (x : Int) : Tk :=
  if t.over n then t.end else if t.hot x then t.less else if t.has then t.miss else t.load x
/-- The word behind its next step. -/
def Tk.word (n : Nat) (t : Tk) (x : Int) : Int := if !t.over n && t.hot x then t.puts x else x

/-- One of a row turned to another one. -/
def upd {α : Type} (l : Nat → α) (i : Nat) (x : α) : Nat → α := fun j => if j = i then x else l j
theorem upd_same {α : Type} {l : Nat → α} {i : Nat} {x : α} : upd l i x i = x := by simp [upd]
theorem upd_other {α : Type} {l : Nat → α} {i j : Nat} {x : α} (h : j ≠ i) : upd l i x j = l j := by simp [upd, h]

/-- Tasks and words. -/
structure Sy where
  l : Nat → Tk
  f : Nat → Int

/-- A pick of a task that is there; m: how many words there are. -/
def Sy.pick (m : Nat) (s : Sy) (i : Nat) : Sy :=
  if (s.l i).done then s else
  { l := upd s.l i ((s.l i).next m (s.f (s.l i).at'.toNat)), f := upd s.f (s.l i).at'.toNat ((s.l i).word m (s.f (s.l i).at'.toNat)) }
/-- Whether there is such a task. -/
def isT (N : Nat) (i : Int) : Bool := decide (0 ≤ i ∧ i < (N : Int))
/-- A pick of any number. -/
def Sy.pickI (m N : Nat) (s : Sy) (i : Int) : Sy := if isT N i then s.pick m i.toNat else s
/-- What it answers. -/
def Sy.err (N : Nat) (s : Sy) (i : Int) : Int := if isT N i then (if (s.l i.toNat).done then 91 else 0) else 90
/-- The first k tasks picked. -/
def Sy.upTo (m : Nat) (s : Sy) : Nat → Sy
  | 0 => s
  | k + 1 => (s.upTo m k).pick m k
/-- A round. -/
def Sy.round (m N : Nat) (s : Sy) : Sy := s.upTo m N
/-- How many tasks aren't done. -/
def leftN (l : Nat → Tk) : Nat → Nat
  | 0 => 0
  | k + 1 => leftN l k + if (l k).done then 0 else 1
theorem leftN_le (l : Nat → Tk) : ∀ N, leftN l N ≤ N
  | 0 => Nat.le_refl _
  | k + 1 => by have := leftN_le l k; simp only [leftN]; split <;> omega
theorem leftN_zero {l : Nat → Tk} : ∀ {N}, leftN l N = 0 → ∀ i, i < N → (l i).done = true
  | 0, _, i, hi => absurd hi (by omega)
  | k + 1, h, i, hi => by
    simp only [leftN] at h
    by_cases e : i = k
    · subst e
      cases hd : (l i).done
      · rw [hd] at h; simp at h
      · rfl
    · exact leftN_zero (l := l) (N := k) (by omega) i (by omega)
theorem leftN_of {l : Nat → Tk} : ∀ {N}, (∀ i, i < N → (l i).done = true) → leftN l N = 0
  | 0, _ => rfl
  | k + 1, h => by simp only [leftN]; rw [leftN_of fun i hi => h i (by omega), h k (by omega)]; rfl
theorem leftN_pos {l : Nat → Tk} : ∀ {N}, leftN l N ≠ 0 → ∃ i, i < N ∧ (l i).done = false
  | 0, h => absurd rfl h
  | k + 1, h => by
    cases hd : (l k).done
    · exact ⟨k, by omega, hd⟩
    · simp only [leftN, hd] at h
      obtain ⟨i, hi, e⟩ := leftN_pos (l := l) (N := k) (by simpa using h)
      exact ⟨i, by omega, e⟩

/-- So many rounds, as long as something is left. -/
def Sy.rounds (m N : Nat) (s : Sy) : Nat → Sy
  | 0 => s
  | k + 1 => if leftN s.l N = 0 then s else (s.round m N).rounds m N k
/-- How many rounds that are. -/
def Sy.count (m N : Nat) (s : Sy) : Nat → Nat
  | 0 => 0
  | k + 1 => if leftN s.l N = 0 then 0 else (s.round m N).count m N k + 1
theorem Sy.rounds_done {m N : Nat} {s : Sy} (h : leftN s.l N = 0) : ∀ k, s.rounds m N k = s
  | 0 => rfl
  | k + 1 => by simp only [Sy.rounds, h, if_true]
theorem Sy.rounds_add (m N : Nat) : ∀ (s : Sy) (j k : Nat), s.rounds m N (j + k) = (s.rounds m N j).rounds m N k
  | s, 0, k => by simp [Sy.rounds]
  | s, j + 1, k => by
    rw [show j + 1 + k = (j + k) + 1 by omega]
    simp only [Sy.rounds]
    split
    · rename_i h; rw [Sy.rounds_done h]
    · exact Sy.rounds_add m N _ j k
theorem Sy.count_le (m N : Nat) : ∀ (s : Sy) (k : Nat), s.count m N k ≤ k
  | _, 0 => Nat.le_refl _
  | s, k + 1 => by
    simp only [Sy.count]
    split
    · omega
    · have := Sy.count_le m N (s.round m N) k; omega

/-! ## One word, tasks of one kind of the machine's own word -/

/-- A sum over a row. -/
def sumN (g : Nat → Int) : Nat → Int
  | 0 => 0
  | k + 1 => sumN g k + g k
theorem sumN_upd (g : Nat → Int) (i : Nat) (x : Int) : ∀ N, sumN (upd g i x) N = if i < N then sumN g N - g i + x else sumN g N
  | 0 => by simp [sumN]
  | k + 1 => by
    simp only [sumN, sumN_upd g i x k]
    by_cases h : i < k
    · rw [upd_other (show k ≠ i by omega), if_pos h, if_pos (show i < k + 1 by omega)]; omega
    · by_cases e : i = k
      · subst e; rw [upd_same, if_neg h, if_pos (show i < i + 1 by omega)]; omega
      · rw [upd_other (fun hh => e hh.symm), if_neg h, if_neg (show ¬ i < k + 1 by omega)]
theorem sumN_congr {g g' : Nat → Int} : ∀ {N}, (∀ i, i < N → g i = g' i) → sumN g N = sumN g' N
  | 0, _ => rfl
  | k + 1, h => by simp only [sumN]; rw [sumN_congr fun i hi => h i (by omega), h k (by omega)]
theorem sumN_nonneg {g : Nat → Int} : ∀ {N}, (∀ i, i < N → 0 ≤ g i) → 0 ≤ sumN g N
  | 0, _ => Int.le_refl _
  | k + 1, h => by have := sumN_nonneg (g := g) (N := k) fun i hi => h i (by omega); have := h k (by omega); simp only [sumN]; omega
theorem sumN_ge {g : Nat → Int} : ∀ {N}, (∀ i, i < N → 0 ≤ g i) → ∀ i, i < N → g i ≤ sumN g N
  | 0, _, i, hi => absurd hi (by omega)
  | k + 1, h, i, hi => by
    have h0 := sumN_nonneg (g := g) (N := k) fun j hj => h j (by omega)
    have h1 := h k (by omega)
    simp only [sumN]
    by_cases e : i = k
    · subst e; omega
    · have := sumN_ge (g := g) (N := k) (fun j hj => h j (by omega)) i (by omega); omega
theorem sumN_zero {g : Nat → Int} : ∀ {N}, (∀ i, i < N → g i = 0) → sumN g N = 0
  | 0, _ => rfl
  | k + 1, h => by simp only [sumN]; rw [sumN_zero fun i hi => h i (by omega), h k (by omega)]; rfl
theorem sumN_le {g : Nat → Int} {c : Int} (hc : 0 ≤ c) : ∀ {N}, (∀ i, i < N → g i ≤ c) → sumN g N ≤ N * c
  | 0, _ => by simp [sumN]
  | k + 1, h => by
    have := sumN_le (g := g) (N := k) hc fun i hi => h i (by omega)
    have := h k (by omega)
    simp only [sumN]
    rw [Int.natCast_add, Int.add_mul]
    omega

/-- How much is left. -/
def Sy.rest (s : Sy) (N : Nat) : Int := sumN (fun i => (s.l i).left) N

/-- Tasks of the word 0 of one word, all of a kind. -/
structure Own (K N : Nat) (s : Sy) : Prop where
  kind : ∀ i, i < N → (s.l i).kind = K
  at0 : ∀ i, i < N → (s.l i).at' = 0
  lo : ∀ i, i < N → 0 ≤ (s.l i).left
  fin : ∀ i, i < N → (s.l i).done = true → (s.l i).left = 0
theorem in0 : inM 1 0 = true := by decide
theorem Own.over {K N : Nat} {s : Sy} (h : Own K N s) {i : Nat} (hi : i < N) : (s.l i).over 1 = decide ((s.l i).left < 1) := by
  unfold Tk.over; rw [h.at0 i hi, in0]; simp
theorem next_kind (n : Nat) (t : Tk) (x : Int) : (t.next n x).kind = t.kind := by
  unfold Tk.next Tk.end Tk.less Tk.miss Tk.load; split <;> (try split) <;> (try split) <;> rfl
theorem next_at (n : Nat) (t : Tk) (x : Int) : (t.next n x).at' = t.at' := by
  unfold Tk.next Tk.end Tk.less Tk.miss Tk.load; split <;> (try split) <;> (try split) <;> rfl

/-- A pick of an own system: nothing, an end, a hit, or nothing that counts. -/
theorem pick_done {m : Nat} {s : Sy} {i : Nat} (h : (s.l i).done = true) : s.pick m i = s := by unfold Sy.pick; rw [if_pos h]
theorem pick_f {K N : Nat} {s : Sy} (h : Own K N s) {i : Nat} (hi : i < N) (hd : (s.l i).done = false) : (s.pick 1 i).f = upd s.f 0 ((s.l i).word 1 (s.f 0)) := by
  unfold Sy.pick; rw [if_neg (by simp [hd]), h.at0 i hi]; rfl
theorem pick_l {K N : Nat} {s : Sy} (h : Own K N s) {i : Nat} (hi : i < N) (hd : (s.l i).done = false) : (s.pick 1 i).l = upd s.l i ((s.l i).next 1 (s.f 0)) := by
  unfold Sy.pick; rw [if_neg (by simp [hd]), h.at0 i hi]; rfl
theorem next_lo {n : Nat} {t : Tk} {x : Int} (h : 0 ≤ t.left) : 0 ≤ (t.next n x).left := by
  unfold Tk.next
  by_cases h1 : t.over n = true
  · rw [if_pos h1]; exact h
  · rw [if_neg h1]
    have : ¬ t.left < 1 := by intro hh; apply h1; unfold Tk.over; simp [hh]
    by_cases h2 : t.hot x = true
    · rw [if_pos h2]; show 0 ≤ t.left - 1; omega
    · rw [if_neg h2]
      cases h3 : t.has
      · exact h
      · exact h
theorem next_fin {t : Tk} {x : Int} (ha : t.at' = 0) (h : 0 ≤ t.left) (hd : t.done = false) (hn : (t.next 1 x).done = true) : (t.next 1 x).left = 0 := by
  revert hn
  unfold Tk.next
  by_cases h1 : t.over 1 = true
  · rw [if_pos h1]
    intro _
    show t.left = 0
    unfold Tk.over at h1; rw [ha, in0] at h1; simp at h1; omega
  · rw [if_neg h1]
    by_cases h2 : t.hot x = true
    · rw [if_pos h2]; intro hn; have : t.left = 1 := of_decide_eq_true hn; show t.left - 1 = 0; omega
    · rw [if_neg h2]
      cases h3 : t.has
      · intro hn; exact absurd hn (by show ¬ t.done = true; simp [hd])
      · intro hn; exact absurd hn (by show ¬ t.done = true; simp [hd])
theorem Own.pick {K N : Nat} {s : Sy} (h : Own K N s) {i : Nat} (hi : i < N) : Own K N (s.pick 1 i) := by
  cases hd : (s.l i).done
  · have e := pick_l h hi hd
    refine ⟨fun j hj => ?_, fun j hj => ?_, fun j hj => ?_, fun j hj => ?_⟩ <;> rw [e] <;> by_cases hij : j = i
    · subst hij; rw [upd_same, next_kind]; exact h.kind j hj
    · rw [upd_other hij]; exact h.kind j hj
    · subst hij; rw [upd_same, next_at]; exact h.at0 j hj
    · rw [upd_other hij]; exact h.at0 j hj
    · subst hij; rw [upd_same]; exact next_lo (h.lo j hj)
    · rw [upd_other hij]; exact h.lo j hj
    · subst hij; rw [upd_same]; exact next_fin (h.at0 j hj) (h.lo j hj) hd
    · rw [upd_other hij]; exact h.fin j hj
  · rw [pick_done hd]; exact h
theorem Own.pickI {K N : Nat} {s : Sy} (h : Own K N s) (i : Int) : Own K N (s.pickI 1 N i) := by
  unfold Sy.pickI isT
  split
  · rename_i hh; simp at hh; exact h.pick (by omega)
  · exact h
theorem Own.upTo {K N : Nat} {s : Sy} (h : Own K N s) : ∀ k, k ≤ N → Own K N (s.upTo 1 k)
  | 0, _ => h
  | k + 1, hk => (Own.upTo h k (by omega)).pick (by omega)
theorem Own.round {K N : Nat} {s : Sy} (h : Own K N s) : Own K N (s.round 1 N) := h.upTo N (Nat.le_refl _)
theorem Own.rounds {K N : Nat} : ∀ {s : Sy} (_ : Own K N s) k, Own K N (s.rounds 1 N k)
  | _, h, 0 => h
  | s, h, k + 1 => by
    simp only [Sy.rounds]
    split
    · exact h
    · exact Own.rounds h.round k
/-- Whether the pick of the task makes the word greater. -/
def hit (s : Sy) (i : Nat) : Bool := !(s.l i).done && !(decide ((s.l i).left < 1)) && (s.l i).hot (s.f 0)
theorem rest_pick {K N : Nat} {s : Sy} (h : Own K N s) {i : Nat} (hi : i < N) : (s.pick 1 i).rest N = s.rest N - if hit s i then 1 else 0 := by
  unfold hit
  cases hd : (s.l i).done
  · unfold Sy.rest
    have e := pick_l h hi hd
    have e2 : (fun j => ((s.pick 1 i).l j).left) = upd (fun j => (s.l j).left) i ((s.l i).next 1 (s.f 0)).left := by
      funext j
      rw [e]
      unfold upd
      split
      · subst j; rfl
      · rfl
    rw [e2, sumN_upd, if_pos hi]
    unfold Tk.next
    rw [h.over hi]
    by_cases h1 : (s.l i).left < 1
    · simp [h1, Tk.end]
    · cases h2 : (s.l i).hot (s.f 0)
      · cases h3 : (s.l i).has <;> simp [h1, Tk.miss, Tk.load] <;> omega
      · simp [h1, Tk.less]; omega
  · rw [pick_done hd]; simp

/-- A task of which a step that doesn't count is done. -/
def Tk.quiet (t : Tk) (x : Int) : Tk := if t.done then t else if t.has then t.miss else t.load x
theorem pick_cold {K N : Nat} {s : Sy} (h : Own K N s) {i : Nat} (hi : i < N) (hp : (s.l i).done = false → 1 ≤ (s.l i).left) (hh : hit s i = false) :
    (s.pick 1 i).f 0 = s.f 0 ∧ (s.pick 1 i).l = upd s.l i ((s.l i).quiet (s.f 0)) := by
  cases hd : (s.l i).done
  · have h1 := hp hd
    have h2 : ¬ (s.l i).left < 1 := by omega
    have hc : (s.l i).hot (s.f 0) = false := by
      unfold hit at hh; rw [hd] at hh; simp [h2] at hh; exact hh
    refine ⟨?_, ?_⟩
    · rw [pick_f h hi hd, upd_same]; unfold Tk.word; rw [h.over hi, hc]; simp
    · rw [pick_l h hi hd]
      unfold Tk.next Tk.quiet
      rw [h.over hi, hc, hd]
      simp [h2]
  · rw [pick_done hd]
    refine ⟨rfl, ?_⟩
    funext j
    unfold upd
    split
    · subst j; unfold Tk.quiet; rw [if_pos hd]
    · rfl
/-- All that aren't done have something left. -/
def Live (N : Nat) (s : Sy) : Prop := ∀ i, i < N → (s.l i).done = false → 1 ≤ (s.l i).left
/-- Nobody is hot. -/
def Cold (N : Nat) (s : Sy) : Prop := ∀ i, i < N → (s.l i).done = false → (s.l i).hot (s.f 0) = false
theorem upTo_cold {K N : Nat} {s : Sy} (h : Own K N s) (hl : Live N s) : ∀ k, k ≤ N → (s.upTo 1 k).rest N < s.rest N ∨
    ((s.upTo 1 k).rest N = s.rest N ∧ (s.upTo 1 k).f 0 = s.f 0 ∧ (∀ i, i < k → (s.l i).done = false → (s.l i).hot (s.f 0) = false) ∧ (∀ i, i < k → (s.upTo 1 k).l i = (s.l i).quiet (s.f 0)) ∧ ∀ i, k ≤ i → (s.upTo 1 k).l i = s.l i)
  | 0, _ => .inr ⟨rfl, rfl, fun i hi => absurd hi (by omega), fun i hi => absurd hi (by omega), fun _ _ => rfl⟩
  | k + 1, hk => by
    have hO := h.upTo k (by omega)
    have hr := rest_pick hO (i := k) (by omega)
    have e : s.upTo 1 (k + 1) = (s.upTo 1 k).pick 1 k := rfl
    rw [← e] at hr
    rcases upTo_cold h hl k (by omega) with hlt | ⟨h1, h2, h3, h4, h5⟩
    · left; rw [hr]; split <;> omega
    · cases hh : hit (s.upTo 1 k) k
      · right
        have hkk := h5 k (Nat.le_refl _)
        obtain ⟨c1, c2⟩ := pick_cold hO (i := k) (by omega) (by rw [hkk]; exact hl k (by omega)) hh
        rw [← e] at c1 c2
        refine ⟨by rw [hr, hh]; simp [h1], by rw [c1, h2], fun i hi hd => ?_, fun i hi => ?_, fun i hi => ?_⟩
        · by_cases ei : i = k
          · subst ei
            unfold hit at hh
            rw [hkk, h2, hd] at hh
            have := hl i (by omega) hd
            simpa [show ¬ (s.l i).left < 1 by omega] using hh
          · exact h3 i (by omega) hd
        · rw [c2]
          by_cases ei : i = k
          · subst ei; rw [upd_same, hkk, h2]
          · rw [upd_other ei]; exact h4 i (by omega)
        · rw [c2, upd_other (by omega)]; exact h5 i (by omega)
      · left; rw [hr, hh]; simp; omega
/-- A round: something is done, or nobody was hot. -/
theorem round_cold {K N : Nat} {s : Sy} (h : Own K N s) (hl : Live N s) : (s.round 1 N).rest N < s.rest N ∨
    ((s.round 1 N).rest N = s.rest N ∧ (s.round 1 N).f 0 = s.f 0 ∧ Cold N s ∧ ∀ i, i < N → (s.round 1 N).l i = (s.l i).quiet (s.f 0)) := by
  rcases upTo_cold h hl N (Nat.le_refl _) with h1 | ⟨h1, h2, h3, h4, _⟩
  · exact .inl h1
  · exact .inr ⟨h1, h2, h3, h4⟩
theorem rest_upTo {K N : Nat} {s : Sy} (h : Own K N s) : ∀ k, k ≤ N → (s.upTo 1 k).rest N ≤ s.rest N
  | 0, _ => Int.le_refl _
  | k + 1, hk => by
    have := rest_upTo h k (by omega)
    have hr := rest_pick (h.upTo k (by omega)) (i := k) (by omega)
    show ((s.upTo 1 k).pick 1 k).rest N ≤ _
    rw [hr]; split <;> omega
theorem rest_round {K N : Nat} {s : Sy} (h : Own K N s) : (s.round 1 N).rest N ≤ s.rest N := rest_upTo h N (Nat.le_refl _)
theorem live_pick {K N : Nat} {s : Sy} (h : Own K N s) (i : Nat) (hi : i < N) : ((s.pick 1 i).l i).done = false → 1 ≤ ((s.pick 1 i).l i).left := by
  cases hd : (s.l i).done
  · rw [pick_l h hi hd, upd_same]
    unfold Tk.next
    rw [h.over hi]
    by_cases h1 : (s.l i).left < 1
    · simp [h1, Tk.end]
    · cases h2 : (s.l i).hot (s.f 0)
      · cases h3 : (s.l i).has <;> simp [h1, Tk.miss, Tk.load] <;> omega
      · simp [h1, Tk.less]; omega
  · rw [pick_done hd, hd]; intro hh; cases hh
theorem pick_else {m : Nat} {s : Sy} {i j : Nat} (h : j ≠ i) : (s.pick m i).l j = s.l j := by
  unfold Sy.pick
  split
  · rfl
  · exact upd_other h
theorem live_upTo {K N : Nat} {s : Sy} (h : Own K N s) : ∀ k, k ≤ N → ∀ i, i < k → ((s.upTo 1 k).l i).done = false → 1 ≤ ((s.upTo 1 k).l i).left
  | 0, _ => fun i hi => absurd hi (by omega)
  | k + 1, hk => fun i hi => by
    show (((s.upTo 1 k).pick 1 k).l i).done = false → 1 ≤ (((s.upTo 1 k).pick 1 k).l i).left
    by_cases e : i = k
    · subst e; exact live_pick (h.upTo i (by omega)) i (by omega)
    · rw [pick_else e]; exact live_upTo h k (by omega) i (by omega)
theorem live_round {K N : Nat} {s : Sy} (h : Own K N s) : Live N (s.round 1 N) := live_upTo h N (Nat.le_refl _)
theorem Live.rounds {K N : Nat} : ∀ {s : Sy} (_ : Own K N s) (_ : Live N s) k, Live N (s.rounds 1 N k)
  | _, _, hl, 0 => hl
  | s, h, hl, k + 1 => by
    simp only [Sy.rounds]
    split
    · exact hl
    · exact Live.rounds h.round (live_round h) k
theorem rest_nonneg {K N : Nat} {s : Sy} (h : Own K N s) : 0 ≤ s.rest N := sumN_nonneg fun i hi => h.lo i hi
/-- Three rounds: all is done, or there is less left. -/
theorem three {K N : Nat} {s : Sy} (h : Own K N s) (hl : Live N s) : leftN (s.rounds 1 N 3).l N = 0 ∨ (s.rounds 1 N 3).rest N < s.rest N := by
  by_cases z0 : leftN s.l N = 0
  · left; rw [Sy.rounds_done z0]; exact z0
  have e0 : s.rounds 1 N 3 = (s.round 1 N).rounds 1 N 2 := by simp only [Sy.rounds]; rw [if_neg z0]
  rw [e0]
  have h1 := h.round
  have l1 := live_round h
  have r1 := rest_round h
  have c0 := round_cold h hl
  generalize s.round 1 N = s1 at *
  by_cases z1 : leftN s1.l N = 0
  · left; rw [Sy.rounds_done z1]; exact z1
  have e1 : s1.rounds 1 N 2 = (s1.round 1 N).rounds 1 N 1 := by simp only [Sy.rounds]; rw [if_neg z1]
  rw [e1]
  have h2 := h1.round
  have l2 := live_round h1
  have r2 := rest_round h1
  have c1 := round_cold h1 l1
  generalize s1.round 1 N = s2 at *
  by_cases z2 : leftN s2.l N = 0
  · left; rw [Sy.rounds_done z2]; exact z2
  have e2 : s2.rounds 1 N 1 = s2.round 1 N := by simp only [Sy.rounds]; rw [if_neg z2]
  rw [e2]
  have r3 := rest_round h2
  have c2 := round_cold h2 l2
  generalize s2.round 1 N = s3 at *
  right
  rcases c0 with c0 | ⟨_, f0, k0, q0⟩
  · omega
  rcases c1 with c1 | ⟨_, f1, k1, q1⟩
  · omega
  rcases c2 with c2 | ⟨_, _, k2, _⟩
  · omega
  obtain ⟨i, hi, hd⟩ := leftN_pos z0
  have n0 := k0 i hi hd
  have p1 := q0 i hi
  have p2 := q1 i hi
  unfold Tk.quiet at p1 p2
  rw [if_neg (by simp [hd])] at p1
  cases hs : (s.l i).has
  · rw [hs] at p1
    have : (s1.l i).done = false := by rw [p1]; exact hd
    have n1 := k1 i hi this
    rw [p1, f0] at n1
    unfold Tk.hot at n1
    simp [Tk.load] at n1
  · rw [hs] at p1
    have d1 : (s1.l i).done = false := by rw [p1]; exact hd
    have a1 : (s1.l i).has = false := by rw [p1]; rfl
    rw [if_neg (by simp [d1]), a1] at p2
    have d2 : (s2.l i).done = false := by rw [p2]; exact d1
    have n2 := k2 i hi d2
    rw [p2, f1] at n2
    unfold Tk.hot at n2
    simp [Tk.load] at n2
theorem many {K N : Nat} : ∀ (j : Nat) {s : Sy} (_ : Own K N s) (_ : Live N s), s.rest N < j → leftN (s.rounds 1 N (3 * j)).l N = 0
  | 0, s, h, _, hr => absurd hr (by have := rest_nonneg h; omega)
  | j + 1, s, h, hl, hr => by
    rw [show 3 * (j + 1) = 3 + 3 * j by omega, Sy.rounds_add]
    rcases three h hl with z | z
    · rw [Sy.rounds_done z]; exact z
    · exact many j (h.rounds 3) (hl.rounds h 3) (by omega)
/-- Behind 500 rounds all is done. -/
theorem all_done {K N : Nat} {s : Sy} (h : Own K N s) (hr : s.rest N ≤ 150) : leftN (s.rounds 1 N 500).l N = 0 := by
  by_cases z : leftN s.l N = 0
  · rw [Sy.rounds_done z]; exact z
  · have e : s.rounds 1 N 500 = (s.round 1 N).rounds 1 N 499 := by show (if leftN s.l N = 0 then s else (s.round 1 N).rounds 1 N 499) = _; rw [if_neg z]
    rw [e, show 499 = 3 * 151 + 46 from rfl, Sy.rounds_add]
    have hz := many 151 h.round (live_round h) (by have := rest_round h; omega)
    rw [Sy.rounds_done hz]; exact hz

/-! ## What becomes of the word -/

theorem inc_small {x : Int} (h : 0 ≤ x) (h2 : x < 1000) : inc x = x + 1 := by unfold inc; omega
theorem word_hit {K N : Nat} {s : Sy} (h : Own K N s) {i : Nat} (hi : i < N) (hh : hit s i = true) : (s.pick 1 i).f 0 = (s.l i).puts (s.f 0) := by
  unfold hit at hh
  simp at hh
  obtain ⟨⟨hd, h1⟩, h2⟩ := hh
  rw [pick_f h hi hd, upd_same]
  unfold Tk.word
  rw [h.over hi, h2]
  simp [show ¬ (s.l i).left < 1 by omega]
theorem word_cold {K N : Nat} {s : Sy} (h : Own K N s) {i : Nat} (hi : i < N) (hh : hit s i = false) : (s.pick 1 i).f 0 = s.f 0 := by
  cases hd : (s.l i).done
  · rw [pick_f h hi hd, upd_same]
    unfold Tk.word
    rw [h.over hi]
    unfold hit at hh
    rw [hd] at hh
    by_cases h1 : (s.l i).left < 1
    · simp [h1]
    · simp [h1] at hh; simp [hh]
  · rw [pick_done hd]
/-- Adds and Swaps: the word and what is left make the sum. -/
def Tot (N : Nat) (S : Int) (s : Sy) : Prop := 0 ≤ s.f 0 ∧ s.f 0 + s.rest N = S
theorem Tot.pick {K N : Nat} {S : Int} {s : Sy} (hK : K ≠ 1) (hS : S ≤ 150) (h : Own K N s) (hT : Tot N S s) {i : Nat} (hi : i < N) : Tot N S (s.pick 1 i) := by
  obtain ⟨h0, h1⟩ := hT
  have hr := rest_pick h hi
  have hn := rest_nonneg h
  cases hh : hit s i
  · have hw := word_cold h hi hh
    rw [hh] at hr
    refine ⟨by omega, ?_⟩
    rw [hw, hr]; simp; exact h1
  · have hw := word_hit h hi hh
    rw [hh] at hr
    have e : (s.l i).puts (s.f 0) = inc (s.f 0) := by
      unfold Tk.puts
      split
      · rfl
      · rename_i hk
        unfold hit at hh
        simp at hh
        have h2 := hh.2
        unfold Tk.hot at h2
        rw [h.kind i hi] at h2 hk
        simp [hk, hK] at h2
        rw [h2.2]
    rw [e, inc_small h0 (by omega)] at hw
    refine ⟨by omega, ?_⟩
    rw [hw, hr]; simp; omega
theorem Tot.upTo {K N : Nat} {S : Int} {s : Sy} (hK : K ≠ 1) (hS : S ≤ 150) (h : Own K N s) (hT : Tot N S s) : ∀ k, k ≤ N → Tot N S (s.upTo 1 k)
  | 0, _ => hT
  | k + 1, hk => Tot.pick hK hS (h.upTo k (by omega)) (Tot.upTo hK hS h hT k (by omega)) (by omega)
theorem Tot.rounds {K N : Nat} {S : Int} (hK : K ≠ 1) (hS : S ≤ 150) : ∀ {s : Sy} (_ : Own K N s) (_ : Tot N S s) k, Tot N S (s.rounds 1 N k)
  | _, _, hT, 0 => hT
  | s, h, hT, k + 1 => by
    simp only [Sy.rounds]
    split
    · exact hT
    · exact Tot.rounds hK hS h.round (Tot.upTo hK hS h hT N (Nat.le_refl _)) k
theorem Tot.pickI {K N : Nat} {S : Int} {s : Sy} (hK : K ≠ 1) (hS : S ≤ 150) (h : Own K N s) (hT : Tot N S s) (i : Int) : Tot N S (s.pickI 1 N i) := by
  unfold Sy.pickI isT
  split
  · rename_i hh; simp at hh; exact Tot.pick hK hS h hT (by omega)
  · exact hT
theorem rest_done {K N : Nat} {s : Sy} (h : Own K N s) (hz : leftN s.l N = 0) : s.rest N = 0 := sumN_zero fun i hi => h.fin i hi (leftN_zero hz i hi)
/-- Bumps: the word is no more than what was done, and something. -/
structure Bmp (N : Nat) (S : Int) (s : Sy) : Prop where
  lo : 0 ≤ s.f 0
  hi : s.f 0 ≤ S - s.rest N
  ld : ∀ i, i < N → (s.l i).has = true → 0 ≤ (s.l i).v ∧ (s.l i).v ≤ S - s.rest N
  one : s.rest N < S → 1 ≤ s.f 0
  lone : N = 1 → s.f 0 = S - s.rest N ∧ ((s.l 0).has = true → (s.l 0).v = s.f 0)
theorem Bmp.pick {N : Nat} {S : Int} {s : Sy} (hS : S ≤ 150) (h : Own 1 N s) (hT : Bmp N S s) {i : Nat} (hi : i < N) : Bmp N S (s.pick 1 i) := by
  obtain ⟨a, b, c, d, e⟩ := hT
  have hr := rest_pick h hi
  have hn := rest_nonneg h
  cases hd : (s.l i).done
  · have hl := pick_l h hi hd
    cases hh : hit s i
    · have hw := word_cold h hi hh
      rw [hh] at hr
      simp at hr
      have hv : ∀ j, j < N → ((s.pick 1 i).l j).has = true → (s.l j).has = true ∧ ((s.pick 1 i).l j).v = (s.l j).v ∨ ((s.pick 1 i).l j).v = s.f 0 := by
        intro j hj hjh
        rw [hl] at hjh ⊢
        by_cases hij : j = i
        · subst hij
          rw [upd_same] at hjh ⊢
          revert hjh
          unfold Tk.next
          rw [h.over hj]
          by_cases h1 : (s.l j).left < 1
          · simp [h1, Tk.end]; intro hx; exact .inl hx
          · have hc : (s.l j).hot (s.f 0) = false := by
              unfold hit at hh; rw [hd] at hh; simp [h1] at hh; exact hh
            cases h3 : (s.l j).has <;> simp [h1, hc, Tk.miss, Tk.load]
        · rw [upd_other hij] at hjh ⊢; exact .inl ⟨hjh, rfl⟩
      refine ⟨by omega, by omega, fun j hj hjh => ?_, fun hlt => by have := d (by omega); omega, fun hN => ?_⟩
      · rcases hv j hj hjh with ⟨q1, q2⟩ | q2
        · rw [q2, hr]; exact c j hj q1
        · rw [q2, hr]; exact ⟨a, b⟩
      · obtain ⟨e1, e2⟩ := e hN
        refine ⟨by rw [hw, hr, e1], fun hjh => ?_⟩
        rcases hv 0 (by omega) hjh with ⟨q1, q2⟩ | q2
        · rw [q2, hw]; exact e2 q1
        · rw [q2, hw]
    · have hw := word_hit h hi hh
      rw [hh] at hr
      simp at hr
      unfold hit at hh
      simp at hh
      obtain ⟨⟨_, h1⟩, h2⟩ := hh
      have hk := h.kind i hi
      unfold Tk.hot at h2
      rw [hk] at h2
      simp at h2
      have hci := c i hi h2
      unfold Tk.puts at hw
      rw [hk, if_neg (by decide), inc_small hci.1 (by omega)] at hw
      refine ⟨by omega, by omega, fun j hj hjh => ?_, fun _ => by omega, fun hN => ?_⟩
      · rw [hl] at hjh ⊢
        by_cases hij : j = i
        · subst hij
          rw [upd_same] at hjh
          unfold Tk.next at hjh
          rw [h.over hj] at hjh
          have : (s.l j).hot (s.f 0) = true := by unfold Tk.hot; rw [hk]; simp [h2]
          rw [this] at hjh
          simp [show ¬ (s.l j).left < 1 by omega, Tk.less, hk] at hjh
        · rw [upd_other hij] at hjh ⊢
          have := c j hj hjh
          omega
      · obtain ⟨e1, e2⟩ := e hN
        have hi0 : i = 0 := by omega
        subst hi0
        have e3 := e2 h2
        refine ⟨by omega, fun hjh => ?_⟩
        rw [hl, upd_same] at hjh
        unfold Tk.next at hjh
        rw [h.over hi] at hjh
        have : (s.l 0).hot (s.f 0) = true := by unfold Tk.hot; rw [hk]; simp [h2]
        rw [this] at hjh
        simp [show ¬ (s.l 0).left < 1 by omega, Tk.less, hk] at hjh
  · rw [pick_done hd]; exact ⟨a, b, c, d, e⟩
theorem Bmp.pickI {N : Nat} {S : Int} {s : Sy} (hS : S ≤ 150) (h : Own 1 N s) (hT : Bmp N S s) (i : Int) : Bmp N S (s.pickI 1 N i) := by
  unfold Sy.pickI isT
  split
  · rename_i hh; simp at hh; exact Bmp.pick hS h hT (by omega)
  · exact hT
theorem Bmp.upTo {N : Nat} {S : Int} {s : Sy} (hS : S ≤ 150) (h : Own 1 N s) (hT : Bmp N S s) : ∀ k, k ≤ N → Bmp N S (s.upTo 1 k)
  | 0, _ => hT
  | k + 1, hk => Bmp.pick hS (h.upTo k (by omega)) (Bmp.upTo hS h hT k (by omega)) (by omega)
theorem Bmp.rounds {N : Nat} {S : Int} (hS : S ≤ 150) : ∀ {s : Sy} (_ : Own 1 N s) (_ : Bmp N S s) k, Bmp N S (s.rounds 1 N k)
  | _, _, hT, 0 => hT
  | s, h, hT, k + 1 => by
    simp only [Sy.rounds]
    split
    · exact hT
    · exact Bmp.rounds hS h.round (Bmp.upTo hS h hT N (Nat.le_refl _)) k
end Go.Proofs.YtdhanenbcjmfkaaDoor
