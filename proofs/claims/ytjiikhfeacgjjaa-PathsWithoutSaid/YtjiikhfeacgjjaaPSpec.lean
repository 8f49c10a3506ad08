/-
  Plans as plain data; which partitions have a path into which: no word of the program.
-/
namespace Go.Proofs.Ytjiikhfeacgjjaa

/-! ### plans -/
/-- Start, length, partition, gang. -/
abbrev WinA := Int × Int × Int × Int
abbrev SemA := Int × Int
/-- Kind, from, to, size, depth, age. -/
abbrev ChanA := Int × Int × Int × Int × Int × Int
abbrev PairA := Int × Int
/-- Semaphores, the number of events, priorities, the three actions. -/
abbrev PartA := List SemA × Int × List Int × Int × Int × Int
/-- Frame, cores, partitions, channels, pairs. -/
abbrev PlanA := Int × List (List WinA) × List PartA × List ChanA × List PairA

def byte (z : Int) : Prop := 0 ≤ z ∧ z ≤ 255
def wide (z : Int) : Prop := 0 ≤ z ∧ z ≤ 65535
def WfWin (w : WinA) : Prop := wide w.1 ∧ wide w.2.1 ∧ byte w.2.2.1 ∧ byte w.2.2.2
def WfSem (s : SemA) : Prop := byte s.1 ∧ byte s.2
def WfPair (s : PairA) : Prop := byte s.1 ∧ byte s.2
def WfChan (c : ChanA) : Prop := byte c.1 ∧ byte c.2.1 ∧ byte c.2.2.1 ∧ byte c.2.2.2.1 ∧ byte c.2.2.2.2.1 ∧ wide c.2.2.2.2.2
def WfPart (p : PartA) : Prop := (∀ s ∈ p.1, WfSem s) ∧ byte p.2.1 ∧ (∀ z ∈ p.2.2.1, byte z) ∧ byte p.2.2.2.1 ∧ byte p.2.2.2.2.1 ∧ byte p.2.2.2.2.2
def WfPlan (p : PlanA) : Prop := wide p.1 ∧ (∀ ws ∈ p.2.1, ∀ w ∈ ws, WfWin w) ∧ (∀ q ∈ p.2.2.1, WfPart q) ∧ (∀ c ∈ p.2.2.2.1, WfChan c) ∧ (∀ r ∈ p.2.2.2.2, WfPair r)

def dW : WinA := (0, 0, 0, 0)
def dS : SemA := (0, 0)
def dC : ChanA := (0, 0, 0, 0, 0, 0)
def dQ : PartA := ([], 0, [], 0, 0, 0)

/-! ### links -/
/-- Is a number that of one of n partitions? -/
def isB (n : Nat) (z : Int) : Bool := decide (0 ≤ z ∧ z < n)
/-- Are both ends of a channel partitions? -/
def btwB (n : Nat) (c : ChanA) : Bool := isB n c.2.1 && isB n c.2.2.1
/-- Does a channel lead from a to b? -/
def lnk1 (n : Nat) (c : ChanA) (a b : Nat) : Bool :=
  btwB n c && ((decide (c.2.1 = a) && decide (c.2.2.1 = b)) || (decide (c.1 = 0) && (decide (c.2.2.1 = a) && decide (c.2.1 = b))))
/-- Does one of the channels lead from a to b? -/
def lnkB (n : Nat) (l : List ChanA) (a b : Nat) : Bool := l.any fun c => lnk1 n c a b

theorem lnk1_lt {n : Nat} {c : ChanA} {a b : Nat} (h : lnk1 n c a b = true) (hc : WfChan c) : (a < n ∧ a < 256) ∧ (b < n ∧ b < 256) := by
  obtain ⟨_, ⟨h1, h2⟩, ⟨h3, h4⟩, _⟩ := hc
  unfold lnk1 btwB isB at h
  simp only [Bool.and_eq_true, Bool.or_eq_true, decide_eq_true_eq] at h
  omega
theorem lnkB_lt {n : Nat} {l : List ChanA} {a b : Nat} (h : lnkB n l a b = true) (hl : ∀ c ∈ l, WfChan c) : (a < n ∧ a < 256) ∧ (b < n ∧ b < 256) := by
  obtain ⟨c, hc, h⟩ := List.any_eq_true.1 h
  exact lnk1_lt h (hl c hc)

/-- There is a path from a to b. -/
inductive Path (n : Nat) (l : List ChanA) : Nat → Nat → Prop
  | refl (a : Nat) : Path n l a a
  | step {a b c : Nat} : lnkB n l a b = true → Path n l b c → Path n l a c
theorem Path.trans {n : Nat} {l : List ChanA} {a b c : Nat} (h : Path n l a b) (k : Path n l b c) : Path n l a c := by
  induction h with
  | refl => exact k
  | step h1 _ ih => exact .step h1 (ih k)
theorem Path.one {n : Nat} {l : List ChanA} {a b : Nat} (h : lnkB n l a b = true) : Path n l a b := .step h (.refl b)
noncomputable def pathB (n : Nat) (l : List ChanA) (a b : Nat) : Bool := @decide (Path n l a b) (Classical.propDecidable _)
theorem pathB_iff {n : Nat} {l : List ChanA} {a b : Nat} : pathB n l a b = true ↔ Path n l a b := by
  unfold pathB
  exact @decide_eq_true_iff _ (Classical.propDecidable _)
/-- Backwards: what holds at the end and goes back along links holds at the beginning. -/
theorem Path.back {n : Nat} {l : List ChanA} {a b : Nat} (h : Path n l a b) (X : Nat → Prop) (hX : ∀ a b, lnkB n l a b = true → X b → X a) (hb : X b) : X a := by
  induction h with
  | refl => exact hb
  | step h1 _ ih => exact hX _ _ h1 (ih hb)
theorem Path.on {n : Nat} {l : List ChanA} {a b : Nat} (h : Path n l a b) (X : Nat → Prop) (hX : ∀ a b, lnkB n l a b = true → X a → X b) (ha : X a) : X b := by
  induction h with
  | refl => exact ha
  | step h1 _ ih => exact ih (hX _ _ h1 ha)

/-- What is found, by rules that hold of the set of those with a path into one, is that set. -/
theorem into_of {n : Nat} {l : List ChanA} {t : Nat} {f : Nat → Bool} (h0 : f t = true) (hs : ∀ i, f i = true → Path n l i t) (hc : ∀ a b, lnkB n l a b = true → f b = true → f a = true) (i : Nat) : f i = pathB n l i t := by
  rw [Bool.eq_iff_iff, pathB_iff]
  exact ⟨hs i, fun h => h.back (fun x => f x = true) hc h0⟩
theorem out_of {n : Nat} {l : List ChanA} {t : Nat} {f : Nat → Bool} (h0 : f t = true) (hs : ∀ i, f i = true → Path n l t i) (hc : ∀ a b, lnkB n l a b = true → f a = true → f b = true) (i : Nat) : f i = pathB n l t i := by
  rw [Bool.eq_iff_iff, pathB_iff]
  exact ⟨hs i, fun h => h.on (fun x => f x = true) hc h0⟩

/-! ### rounds that follow links (the program) -/
/-- What a round has found, behind k partitions: f is what was known, d whose links were followed before. -/
def rnd (R : Nat → Nat → Bool) (n : Nat) (f d : Nat → Bool) (k : Nat) (b : Nat) : Bool := f b || (decide (b < n) && (List.range k).any fun a => f a && !d a && R a b)
def rndI (R : Nat → Nat → Bool) (n : Nat) (f d : Nat → Bool) (k j : Nat) (b : Nat) : Bool := rnd R n f d k b || (decide (b < j) && R k b)
theorem rnd_zero (R : Nat → Nat → Bool) (n : Nat) (f d : Nat → Bool) (b : Nat) : rnd R n f d 0 b = f b := by simp [rnd]
theorem rndI_zero (R : Nat → Nat → Bool) (n : Nat) (f d : Nat → Bool) (k b : Nat) : rndI R n f d k 0 b = rnd R n f d k b := by simp [rndI]
theorem rnd_skip {R : Nat → Nat → Bool} {n : Nat} {f d : Nat → Bool} {k : Nat} (h : (f k && !d k) = false) (b : Nat) : rnd R n f d (k + 1) b = rnd R n f d k b := by
  unfold rnd
  rw [List.range_succ, List.any_append]
  simp [h]
theorem rnd_take {R : Nat → Nat → Bool} {n : Nat} {f d : Nat → Bool} {k : Nat} (h : (f k && !d k) = true) (b : Nat) : rnd R n f d (k + 1) b = rndI R n f d k n b := by
  unfold rndI rnd
  rw [List.range_succ, List.any_append]
  simp only [List.any_cons, List.any_nil, Bool.or_false, h, Bool.true_and]
  cases f b <;> cases decide (b < n) <;> simp
theorem rndI_succ {R : Nat → Nat → Bool} {n : Nat} {f d : Nat → Bool} {k j : Nat} (b : Nat) : rndI R n f d k (j + 1) b = if b = j then rndI R n f d k j j || R k j else rndI R n f d k j b := by
  unfold rndI
  by_cases e : b = j
  · subst e
    simp
  · rw [if_neg e]
    have : decide (b < j + 1) = decide (b < j) := by rw [decide_eq_decide]; omega
    rw [this]
theorem rndI_le {R : Nat → Nat → Bool} {n : Nat} {f d : Nat → Bool} {k j b : Nat} (h : j ≤ b) : rndI R n f d k j b = rnd R n f d k b := by
  unfold rndI
  rw [decide_eq_false (by omega)]
  simp
theorem rnd_mono {R : Nat → Nat → Bool} {n : Nat} {f d : Nat → Bool} {k b : Nat} (h : f b = true) : rnd R n f d k b = true := by simp [rnd, h]
theorem rnd_far {R : Nat → Nat → Bool} {n : Nat} {f d : Nat → Bool} {k b : Nat} (h : n ≤ b) : rnd R n f d k b = f b := by
  unfold rnd
  rw [decide_eq_false (by omega)]
  simp
theorem rnd_sound {R : Nat → Nat → Bool} {n : Nat} {f d : Nat → Bool} {k b : Nat} {S : Nat → Prop} (hS : ∀ a b, R a b = true → S a → S b) (hf : ∀ i, f i = true → S i) (h : rnd R n f d k b = true) : S b := by
  unfold rnd at h
  simp only [Bool.or_eq_true, Bool.and_eq_true, List.any_eq_true] at h
  rcases h with h | ⟨_, a, _, ⟨h1, _⟩, h2⟩
  · exact hf b h
  · exact hS a b h2 (hf a h1)
/-- Where a round has found no more, nothing is left to follow. -/
theorem rnd_closed {R : Nat → Nat → Bool} {n : Nat} {f d : Nat → Bool} (hd : ∀ a, a < n → d a = true → ∀ b, b < n → R a b = true → f b = true) (he : ∀ i, i < n → rnd R n f d n i = f i) :
    ∀ a, a < n → f a = true → ∀ b, b < n → R a b = true → f b = true := by
  intro a ha hf b hb hR
  cases hda : d a with
  | true => exact hd a ha hda b hb hR
  | false =>
    rw [← he b hb]
    unfold rnd
    simp only [Bool.or_eq_true, Bool.and_eq_true, List.any_eq_true, decide_eq_true_eq]
    exact .inr ⟨hb, a, List.mem_range.2 ha, by simp [hf, hda], hR⟩
/-- What was known is followed behind the round. -/
theorem rnd_next {R : Nat → Nat → Bool} {n : Nat} {f d : Nat → Bool} (hd : ∀ a, a < n → d a = true → ∀ b, b < n → R a b = true → f b = true) :
    ∀ a, a < n → f a = true → ∀ b, b < n → R a b = true → rnd R n f d n b = true := by
  intro a ha hf b hb hR
  cases hda : d a with
  | true => exact rnd_mono (hd a ha hda b hb hR)
  | false =>
    unfold rnd
    simp only [Bool.or_eq_true, Bool.and_eq_true, List.any_eq_true, decide_eq_true_eq]
    exact .inr ⟨hb, a, List.mem_range.2 ha, by simp [hf, hda], hR⟩
/-- How many are not found. -/
def miss (n : Nat) (f : Nat → Bool) : Nat := ((List.range n).filter fun i => !f i).length
theorem filter_le {l : List Nat} {p q : Nat → Bool} (h : ∀ i ∈ l, p i = true → q i = true) : (l.filter p).length ≤ (l.filter q).length := by
  induction l with
  | nil => simp
  | cons x r ih =>
    have ih := ih fun i hi => h i (List.mem_cons_of_mem _ hi)
    have hx := h x List.mem_cons_self
    rw [List.filter_cons, List.filter_cons]
    cases hp : p x <;> cases hq : q x <;> simp_all <;> omega
theorem filter_lt {l : List Nat} {p q : Nat → Bool} (h : ∀ i ∈ l, p i = true → q i = true) {j : Nat} (hj : j ∈ l) (hp : p j = false) (hq : q j = true) : (l.filter p).length < (l.filter q).length := by
  induction l with
  | nil => cases hj
  | cons x r ih =>
    have hr := filter_le fun i hi => h i (List.mem_cons_of_mem _ hi)
    have hx := h x List.mem_cons_self
    rw [List.filter_cons, List.filter_cons]
    rcases List.mem_cons.1 hj with rfl | hj
    · simp [hp, hq]; omega
    · have ih := ih (fun i hi => h i (List.mem_cons_of_mem _ hi)) hj
      cases hp' : p x <;> cases hq' : q x <;> simp_all <;> omega
theorem miss_lt {n : Nat} {f g : Nat → Bool} (h : ∀ i, f i = true → g i = true) {j : Nat} (hj : j < n) (hf : f j = false) (hg : g j = true) : miss n g < miss n f := by
  unfold miss
  refine filter_lt (fun i _ hi => ?_) (List.mem_range.2 hj) (by simp [hg]) (by simp [hf])
  simp only [Bool.not_eq_true'] at hi ⊢
  cases hfi : f i with
  | false => rfl
  | true => rw [h i hfi] at hi; cases hi

/-! ### rounds over all channels (the document's answer) -/
def upd (K : Nat → Bool) (i : Nat) : Nat → Bool := fun j => if j = i then true else K j
def stepA (K : Nat → Bool) (c : ChanA) : Nat → Bool := if K c.2.2.1.toNat then upd K c.2.1.toNat else K
def stepB (K : Nat → Bool) (c : ChanA) : Nat → Bool := if decide (c.1 = 0) && K c.2.1.toNat then upd K c.2.2.1.toNat else K
def stepK (n : Nat) (K : Nat → Bool) (c : ChanA) : Nat → Bool := if btwB n c then stepB (stepA K c) c else K
def foldK (n : Nat) (K : Nat → Bool) (l : List ChanA) : Nat → Bool := l.foldl (stepK n) K
def rndK (n : Nat) (l : List ChanA) (t : Nat) : Nat → Nat → Bool
  | 0 => fun i => decide (i = t)
  | r + 1 => foldK n (rndK n l t r) l
theorem upd_mono {K : Nat → Bool} {i j : Nat} (h : K j = true) : upd K i j = true := by unfold upd; split <;> simp_all
theorem stepA_mono {K : Nat → Bool} {c : ChanA} {j : Nat} (h : K j = true) : stepA K c j = true := by
  unfold stepA; split
  · exact upd_mono h
  · exact h
theorem stepB_mono {K : Nat → Bool} {c : ChanA} {j : Nat} (h : K j = true) : stepB K c j = true := by
  unfold stepB; split
  · exact upd_mono h
  · exact h
theorem stepK_mono {n : Nat} {K : Nat → Bool} {c : ChanA} {j : Nat} (h : K j = true) : stepK n K c j = true := by
  unfold stepK; split
  · exact stepB_mono (stepA_mono h)
  · exact h
theorem foldK_mono {n : Nat} {l : List ChanA} : ∀ {K : Nat → Bool} {j : Nat}, K j = true → foldK n K l j = true := by
  induction l with
  | nil => intro K j h; exact h
  | cons c r ih => intro K j h; exact ih (stepK_mono h)
theorem foldK_cons (n : Nat) (K : Nat → Bool) (c : ChanA) (l : List ChanA) : foldK n K (c :: l) = foldK n (stepK n K c) l := rfl
theorem foldK_snoc (n : Nat) (K : Nat → Bool) (c : ChanA) (l : List ChanA) : foldK n K (l ++ [c]) = stepK n (foldK n K l) c := by unfold foldK; rw [List.foldl_append]; rfl
/-- A step's finds have a path. -/
theorem stepK_sound {n : Nat} {l : List ChanA} {K : Nat → Bool} {c : ChanA} {t : Nat} (hc : c ∈ l) (hw : WfChan c) (hK : ∀ i, K i = true → Path n l i t) : ∀ i, stepK n K c i = true → Path n l i t := by
  obtain ⟨_, ⟨f0, _⟩, ⟨t0, _⟩, _⟩ := hw
  intro i h
  unfold stepK at h
  split at h
  · rename_i hb
    have hA : ∀ i, stepA K c i = true → Path n l i t := by
      intro i h
      unfold stepA at h
      split at h
      · rename_i h1
        unfold upd at h
        split at h
        · rename_i e
          subst e
          refine .step (b := c.2.2.1.toNat) ?_ (hK _ h1)
          refine List.any_eq_true.2 ⟨c, hc, ?_⟩
          unfold lnk1
          rw [hb]
          simp only [Bool.true_and, Bool.or_eq_true, Bool.and_eq_true, decide_eq_true_eq]
          omega
        · exact hK i h
      · exact hK i h
    unfold stepB at h
    split at h
    · rename_i h1
      simp only [Bool.and_eq_true, decide_eq_true_eq] at h1
      unfold upd at h
      split at h
      · rename_i e
        subst e
        refine .step (b := c.2.1.toNat) ?_ (hA _ h1.2)
        refine List.any_eq_true.2 ⟨c, hc, ?_⟩
        unfold lnk1
        rw [hb]
        simp only [Bool.true_and, Bool.or_eq_true, Bool.and_eq_true, decide_eq_true_eq]
        omega
      · exact hA i h
    · exact hA i h
  · exact hK i h
theorem foldK_sound {n : Nat} {l : List ChanA} {t : Nat} : ∀ {m : List ChanA} {K : Nat → Bool}, (∀ c ∈ m, c ∈ l ∧ WfChan c) → (∀ i, K i = true → Path n l i t) → ∀ i, foldK n K m i = true → Path n l i t := by
  intro m
  induction m with
  | nil => intro K _ hK; exact hK
  | cons c r ih =>
    intro K hm hK
    exact ih (fun c hc => hm c (List.mem_cons_of_mem _ hc)) (stepK_sound (hm c List.mem_cons_self).1 (hm c List.mem_cons_self).2 hK)
theorem rndK_sound {n : Nat} {l : List ChanA} {t : Nat} (hl : ∀ c ∈ l, WfChan c) : ∀ r i, rndK n l t r i = true → Path n l i t := by
  intro r
  induction r with
  | zero => intro i h; have : i = t := by simpa [rndK] using h
            subst this; exact .refl _
  | succ r ih => exact foldK_sound (fun c hc => ⟨hc, hl c hc⟩) ih
/-- Where all channels change nothing, each changes nothing. -/
theorem foldK_fix {n : Nat} : ∀ {l : List ChanA} {K : Nat → Bool}, (∀ i, foldK n K l i = K i) → ∀ c ∈ l, ∀ i, stepK n K c i = K i := by
  intro l
  induction l with
  | nil => intro K _ c hc; cases hc
  | cons x r ih =>
    intro K h c hc i
    have hx : stepK n K x = K := by
      funext j
      rw [Bool.eq_iff_iff]
      refine ⟨fun hj => ?_, stepK_mono⟩
      rw [← h j, foldK_cons]
      exact foldK_mono hj
    rw [foldK_cons, hx] at h
    rcases List.mem_cons.1 hc with rfl | hc
    · rw [hx]
    · exact ih h c hc i
theorem fix_closed {n : Nat} {l : List ChanA} {K : Nat → Bool} (hl : ∀ c ∈ l, WfChan c) (h : ∀ i, foldK n K l i = K i) (a b : Nat) (hab : lnkB n l a b = true) (hb : K b = true) : K a = true := by
  obtain ⟨c, hc, hab⟩ := List.any_eq_true.1 hab
  have hf := foldK_fix h c hc
  obtain ⟨_, ⟨f0, _⟩, ⟨t0, _⟩, _⟩ := hl c hc
  unfold lnk1 at hab
  simp only [Bool.and_eq_true, Bool.or_eq_true, decide_eq_true_eq] at hab
  obtain ⟨hbt, hab⟩ := hab
  have hA : stepA K c a = true ∨ K a = true ∨ (c.1 = 0 ∧ c.2.2.1 = a ∧ c.2.1 = b) := by
    rcases hab with ⟨e1, e2⟩ | ⟨e0, e1, e2⟩
    · left
      unfold stepA
      rw [show c.2.2.1.toNat = b by omega, if_pos hb]
      unfold upd
      rw [if_pos (by omega)]
    · exact .inr (.inr ⟨e0, e1, e2⟩)
  rcases hA with hA | hA | ⟨e0, e1, e2⟩
  · rw [← hf a]
    unfold stepK
    rw [if_pos hbt]
    exact stepB_mono hA
  · exact hA
  · rw [← hf a]
    unfold stepK
    rw [if_pos hbt]
    unfold stepB
    have : stepA K c c.2.1.toNat = true := stepA_mono (by rw [show c.2.1.toNat = b by omega]; exact hb)
    rw [if_pos (by simp [e0, this])]
    unfold upd
    rw [if_pos (by omega)]
theorem stepK_lt {n : Nat} {K : Nat → Bool} {c : ChanA} (hK : ∀ i, K i = true → i < n) : ∀ i, stepK n K c i = true → i < n := by
  intro i h
  unfold stepK at h
  split at h
  · rename_i hb
    unfold btwB isB at hb
    simp only [Bool.and_eq_true, decide_eq_true_eq] at hb
    have hA : ∀ i, stepA K c i = true → i < n := by
      intro i h
      unfold stepA upd at h
      split at h
      · dsimp only at h
        split at h
        · omega
        · exact hK i h
      · exact hK i h
    unfold stepB upd at h
    split at h
    · dsimp only at h
      split at h
      · omega
      · exact hA i h
    · exact hA i h
  · exact hK i h
theorem foldK_lt {n : Nat} : ∀ {l : List ChanA} {K : Nat → Bool}, (∀ i, K i = true → i < n) → ∀ i, foldK n K l i = true → i < n := by
  intro l
  induction l with
  | nil => intro K hK; exact hK
  | cons c r ih => intro K hK; exact ih (stepK_lt hK)
theorem rndK_lt {n : Nat} {l : List ChanA} {t : Nat} (ht : t < n) : ∀ r i, rndK n l t r i = true → i < n := by
  intro r
  induction r with
  | zero => intro i h; have : i = t := by simpa [rndK] using h
            omega
  | succ r ih => exact foldK_lt ih
theorem rndK_fix {n : Nat} {l : List ChanA} {t : Nat} (ht : t < n) : ∀ r, (∃ s, s < r ∧ rndK n l t (s + 1) = rndK n l t s) ∨ miss n (rndK n l t r) + (r + 1) ≤ n := by
  intro r
  induction r with
  | zero =>
    right
    have h1 : miss n (fun i => decide (i = t)) < miss n (fun _ => false) := miss_lt (by simp) ht rfl (by simp)
    have h2 : miss n (fun _ => false) ≤ n := by
      unfold miss
      exact Nat.le_trans (List.length_filter_le _ _) (by simp)
    show miss n (fun i => decide (i = t)) + 1 ≤ n
    omega
  | succ r ih =>
    rcases ih with ⟨s, hs, e⟩ | ih
    · exact .inl ⟨s, by omega, e⟩
    · by_cases e : rndK n l t (r + 1) = rndK n l t r
      · exact .inl ⟨r, by omega, e⟩
      · right
        obtain ⟨j, hj⟩ : ∃ j, rndK n l t (r + 1) j ≠ rndK n l t r j := by
          refine Classical.byContradiction fun h => e (funext fun j => ?_)
          exact Classical.byContradiction fun h' => h ⟨j, h'⟩
        have h1 : rndK n l t r j = false := by
          cases h : rndK n l t r j with
          | false => rfl
          | true => exact absurd ((foldK_mono h : rndK n l t (r + 1) j = true).trans h.symm) hj
        have h2 : rndK n l t (r + 1) j = true := by
          cases h : rndK n l t (r + 1) j with
          | true => rfl
          | false => exact absurd (h.trans h1.symm) hj
        have := miss_lt (n := n) (f := rndK n l t r) (g := rndK n l t (r + 1)) (fun i hi => foldK_mono hi) (rndK_lt ht (r + 1) j h2) h1 h2
        omega
/-- The document's answer is the set of those with a path. -/
theorem rndK_path {n : Nat} {l : List ChanA} {t : Nat} (hl : ∀ c ∈ l, WfChan c) (ht : t < n) (i : Nat) : rndK n l t n i = pathB n l i t := by
  have hfix : rndK n l t (n + 1) = rndK n l t n := by
    rcases rndK_fix (l := l) ht n with ⟨s, hs, e⟩ | h
    · have : ∀ k, rndK n l t (s + k) = rndK n l t s ∧ rndK n l t (s + k + 1) = rndK n l t s := by
        intro k
        induction k with
        | zero => exact ⟨rfl, e⟩
        | succ k ih => exact ⟨ih.2, by show foldK n (rndK n l t (s + k + 1)) l = _; rw [ih.2]; exact e⟩
      have := this (n - s)
      rw [show s + (n - s) = n by omega] at this
      rw [this.1, this.2]
    · omega
  have h0 : ∀ r, rndK n l t r t = true := by
    intro r
    induction r with
    | zero => simp [rndK]
    | succ r ih => exact foldK_mono ih
  exact into_of (h0 n) (rndK_sound hl n) (fun a b hab hb => fix_closed hl (fun i => congrFun hfix i) a b hab hb) i

/-! ### more channels, and fewer -/
theorem Path.more {n : Nat} {l m : List ChanA} {a b : Nat} (hlm : ∀ c ∈ l, c ∈ m) (h : Path n l a b) : Path n m a b := by
  induction h with
  | refl => exact .refl _
  | step h1 _ ih =>
    obtain ⟨c, hc, h1⟩ := List.any_eq_true.1 h1
    exact .step (List.any_eq_true.2 ⟨c, hlm c hc, h1⟩) ih
/-- A channel that ends where there is no path brings none. -/
theorem path_more {n : Nat} {l : List ChanA} {c : ChanA} {t : Nat} {i : Nat} (hc : WfChan c) (h1 : ¬ Path n l c.2.2.1.toNat t) (h2 : c.1 = 0 → ¬ Path n l c.2.1.toNat t) (h : Path n (l ++ [c]) i t) : Path n l i t := by
  obtain ⟨_, ⟨f0, _⟩, ⟨t0, _⟩, _⟩ := hc
  refine h.back (fun x => Path n l x t) (fun a b hab hb => ?_) (.refl _)
  unfold lnkB at hab
  rw [List.any_append] at hab
  simp only [List.any_cons, List.any_nil, Bool.or_false, Bool.or_eq_true] at hab
  rcases hab with hab | hab
  · exact .step hab hb
  · unfold lnk1 at hab
    simp only [Bool.and_eq_true, Bool.or_eq_true, decide_eq_true_eq] at hab
    rcases hab.2 with ⟨e1, e2⟩ | ⟨e0, e1, e2⟩
    · exact absurd (by rw [show c.2.2.1.toNat = b by omega]; exact hb) h1
    · exact absurd (by rw [show c.2.1.toNat = b by omega]; exact hb) (h2 e0)
/-- The channels that lead somewhere near a partition. -/
noncomputable def near (n : Nat) (l : List ChanA) (t : Nat) : List ChanA := l.filter fun c => btwB n c && pathB n l c.2.2.1.toNat t
theorem path_near {n : Nat} {l : List ChanA} {t i : Nat} (hl : ∀ c ∈ l, WfChan c) : Path n (near n l t) i t ↔ Path n l i t := by
  refine ⟨fun h => h.more fun c hc => (List.mem_filter.1 hc).1, fun h => ?_⟩
  suffices Path n (near n l t) i t ∧ Path n l i t from this.1
  refine h.back (fun x => Path n (near n l t) x t ∧ Path n l x t) (fun a b hab hb => ?_) ⟨.refl _, .refl _⟩
  refine ⟨.step ?_ hb.1, .step hab hb.2⟩
  obtain ⟨c, hc, hk⟩ := List.any_eq_true.1 hab
  obtain ⟨_, ⟨f0, _⟩, ⟨t0, _⟩, _⟩ := hl c hc
  refine List.any_eq_true.2 ⟨c, List.mem_filter.2 ⟨hc, ?_⟩, hk⟩
  unfold lnk1 at hk
  simp only [Bool.and_eq_true, Bool.or_eq_true, decide_eq_true_eq] at hk
  rw [hk.1, Bool.true_and, pathB_iff]
  rcases hk.2 with ⟨e1, e2⟩ | ⟨e0, e1, e2⟩
  · rw [show c.2.2.1.toNat = b by omega]; exact hb.2
  · rw [show c.2.2.1.toNat = a by omega]; exact .step hab hb.2
end Go.Proofs.Ytjiikhfeacgjjaa
