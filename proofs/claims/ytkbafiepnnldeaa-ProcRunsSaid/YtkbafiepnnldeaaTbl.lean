/-
  A table of processes, pure: what each call makes of it, and in what order they stand.
-/
namespace Go.Proofs.Ytkbafiepnnldeaa

/-- A process: what it does, whether it is held, its priority. -/
structure Pr where
  st : Int
  held : Bool
  pr : Int
/-- A table: first priorities, processes, who may run, in order. -/
structure Tb where
  first : List Nat
  l : List Pr
  q : List Int
def Pr.nil : Pr := ⟨0, false, 0⟩
def atP (l : List Pr) (x : Int) : Pr := l.getD x.toNat Pr.nil
def Pr.run (p : Pr) : Bool := decide (p.st = 1) && !p.held
def Pr.dorm (p : Pr) : Bool := decide (p.st = 0) && !p.held
structure Pr.ok (p : Pr) : Prop where
  st : p.st = 0 ∨ p.st = 1 ∨ p.st = 2
  held : p.st = 0 → p.held = false
  lo : 0 ≤ p.pr
  hi : p.pr ≤ 63
def gone (q : List Int) (i : Int) : List Int := q.filter fun y => !decide (y = i)
def ahead (l : List Pr) (i : Int) (y : Int) : Bool := !decide ((atP l y).pr < (atP l i).pr)
def join (l : List Pr) (q : List Int) (i : Int) : List Int := q.takeWhile (ahead l i) ++ i :: q.dropWhile (ahead l i)
def Tb.put (T : Tb) (i : Int) (p : Pr) : Tb :=
  ⟨T.first, T.l.set i.toNat p, if p.run = true then join (T.l.set i.toNat p) (gone T.q i) i else gone T.q i⟩
def Tb.reset (T : Tb) : Tb := ⟨T.first, T.first.map fun (x : Nat) => ⟨0, false, (x : Int)⟩, []⟩
/-- What is wanted of a process. -/
def req (k : Int) (p : Pr) : Bool :=
  if k = 0 then p.dorm else if k = 1 then !p.dorm else if k = 2 then p.run else if k = 3 then decide (p.st = 2) else if k = 4 then !p.dorm && !p.held else if k = 5 then p.held else if k = 6 then !p.dorm else p.run
/-- What it becomes. -/
def bec (k : Int) (f : Int) (pr : Int) (p : Pr) : Pr :=
  if k = 0 then ⟨1, false, p.pr⟩ else if k = 1 then ⟨0, false, f⟩ else if k = 2 then ⟨2, p.held, p.pr⟩ else if k = 3 then ⟨1, p.held, p.pr⟩ else if k = 4 then ⟨p.st, true, p.pr⟩ else if k = 5 then ⟨p.st, false, p.pr⟩ else if k = 6 then ⟨p.st, p.held, pr⟩ else p
def Tb.fst (T : Tb) (i : Int) : Int := ((T.first.getD i.toNat 0 : Nat) : Int)
def Tb.has (T : Tb) (i : Int) : Prop := 0 ≤ i ∧ i < (T.l.length : Int)
instance (T : Tb) (i : Int) : Decidable (T.has i) := by unfold Tb.has; infer_instance
def Tb.stepE (T : Tb) (k i pr : Int) : Int :=
  if k = 8 then 0 else if ¬ T.has i then 170 else if k = 6 ∧ (pr < 0 ∨ 63 < pr) then 172 else if req k (atP T.l i) = true then 0 else 171
def Tb.step (T : Tb) (k i pr : Int) : Tb :=
  if k = 8 then T.reset else if T.stepE k i pr = 0 then T.put i (bec k (T.fst i) pr (atP T.l i)) else T

structure TOk (T : Tb) : Prop where
  len : T.first.length = T.l.length
  pos : 1 ≤ T.l.length
  most : T.l.length ≤ 16
  fst : ∀ x ∈ T.first, x ≤ 63
  all : ∀ p ∈ T.l, p.ok
  nd : T.q.Nodup
  mem : ∀ x, x ∈ T.q ↔ (0 ≤ x ∧ x < (T.l.length : Int)) ∧ (atP T.l x).run = true
  ord : T.q.Pairwise fun a b => (atP T.l b).pr ≤ (atP T.l a).pr

theorem atP_set {l : List Pr} {i x : Int} {p : Pr} (hi : 0 ≤ i) (h2 : i < (l.length : Int)) (hx : 0 ≤ x) : atP (l.set i.toNat p) x = if x = i then p else atP l x := by
  unfold atP
  rw [List.getD_eq_getElem?_getD, List.getElem?_set]
  by_cases e : x = i
  · subst e
    rw [if_pos rfl, if_pos rfl, if_pos (by omega)]
    rfl
  · rw [if_neg (by omega), if_neg e, ← List.getD_eq_getElem?_getD]
theorem atP_mem {l : List Pr} {i : Int} (hi : 0 ≤ i) (h2 : i < (l.length : Int)) : atP l i ∈ l := by
  unfold atP
  rw [List.getD_eq_getElem?_getD, List.getElem?_eq_getElem (by omega)]
  exact List.getElem_mem _
theorem TOk.at {T : Tb} (h : TOk T) {i : Int} (hi : T.has i) : (atP T.l i).ok := h.all _ (atP_mem hi.1 hi.2)
theorem fst_le {T : Tb} (h : TOk T) (i : Int) : 0 ≤ T.fst i ∧ T.fst i ≤ 63 := by
  unfold Tb.fst
  rw [List.getD_eq_getElem?_getD]
  cases e : T.first[i.toNat]? with
  | none => simp
  | some x =>
    have := h.fst x (List.mem_of_getElem? e)
    simp only [Option.getD_some]
    omega
theorem mem_gone {q : List Int} {i x : Int} : x ∈ gone q i ↔ x ∈ q ∧ x ≠ i := by
  unfold gone
  rw [List.mem_filter]
  simp
theorem gone_nd {q : List Int} (h : q.Nodup) (i : Int) : (gone q i).Nodup := h.filter _
theorem gone_same {q : List Int} {i : Int} (h : i ∉ q) : gone q i = q := by
  unfold gone
  rw [List.filter_eq_self]
  intro a ha
  have : a ≠ i := fun e => h (e ▸ ha)
  simp [this]
theorem mem_join {l : List Pr} {q : List Int} {i x : Int} : x ∈ join l q i ↔ x = i ∨ x ∈ q := by
  have e := List.takeWhile_append_dropWhile (p := ahead l i) (l := q)
  unfold join
  conv => rhs; rw [← e]
  simp only [List.mem_append, List.mem_cons]
  constructor
  · rintro (h | h | h)
    · exact .inr (.inl h)
    · exact .inl h
    · exact .inr (.inr h)
  · rintro (h | h | h)
    · exact .inr (.inl h)
    · exact .inl h
    · exact .inr (.inr h)
theorem join_nd {l : List Pr} {q : List Int} {i : Int} (h : q.Nodup) (hi : i ∉ q) : (join l q i).Nodup := by
  have e := List.takeWhile_append_dropWhile (p := ahead l i) (l := q)
  unfold join
  rw [← e] at h hi
  revert h hi
  generalize q.takeWhile (ahead l i) = A
  generalize q.dropWhile (ahead l i) = B
  intro h hi
  rw [List.mem_append, not_or] at hi
  rw [List.nodup_append] at h ⊢
  refine ⟨h.1, List.nodup_cons.2 ⟨hi.2, h.2.1⟩, ?_⟩
  intro a ha b hb
  rcases List.mem_cons.1 hb with rfl | hb
  · exact fun c => hi.1 (c ▸ ha)
  · exact h.2.2 a ha b hb
theorem mem_take {f : Int → Bool} : ∀ {q : List Int} {x : Int}, x ∈ q.takeWhile f → f x = true ∧ x ∈ q
  | a :: r, x, h => by
    cases e : f a with
    | true =>
      rw [List.takeWhile_cons_of_pos e] at h
      rcases List.mem_cons.1 h with rfl | h
      · exact ⟨e, List.mem_cons_self⟩
      · exact ⟨(mem_take h).1, List.mem_cons_of_mem _ (mem_take h).2⟩
    | false =>
      rw [List.takeWhile_cons_of_neg (by rw [e]; simp)] at h
      cases h
theorem mem_drop {f : Int → Bool} : ∀ {q : List Int} {x : Int}, (q.Pairwise fun a b => f b = true → f a = true) → x ∈ q.dropWhile f → f x = false ∧ x ∈ q
  | a :: r, x, hp, h => by
    rw [List.pairwise_cons] at hp
    cases e : f a with
    | true =>
      rw [List.dropWhile_cons_of_pos e] at h
      exact ⟨(mem_drop hp.2 h).1, List.mem_cons_of_mem _ (mem_drop hp.2 h).2⟩
    | false =>
      rw [List.dropWhile_cons_of_neg (by rw [e]; simp)] at h
      rcases List.mem_cons.1 h with rfl | hr
      · exact ⟨e, h⟩
      · refine ⟨?_, h⟩
        cases e2 : f x with
        | false => rfl
        | true => rw [hp.1 x hr e2] at e; cases e
theorem join_ord {R : Int → Int → Prop} {l : List Pr} {q : List Int} {i : Int} (h : q.Pairwise R) (hm : q.Pairwise fun a b => ahead l i b = true → ahead l i a = true) (h1 : ∀ x ∈ q, ahead l i x = true → R x i) (h2 : ∀ x ∈ q, ahead l i x = false → R i x) : (join l q i).Pairwise R := by
  have e := List.takeWhile_append_dropWhile (p := ahead l i) (l := q)
  have hA : ∀ x ∈ q.takeWhile (ahead l i), R x i := fun x hx => h1 x (mem_take hx).2 (mem_take hx).1
  have hB : ∀ x ∈ q.dropWhile (ahead l i), R i x := fun x hx => h2 x (mem_drop hm hx).2 (mem_drop hm hx).1
  unfold join
  rw [← e] at h
  revert h hA hB
  generalize q.takeWhile (ahead l i) = A
  generalize q.dropWhile (ahead l i) = B
  intro h hA hB
  rw [List.pairwise_append] at h ⊢
  refine ⟨h.1, List.pairwise_cons.2 ⟨hB, h.2.1⟩, ?_⟩
  intro a ha b hb
  rcases List.mem_cons.1 hb with rfl | hb
  · exact hA a ha
  · exact h.2.2 a ha b hb

/-- What each new process must be. -/
theorem put_ok {T : Tb} (h : TOk T) {i : Int} (hi : T.has i) {p : Pr} (hp : p.ok) : TOk (T.put i p) := by
  have hat : ∀ x, 0 ≤ x → atP (T.l.set i.toNat p) x = if x = i then p else atP T.l x := fun x hx => atP_set hi.1 hi.2 hx
  have hmg : ∀ x, x ∈ gone T.q i ↔ ((0 ≤ x ∧ x < (T.l.length : Int)) ∧ (atP T.l x).run = true) ∧ x ≠ i := fun x => by rw [mem_gone, h.mem]
  have hgo : (gone T.q i).Pairwise fun a b => (atP (T.l.set i.toNat p) b).pr ≤ (atP (T.l.set i.toNat p) a).pr := by
    refine List.Pairwise.imp_of_mem ?_ (h.ord.filter _)
    intro a b ha hb hab
    have ha' := (hmg a).1 ha
    have hb' := (hmg b).1 hb
    rw [hat a ha'.1.1.1, hat b hb'.1.1.1, if_neg ha'.2, if_neg hb'.2]
    exact hab
  have hnm : i ∉ gone T.q i := fun c => (mem_gone.1 c).2 rfl
  refine ⟨by show T.first.length = (T.l.set _ _).length; rw [List.length_set]; exact h.len, by show 1 ≤ (T.l.set _ _).length; rw [List.length_set]; exact h.pos, by show (T.l.set _ _).length ≤ 16; rw [List.length_set]; exact h.most, h.fst, fun x hx => ?_, ?_, fun x => ?_, ?_⟩
  · rcases List.mem_or_eq_of_mem_set hx with hx | rfl
    · exact h.all _ hx
    · exact hp
  · show (if p.run = true then join _ _ i else gone T.q i).Nodup
    split
    · exact join_nd (gone_nd h.nd i) hnm
    · exact gone_nd h.nd i
  · show x ∈ (if p.run = true then join _ _ i else gone T.q i) ↔ (0 ≤ x ∧ x < ((T.l.set i.toNat p).length : Int)) ∧ (atP (T.l.set i.toNat p) x).run = true
    rw [List.length_set]
    have hi1 := hi.1
    have hi2 := hi.2
    split
    · rename_i hr
      rw [mem_join, hmg]
      constructor
      · rintro (rfl | ⟨⟨⟨h1, h2⟩, h3⟩, h4⟩)
        · exact ⟨⟨hi1, hi2⟩, by rw [hat x hi1, if_pos rfl]; exact hr⟩
        · exact ⟨⟨h1, h2⟩, by rw [hat x h1, if_neg h4]; exact h3⟩
      · rintro ⟨⟨h1, h2⟩, h3⟩
        by_cases e : x = i
        · exact .inl e
        · rw [hat x h1, if_neg e] at h3
          exact .inr ⟨⟨⟨h1, h2⟩, h3⟩, e⟩
    · rename_i hr
      rw [hmg]
      constructor
      · rintro ⟨⟨⟨h1, h2⟩, h3⟩, h4⟩
        exact ⟨⟨h1, h2⟩, by rw [hat x h1, if_neg h4]; exact h3⟩
      · rintro ⟨⟨h1, h2⟩, h3⟩
        by_cases e : x = i
        · rw [hat x h1, if_pos e] at h3
          exact absurd h3 hr
        · rw [hat x h1, if_neg e] at h3
          exact ⟨⟨⟨h1, h2⟩, h3⟩, e⟩
  · show (if p.run = true then join _ _ i else gone T.q i).Pairwise _
    split
    · refine join_ord hgo (hgo.imp fun {a b} hab hb => ?_) (fun x _ hx => ?_) (fun x _ hx => ?_)
      · unfold ahead at hb ⊢
        simp only [Bool.not_eq_true', decide_eq_false_iff_not] at hb ⊢
        omega
      · unfold ahead at hx
        simp only [Bool.not_eq_true', decide_eq_false_iff_not] at hx
        dsimp only [Tb.put]
        omega
      · unfold ahead at hx
        simp only [Bool.not_eq_false', decide_eq_true_eq] at hx
        dsimp only [Tb.put]
        omega
    · exact hgo
theorem run_iff {p : Pr} : p.run = true ↔ p.st = 1 ∧ p.held = false := by unfold Pr.run; simp
theorem dorm_iff {p : Pr} (h : p.ok) : p.dorm = true ↔ p.st = 0 := by
  unfold Pr.dorm
  simp only [Bool.and_eq_true, decide_eq_true_eq, Bool.not_eq_true']
  exact ⟨fun x => x.1, fun x => ⟨x, h.held x⟩⟩
theorem bec_ok {p : Pr} (h : p.ok) {k f pr : Int} (hf : 0 ≤ f ∧ f ≤ 63) (hp : k = 6 → 0 ≤ pr ∧ pr ≤ 63) (hr : req k p = true) : (bec k f pr p).ok := by
  obtain ⟨h1, h2, h3, h4⟩ := h
  unfold bec
  unfold req Pr.dorm Pr.run at hr
  repeat' split
  · exact ⟨.inr (.inl rfl), fun c => absurd c (by show ¬ (1 : Int) = 0; omega), h3, h4⟩
  · exact ⟨.inl rfl, fun _ => rfl, hf.1, hf.2⟩
  · exact ⟨.inr (.inr rfl), fun c => absurd c (by show ¬ (2 : Int) = 0; omega), h3, h4⟩
  · exact ⟨.inr (.inl rfl), fun c => absurd c (by show ¬ (1 : Int) = 0; omega), h3, h4⟩
  · rename_i a0 a1 a2 a3 a4
    subst a4
    refine ⟨h1, fun c => ?_, h3, h4⟩
    have c : p.st = 0 := c
    simp [c] at hr
  · exact ⟨h1, fun _ => rfl, h3, h4⟩
  · rename_i a6
    exact ⟨h1, h2, (hp a6).1, (hp a6).2⟩
  · exact ⟨h1, h2, h3, h4⟩
theorem reset_ok {T : Tb} (h : TOk T) : TOk T.reset := by
  have hl : T.reset.l.length = T.l.length := by show (T.first.map _).length = _; rw [List.length_map, h.len]
  refine ⟨by rw [hl]; exact h.len, by rw [hl]; exact h.pos, by rw [hl]; exact h.most, h.fst, fun p hp => ?_, List.nodup_nil, fun x => ?_, List.Pairwise.nil⟩
  · obtain ⟨x, hx, rfl⟩ := List.mem_map.1 hp
    have := h.fst x hx
    exact ⟨.inl rfl, fun _ => rfl, by show (0 : Int) ≤ (x : Int); omega, by show (x : Int) ≤ 63; omega⟩
  · constructor
    · intro c; cases c
    · rintro ⟨⟨h1, h2⟩, h3⟩
      exfalso
      have h2' : x < ((T.first.map fun (x : Nat) => (⟨0, false, (x : Int)⟩ : Pr)).length : Int) := h2
      have hm := atP_mem h1 h2'
      obtain ⟨y, _, e⟩ := List.mem_map.1 hm
      have h3' : (atP (T.first.map fun (x : Nat) => (⟨0, false, (x : Int)⟩ : Pr)) x).run = true := h3
      rw [← e] at h3'
      simp [Pr.run] at h3'
theorem stepE_ok {T : Tb} {k i pr : Int} (hk : k ≠ 8) (h : T.stepE k i pr = 0) : T.has i ∧ (k = 6 → 0 ≤ pr ∧ pr ≤ 63) ∧ req k (atP T.l i) = true := by
  unfold Tb.stepE at h
  rw [if_neg hk] at h
  split at h
  · omega
  · rename_i h1
    split at h
    · omega
    · rename_i h2
      split at h
      · rename_i h3
        exact ⟨Decidable.not_not.1 h1, fun e => by omega, h3⟩
      · omega
theorem step_ok {T : Tb} (h : TOk T) (k i pr : Int) : TOk (T.step k i pr) := by
  unfold Tb.step
  split
  · exact reset_ok h
  · rename_i hk
    split
    · rename_i he
      obtain ⟨h1, h2, h3⟩ := stepE_ok hk he
      exact put_ok h h1 (bec_ok (h.at h1) (fst_le h i) h2 h3)
    · exact h
theorem step_first (T : Tb) (k i pr : Int) : (T.step k i pr).first = T.first := by
  unfold Tb.step
  split
  · rfl
  · split <;> rfl
theorem step_len {T : Tb} (h : TOk T) (k i pr : Int) : (T.step k i pr).l.length = T.l.length := by rw [← (step_ok h k i pr).len, step_first, h.len]
def Tb.new (first : List Nat) : Tb := ⟨first, first.map fun (x : Nat) => ⟨0, false, (x : Int)⟩, []⟩
theorem reset_new (T : Tb) : T.reset = Tb.new T.first := rfl
def newE (first : List Nat) : Int := if first.length < 1 ∨ 16 < first.length then 173 else if ∃ x ∈ first, 63 < x then 172 else 0
theorem new_ok {first : List Nat} (h : newE first = 0) : TOk (Tb.new first) := by
  unfold newE at h
  split at h
  · omega
  · rename_i h1
    split at h
    · omega
    · rename_i h2
      have h2' : ∀ x ∈ first, x ≤ 63 := fun x hx => Nat.le_of_not_lt fun c => h2 ⟨x, hx, c⟩
      refine ⟨by show first.length = (first.map _).length; rw [List.length_map], by show 1 ≤ (first.map _).length; rw [List.length_map]; omega, by show (first.map _).length ≤ 16; rw [List.length_map]; omega, h2', fun p hp => ?_, List.nodup_nil, fun x => ?_, List.Pairwise.nil⟩
      · obtain ⟨x, hx, rfl⟩ := List.mem_map.1 hp
        have := h2' x hx
        exact ⟨.inl rfl, fun _ => rfl, by show (0 : Int) ≤ (x : Int); omega, by show (x : Int) ≤ 63; omega⟩
      · constructor
        · intro c; cases c
        · rintro ⟨⟨h1, h2⟩, h3⟩
          exfalso
          have h2' : x < ((first.map fun (x : Nat) => (⟨0, false, (x : Int)⟩ : Pr)).length : Int) := h2
          have hm := atP_mem h1 h2'
          obtain ⟨y, _, e⟩ := List.mem_map.1 hm
          have h3' : (atP (first.map fun (x : Nat) => (⟨0, false, (x : Int)⟩ : Pr)) x).run = true := h3
          rw [← e] at h3'
          simp [Pr.run] at h3'
/-- Behind it all who runs: the first. -/
theorem head_top {T : Tb} (h : TOk T) {a : Int} {r : List Int} (e : T.q = a :: r) : T.has a ∧ (atP T.l a).run = true ∧ ∀ x, T.has x → (atP T.l x).run = true → (atP T.l x).pr ≤ (atP T.l a).pr := by
  have hm := (h.mem a).1 (by rw [e]; exact List.mem_cons_self)
  refine ⟨hm.1, hm.2, fun x hx hr => ?_⟩
  have hxq := (h.mem x).2 ⟨hx, hr⟩
  have ho := h.ord
  rw [e] at hxq ho
  rw [List.pairwise_cons] at ho
  rcases List.mem_cons.1 hxq with rfl | hxq
  · exact Int.le_refl _
  · exact ho.1 x hxq
theorem nobody {T : Tb} (h : TOk T) (e : T.q = []) {x : Int} (hx : T.has x) : (atP T.l x).run = false := by
  cases hr : (atP T.l x).run with
  | false => rfl
  | true => have := (h.mem x).2 ⟨hx, hr⟩; rw [e] at this; cases this
end Go.Proofs.Ytkbafiepnnldeaa
