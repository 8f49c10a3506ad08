/-
  The document's table, pure: who came behind is told by a list; its order is the table's.
-/
import Derived.Test.YtkbafiepnnldeaaTbl
namespace Go.Proofs.Ytkbafiepnnldeaa

def lastR : List Int → Int → Int
  | [], _ => -1
  | y :: r, x => if y = x then (r.length : Int) else lastR r x
/-- When one came behind the last time. -/
def last (c : List Int) (x : Int) : Int := lastR c.reverse x
theorem last_nil (x : Int) : last [] x = -1 := rfl
theorem last_snoc (c : List Int) (y x : Int) : last (c ++ [y]) x = if y = x then (c.length : Int) else last c x := by
  unfold last
  rw [List.reverse_append]
  show (if y = x then (c.reverse.length : Int) else lastR c.reverse x) = _
  rw [List.length_reverse]
theorem lastR_lt : ∀ (r : List Int) (x : Int), lastR r x < (r.length : Int) ∧ -1 ≤ lastR r x
  | [], x => by show (-1 : Int) < ((0 : Nat) : Int) ∧ (-1 : Int) ≤ -1; omega
  | y :: r, x => by
    have ih := lastR_lt r x
    show (if y = x then (r.length : Int) else lastR r x) < ((y :: r).length : Int) ∧ -1 ≤ (if y = x then (r.length : Int) else lastR r x)
    rw [List.length_cons]
    split <;> omega
theorem last_lt (c : List Int) (x : Int) : last c x < (c.length : Int) := by have := (lastR_lt c.reverse x).1; rw [List.length_reverse] at this; exact this

/-- In order: by priority, then who came behind earlier. -/
def Bef (l : List Pr) (c : List Int) (a b : Int) : Prop := (atP l b).pr < (atP l a).pr ∨ ((atP l b).pr = (atP l a).pr ∧ last c a < last c b)
structure Srt (l : List Pr) (c q : List Int) : Prop where
  nd : q.Nodup
  mem : ∀ x, x ∈ q ↔ (0 ≤ x ∧ x < (l.length : Int)) ∧ (atP l x).run = true
  ord : q.Pairwise (Bef l c)
/-- Who runs. -/
structure IsTop (l : List Pr) (c : List Int) (a : Int) : Prop where
  lo : 0 ≤ a
  hi : a < (l.length : Int)
  run : (atP l a).run = true
  top : ∀ x, 0 ≤ x → x < (l.length : Int) → (atP l x).run = true → (atP l x).pr < (atP l a).pr ∨ ((atP l x).pr = (atP l a).pr ∧ last c a ≤ last c x)
theorem top_head {l : List Pr} {c q : List Int} {a : Int} (h : Srt l c q) (ha : IsTop l c a) : ∃ r, q = a :: r := by
  have hm := (h.mem a).2 ⟨⟨ha.lo, ha.hi⟩, ha.run⟩
  cases q with
  | nil => cases hm
  | cons b r =>
    rcases List.mem_cons.1 hm with rfl | hm
    · exact ⟨r, rfl⟩
    · exfalso
      have ho := (List.pairwise_cons.1 h.ord).1 a hm
      have hb := (h.mem b).1 List.mem_cons_self
      have ht := ha.top b hb.1.1 hb.1.2 hb.2
      unfold Bef at ho
      omega
theorem none_empty {l : List Pr} {c q : List Int} (h : Srt l c q) (ha : ∀ x, 0 ≤ x → x < (l.length : Int) → (atP l x).run = false) : q = [] := by
  cases q with
  | nil => rfl
  | cons b r =>
    have hb := (h.mem b).1 List.mem_cons_self
    rw [ha b hb.1.1 hb.1.2] at hb
    exact absurd hb.2 (by simp)
/-- Without the one that runs. -/
theorem srt_tail {l : List Pr} {c r : List Int} {a : Int} (h : Srt l c (a :: r)) : Srt (l.set a.toNat ⟨2, (atP l a).held, (atP l a).pr⟩) c r := by
  have ha := (h.mem a).1 List.mem_cons_self
  have hat : ∀ x, 0 ≤ x → atP (l.set a.toNat ⟨2, (atP l a).held, (atP l a).pr⟩) x = if x = a then ⟨2, (atP l a).held, (atP l a).pr⟩ else atP l x := fun x hx => atP_set ha.1.1 ha.1.2 hx
  have hpr : ∀ x, 0 ≤ x → (atP (l.set a.toNat ⟨2, (atP l a).held, (atP l a).pr⟩) x).pr = (atP l x).pr := fun x hx => by
    rw [hat x hx]; split
    · rename_i e; rw [e]
    · rfl
  have hn := List.nodup_cons.1 h.nd
  refine ⟨hn.2, fun x => ?_, ?_⟩
  · rw [List.length_set]
    constructor
    · intro hx
      have h1 := (h.mem x).1 (List.mem_cons_of_mem _ hx)
      have hne : x ≠ a := fun e => hn.1 (e ▸ hx)
      exact ⟨h1.1, by rw [hat x h1.1.1, if_neg hne]; exact h1.2⟩
    · rintro ⟨h1, h2⟩
      rw [hat x h1.1] at h2
      split at h2
      · simp [Pr.run] at h2
      · rename_i hne
        exact (List.mem_cons.1 ((h.mem x).2 ⟨h1, h2⟩)).resolve_left hne
  · refine List.Pairwise.imp_of_mem ?_ (List.pairwise_cons.1 h.ord).2
    intro x y hx hy hxy
    have h1 := (h.mem x).1 (List.mem_cons_of_mem _ hx)
    have h2 := (h.mem y).1 (List.mem_cons_of_mem _ hy)
    unfold Bef at hxy ⊢
    rw [hpr x h1.1.1, hpr y h2.1.1]
    exact hxy

/-- Whether one goes to the back. -/
def back (k : Int) : Bool := !decide (k = 1) && !decide (k = 2) && !decide (k = 4)
def came (T : Tb) (c : List Int) (k i pr : Int) : List Int := if k = 8 then [] else if T.stepE k i pr = 0 ∧ back k = true then c ++ [i] else c
theorem bec_back {k f pr : Int} {p : Pr} (h : (bec k f pr p).run = true) : back k = true := by
  unfold back
  by_cases h1 : k = 1
  · subst h1; exact absurd h (by unfold bec Pr.run; simp)
  · by_cases h2 : k = 2
    · subst h2; exact absurd h (by unfold bec Pr.run; simp)
    · by_cases h4 : k = 4
      · subst h4; exact absurd h (by unfold bec Pr.run; simp)
      · simp [h1, h2, h4]
theorem srt_put {T : Tb} (h : TOk T) {c : List Int} (hs : T.q.Pairwise (Bef T.l c)) {i : Int} (hi : T.has i) {p : Pr} {c' : List Int} (hc : c' = c ∧ p.run = false ∨ c' = c ++ [i]) : (T.put i p).q.Pairwise (Bef (T.put i p).l c') := by
  have hat : ∀ x, 0 ≤ x → atP (T.l.set i.toNat p) x = if x = i then p else atP T.l x := fun x hx => atP_set hi.1 hi.2 hx
  have hlast : ∀ x, x ≠ i → last c' x = last c x := fun x hx => by
    rcases hc with ⟨rfl, _⟩ | rfl
    · rfl
    · rw [last_snoc, if_neg (fun e => hx e.symm)]
  have hmg : ∀ x, x ∈ gone T.q i → (0 ≤ x ∧ x < (T.l.length : Int)) ∧ x ≠ i := fun x hx => by
    have := mem_gone.1 hx
    exact ⟨((h.mem x).1 this.1).1, this.2⟩
  have hgo : (gone T.q i).Pairwise (Bef (T.l.set i.toNat p) c') := by
    refine List.Pairwise.imp_of_mem ?_ (hs.filter _)
    intro a b ha hb hab
    have ha' := hmg a ha
    have hb' := hmg b hb
    unfold Bef at hab ⊢
    rw [hat a ha'.1.1, hat b hb'.1.1, if_neg ha'.2, if_neg hb'.2, hlast a ha'.2, hlast b hb'.2]
    exact hab
  show (if p.run = true then join _ _ i else gone T.q i).Pairwise (Bef (T.l.set i.toNat p) c')
  split
  · rename_i hr
    have hc' : c' = c ++ [i] := by
      rcases hc with ⟨_, e⟩ | e
      · rw [hr] at e; cases e
      · exact e
    refine join_ord hgo (hgo.imp fun {a b} hab hb => ?_) (fun x hx hxa => ?_) (fun x _ hxa => ?_)
    · unfold ahead at hb ⊢
      simp only [Bool.not_eq_true', decide_eq_false_iff_not] at hb ⊢
      unfold Bef at hab
      omega
    · unfold ahead at hxa
      simp only [Bool.not_eq_true', decide_eq_false_iff_not] at hxa
      have h1 : last c' i = (c.length : Int) := by rw [hc', last_snoc, if_pos rfl]
      have h2 : last c' x < (c.length : Int) := by rw [hlast x (hmg x hx).2]; exact last_lt _ _
      unfold Bef
      omega
    · unfold ahead at hxa
      simp only [Bool.not_eq_false', decide_eq_true_eq] at hxa
      exact .inl hxa
  · exact hgo
theorem srt_step {T : Tb} (h : TOk T) {c : List Int} (hs : Srt T.l c T.q) (k i pr : Int) : Srt (T.step k i pr).l (came T c k i pr) (T.step k i pr).q := by
  have hok := step_ok h k i pr
  refine ⟨hok.nd, hok.mem, ?_⟩
  unfold Tb.step came
  split
  · exact List.Pairwise.nil
  · rename_i hk
    split
    · rename_i he
      obtain ⟨h1, _, _⟩ := stepE_ok hk he
      refine srt_put h hs.ord h1 ?_
      cases hb : back k with
      | true => exact .inr (by rw [if_pos ⟨he, rfl⟩])
      | false =>
        refine .inl ⟨by rw [if_neg (by simp)], ?_⟩
        cases hr : (bec k (T.fst i) pr (atP T.l i)).run with
        | false => rfl
        | true => rw [bec_back hr] at hb; cases hb
    · rename_i he
      rw [if_neg (fun e => he e.1)]
      exact hs.ord
theorem srt_new (first : List Nat) : Srt (Tb.new first).l [] (Tb.new first).q :=
  ⟨List.nodup_nil, fun x => by
    constructor
    · intro c; cases c
    · rintro ⟨⟨h1, h2⟩, h3⟩
      exfalso
      have h2' : x < ((first.map fun (x : Nat) => (⟨0, false, (x : Int)⟩ : Pr)).length : Int) := h2
      have hm := atP_mem h1 h2'
      obtain ⟨y, _, e⟩ := List.mem_map.1 hm
      have h3' : (atP (first.map fun (x : Nat) => (⟨0, false, (x : Int)⟩ : Pr)) x).run = true := h3
      rw [← e] at h3'
      simp [Pr.run] at h3', List.Pairwise.nil⟩

/-! ### in turn -/
/-- Who runs yields: behind the others of its priority. -/
theorem join_split {l : List Pr} {A B : List Int} {i : Int} (hA : ∀ x ∈ A, ahead l i x = true) (hB : ∀ x ∈ B, ahead l i x = false) : join l (A ++ B) i = A ++ i :: B := by
  unfold join
  have h1 : (A ++ B).takeWhile (ahead l i) = A := by
    induction A with
    | nil =>
      cases B with
      | nil => rfl
      | cons b r => rw [List.nil_append, List.takeWhile_cons_of_neg (by rw [hB b List.mem_cons_self]; simp)]
    | cons a r ih => rw [List.cons_append, List.takeWhile_cons_of_pos (hA a List.mem_cons_self), ih fun x hx => hA x (List.mem_cons_of_mem _ hx)]
  have h2 : (A ++ B).dropWhile (ahead l i) = B := by
    clear h1
    induction A with
    | nil =>
      cases B with
      | nil => rfl
      | cons b r => rw [List.nil_append, List.dropWhile_cons_of_neg (by rw [hB b List.mem_cons_self]; simp)]
    | cons a r ih =>
      rw [List.cons_append, List.dropWhile_cons_of_pos (hA a List.mem_cons_self)]
      exact ih fun x hx => hA x (List.mem_cons_of_mem _ hx)
  rw [h1, h2]
end Go.Proofs.Ytkbafiepnnldeaa
