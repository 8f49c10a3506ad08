/-
  A line of waiters, pure: the order, who is put where, who is due.
-/
namespace Go.Proofs.Ytagfhlnedaagbaa

/-- Two lists of the same members, each in a strict order, are one. -/
theorem eq_of_perm {α : Type} {R : α → α → Prop} (asym : ∀ a b, R a b → ¬ R b a) : ∀ {l l' : List α}, l.Perm l' → l.Pairwise R → l'.Pairwise R → l = l'
  | [], l', h, _, _ => by rw [List.nil_perm.1 h]
  | a :: t, [], h, _, _ => absurd (List.perm_nil.1 h) (by simp)
  | a :: t, b :: t', h, h1, h2 => by
    obtain ⟨ha, ht⟩ := List.pairwise_cons.1 h1
    obtain ⟨hb, ht'⟩ := List.pairwise_cons.1 h2
    have e : a = b := by
      rcases List.mem_cons.1 (h.mem_iff.1 List.mem_cons_self) with e | m
      · exact e
      · rcases List.mem_cons.1 (h.mem_iff.2 List.mem_cons_self) with e | m'
        · exact e.symm
        · exact absurd (hb a m) (asym _ _ (ha b m'))
    subst e
    rw [eq_of_perm asym (List.Perm.cons_inv h) ht ht']

/-- A number that a waiter may have. -/
abbrev Id := Fin 65536

/-- Who waits: its number, its priority, its deadline, how many had come ahead of it. -/
structure Wt where
  id : Id
  prio : Int
  til : Int
  arr : Nat
  deriving DecidableEq
instance : Inhabited Wt := ⟨⟨0, 0, 0, 0⟩⟩

/-- Who comes first. -/
def Bef (a b : Wt) : Prop := b.prio < a.prio ∨ (a.prio = b.prio ∧ a.arr < b.arr)
instance (a b : Wt) : Decidable (Bef a b) := by unfold Bef; infer_instance
theorem Bef.asym (a b : Wt) (h : Bef a b) : ¬ Bef b a := by unfold Bef at *; omega
theorem Bef.trans {a b c : Wt} (h : Bef a b) (h' : Bef b c) : Bef a c := by unfold Bef at *; omega
theorem Bef.total {a b : Wt} (h : a.arr ≠ b.arr) : Bef a b ∨ Bef b a := by unfold Bef; omega

/-- A line: who waits, in the order; how many have come; the tick. -/
structure Ln where
  q : List Wt
  n : Nat
  now : Int

/-- What holds of a line at any time. -/
structure Ok (S : Ln) : Prop where
  ord : S.q.Pairwise Bef
  ids : (S.q.map (·.id)).Nodup
  arr : ∀ a ∈ S.q, a.arr < S.n
  pri : ∀ a ∈ S.q, 0 ≤ a.prio ∧ a.prio ≤ 63
  til : ∀ a ∈ S.q, a.til = -1 ∨ (S.now < a.til ∧ a.til ≤ 1099511627776)
  tick : 0 ≤ S.now ∧ S.now ≤ 1099511627776

def Ln.new : Ln := ⟨[], 0, 0⟩
theorem ok_new : Ok Ln.new := ⟨List.Pairwise.nil, List.nodup_nil, by simp [Ln.new], by simp [Ln.new], by simp [Ln.new], by simp [Ln.new]⟩

/-- Put where it belongs. -/
def ins (x : Wt) (q : List Wt) : List Wt := q.filter (fun a => decide (Bef a x)) ++ x :: q.filter (fun a => !decide (Bef a x))

def Ln.has (S : Ln) (id : Int) : Bool := S.q.any fun a => decide ((a.id.val : Int) = id)

/-- Put's refusal, or 0. -/
def Ln.putE (S : Ln) (id prio til : Int) : Int :=
  if id < 0 ∨ 65535 < id then 140 else if prio < 0 ∨ 63 < prio then 143 else if til ≠ -1 ∧ (til ≤ S.now ∨ 1099511627776 < til) then 144 else if S.has id = true then 141 else 0
def toId (id : Int) : Id := ⟨id.toNat % 65536, Nat.mod_lt _ (by decide)⟩
theorem toId_val {id : Int} (h : ¬ (id < 0 ∨ 65535 < id)) : ((toId id).val : Int) = id := by simp only [toId]; omega
theorem toId_of (i : Id) : toId (i.val : Int) = i := by apply Fin.ext; simp only [toId]; omega
def Ln.put (S : Ln) (id prio til : Int) : Ln :=
  if S.putE id prio til = 0 then { S with q := ins ⟨toId id, prio, til, S.n⟩ S.q, n := S.n + 1 } else S
def Ln.without (S : Ln) (i : Id) : Ln := { S with q := S.q.filter fun a => !decide (a.id = i) }
def Ln.drop (S : Ln) (id : Int) : Ln := if S.has id = true then S.without (toId id) else S
def Ln.dropE (S : Ln) (id : Int) : Int := if S.has id = true then 0 else 142
def Ln.first (S : Ln) : Int := match S.q with | [] => 0 | a :: _ => (a.id.val : Int)
def Ln.any (S : Ln) : Bool := !S.q.isEmpty
def Ln.take (S : Ln) : Ln := match S.q with | [] => S | a :: _ => S.without a.id
/-- Whether a waiter's deadline is reached. -/
def Wt.due (t : Int) (a : Wt) : Bool := decide (a.til ≠ -1) && decide (a.til ≤ t)
/-- The earlier deadline first, of one deadline in the order. -/
def Soon (a b : Wt) : Prop := a.til < b.til ∨ (a.til = b.til ∧ Bef a b)
instance (a b : Wt) : Decidable (Soon a b) := by unfold Soon; infer_instance
theorem Soon.asym (a b : Wt) (h : Soon a b) : ¬ Soon b a := by unfold Soon Bef at *; omega
theorem Soon.trans {a b c : Wt} (h : Soon a b) (h' : Soon b c) : Soon a c := by unfold Soon Bef at *; omega
theorem Soon.total {a b : Wt} (h : a.arr ≠ b.arr) : Soon a b ∨ Soon b a := by unfold Soon Bef; omega

def insBy {α : Type} (lt : α → α → Bool) (x : α) : List α → List α
  | [] => [x]
  | y :: r => if lt x y then x :: y :: r else y :: insBy lt x r
def sortBy {α : Type} (lt : α → α → Bool) : List α → List α
  | [] => []
  | x :: r => insBy lt x (sortBy lt r)
theorem insBy_perm {α : Type} (lt : α → α → Bool) (x : α) : ∀ l, (insBy lt x l).Perm (x :: l)
  | [] => List.Perm.refl _
  | y :: r => by
    unfold insBy
    split
    · exact List.Perm.refl _
    · exact ((insBy_perm lt x r).cons y).trans (List.Perm.swap x y r)
theorem sortBy_perm {α : Type} (lt : α → α → Bool) : ∀ l, (sortBy lt l).Perm l
  | [] => List.Perm.refl _
  | x :: r => (insBy_perm lt x _).trans ((sortBy_perm lt r).cons x)
theorem insBy_ord {α : Type} {R : α → α → Prop} {lt : α → α → Bool} (hlt : ∀ a b, lt a b = true ↔ R a b) (tr : ∀ a b c, R a b → R b c → R a c) (x : α) : ∀ (l : List α), l.Pairwise R → (∀ y ∈ l, R x y ∨ R y x) → (insBy lt x l).Pairwise R
  | [], _, _ => List.pairwise_singleton R x
  | y :: r, h, ht => by
    obtain ⟨hy, hr⟩ := List.pairwise_cons.1 h
    unfold insBy
    split
    · rename_i hx
      have hx := (hlt _ _).1 hx
      refine List.pairwise_cons.2 ⟨fun z hz => ?_, h⟩
      rcases List.mem_cons.1 hz with rfl | hz
      · exact hx
      · exact tr _ _ _ hx (hy z hz)
    · rename_i hx
      have hyx : R y x := (ht y List.mem_cons_self).resolve_left fun c => hx ((hlt _ _).2 c)
      refine List.pairwise_cons.2 ⟨fun z hz => ?_, insBy_ord hlt tr x r hr fun z hz => ht z (List.mem_cons_of_mem _ hz)⟩
      rcases List.mem_cons.1 ((insBy_perm lt x r).mem_iff.1 hz) with rfl | hz
      · exact hyx
      · exact hy z hz
theorem sortBy_ord {α : Type} {R : α → α → Prop} {lt : α → α → Bool} (hlt : ∀ a b, lt a b = true ↔ R a b) (tr : ∀ a b c, R a b → R b c → R a c) : ∀ (l : List α), l.Pairwise (fun a b => R a b ∨ R b a) → (sortBy lt l).Pairwise R
  | [], _ => List.Pairwise.nil
  | x :: r, h => by
    obtain ⟨hx, hr⟩ := List.pairwise_cons.1 h
    exact insBy_ord hlt tr x _ (sortBy_ord hlt tr r hr) fun y hy => hx y ((sortBy_perm lt r).mem_iff.1 hy)

def Ln.gone (S : Ln) (t : Int) : List Wt := sortBy (fun a b => decide (Soon a b)) (S.q.filter (Wt.due t))
def Ln.expE (S : Ln) (t : Int) : Int := if t < S.now ∨ 1099511627776 < t then 144 else 0
def Ln.expire (S : Ln) (t : Int) : Ln := if S.expE t = 0 then { S with q := S.q.filter (fun a => !Wt.due t a), now := t } else S
def Ln.goneE (S : Ln) (t : Int) : List Wt := if S.expE t = 0 then S.gone t else []

/-! ### what is kept -/
theorem filter_ins {x : Wt} {q : List Wt} (h : q.Pairwise Bef) : ∀ k, k = q.countP (fun a => decide (Bef a x)) → q.take k = q.filter (fun a => decide (Bef a x)) ∧ q.drop k = q.filter (fun a => !decide (Bef a x)) := by
  induction q with
  | nil => intro k _; simp
  | cons a r ih =>
    obtain ⟨ha, hr⟩ := List.pairwise_cons.1 h
    intro k hk
    by_cases hax : Bef a x
    · rw [List.countP_cons_of_pos (by simpa using hax)] at hk
      subst hk
      obtain ⟨i1, i2⟩ := ih hr _ rfl
      simp [hax, i1, i2]
    · have hn : ∀ b ∈ r, ¬ Bef b x := fun b hb c => hax ((ha b hb).trans c)
      have h0 : r.countP (fun a => decide (Bef a x)) = 0 := by
        rw [List.countP_eq_zero]; intro b hb; simpa using hn b hb
      rw [List.countP_cons_of_neg (by simpa using hax), h0] at hk
      subst hk
      have f0 : r.filter (fun a => decide (Bef a x)) = [] := by rw [List.filter_eq_nil_iff]; intro b hb; simpa using hn b hb
      have f1 : r.filter (fun a => !decide (Bef a x)) = r := by rw [List.filter_eq_self]; intro b hb; simpa using hn b hb
      simp [hax, f0, f1]
theorem ins_perm (x : Wt) (q : List Wt) : (ins x q).Perm (x :: q) := by
  unfold ins
  refine List.perm_middle.trans (List.Perm.cons x ?_)
  exact List.filter_append_perm _ _
theorem ins_mem {x a : Wt} {q : List Wt} : a ∈ ins x q ↔ a = x ∨ a ∈ q := by rw [(ins_perm x q).mem_iff, List.mem_cons]
theorem ins_ord {x : Wt} {q : List Wt} (h : q.Pairwise Bef) (hx : ∀ a ∈ q, a.arr ≠ x.arr) : (ins x q).Pairwise Bef := by
  unfold ins
  rw [List.pairwise_append]
  refine ⟨h.filter _, List.pairwise_cons.2 ⟨fun a ha => ?_, h.filter _⟩, fun a ha b hb => ?_⟩
  · rw [List.mem_filter] at ha
    exact (Bef.total (hx a ha.1)).resolve_left (by simpa using ha.2)
  · rw [List.mem_filter] at ha
    have ha2 : Bef a x := by simpa using ha.2
    rcases List.mem_cons.1 hb with rfl | hb
    · exact ha2
    · rw [List.mem_filter] at hb
      exact ha2.trans ((Bef.total (hx b hb.1)).resolve_left (by simpa using hb.2))
theorem has_iff {S : Ln} {id : Int} : S.has id = true ↔ ∃ a ∈ S.q, (a.id.val : Int) = id := by simp [Ln.has]
theorem putE_ok {S : Ln} {id prio til : Int} (h : S.putE id prio til = 0) : ¬ (id < 0 ∨ 65535 < id) ∧ ¬ (prio < 0 ∨ 63 < prio) ∧ ¬ (til ≠ -1 ∧ (til ≤ S.now ∨ 1099511627776 < til)) ∧ S.has id = false := by
  unfold Ln.putE at h
  split at h
  · cases h
  · split at h
    · cases h
    · split at h
      · cases h
      · split at h
        · cases h
        · rename_i a b c d
          exact ⟨a, b, c, by simpa using d⟩
theorem ok_put {S : Ln} (h : Ok S) (id prio til : Int) : Ok (S.put id prio til) := by
  unfold Ln.put
  split
  · rename_i he
    obtain ⟨h1, h2, h3, h4⟩ := putE_ok he
    refine ⟨ins_ord h.ord fun a ha => ?_, ?_, ?_, ?_, ?_, h.tick⟩
    · have := h.arr a ha; show a.arr ≠ S.n; omega
    · show ((ins _ S.q).map (·.id)).Nodup
      rw [((ins_perm _ S.q).map (·.id)).nodup_iff]
      rw [List.map_cons, List.nodup_cons]
      refine ⟨fun hm => ?_, h.ids⟩
      obtain ⟨a, ha, e⟩ := List.mem_map.1 hm
      have : S.has id = true := has_iff.2 ⟨a, ha, by rw [e]; exact toId_val h1⟩
      rw [h4] at this; cases this
    · intro a ha
      rcases ins_mem.1 ha with rfl | ha
      · show S.n < S.n + 1; omega
      · have := h.arr a ha; show a.arr < S.n + 1; omega
    · intro a ha
      rcases ins_mem.1 ha with rfl | ha
      · show 0 ≤ prio ∧ prio ≤ 63; omega
      · exact h.pri a ha
    · intro a ha
      rcases ins_mem.1 ha with rfl | ha
      · show til = -1 ∨ (S.now < til ∧ til ≤ 1099511627776); omega
      · exact h.til a ha
  · exact h
theorem ok_filter {S : Ln} (h : Ok S) (p : Wt → Bool) : Ok { S with q := S.q.filter p } :=
  ⟨h.ord.filter _, (List.filter_sublist.map _).nodup h.ids, fun a ha => h.arr a (List.mem_filter.1 ha).1, fun a ha => h.pri a (List.mem_filter.1 ha).1, fun a ha => h.til a (List.mem_filter.1 ha).1, h.tick⟩
theorem ok_without {S : Ln} (h : Ok S) (i : Id) : Ok (S.without i) := ok_filter h _
theorem ok_drop {S : Ln} (h : Ok S) (id : Int) : Ok (S.drop id) := by unfold Ln.drop; split; exact ok_without h _; exact h
theorem ok_take {S : Ln} (h : Ok S) : Ok S.take := by unfold Ln.take; split; exact h; exact ok_without h _
theorem ok_expire {S : Ln} (h : Ok S) (t : Int) : Ok (S.expire t) := by
  unfold Ln.expire
  split
  · rename_i he
    unfold Ln.expE at he
    have ht : ¬ (t < S.now ∨ 1099511627776 < t) := by intro c; rw [if_pos c] at he; cases he
    have h' := ok_filter h (fun a => !Wt.due t a)
    refine ⟨h'.ord, h'.ids, h'.arr, h'.pri, fun a ha => ?_, ?_⟩
    · obtain ⟨ha, hd⟩ := List.mem_filter.1 ha
      have := h.til a ha
      simp only [Wt.due, Bool.not_eq_true', Bool.and_eq_false_iff, decide_eq_false_iff_not] at hd
      show a.til = -1 ∨ (t < a.til ∧ a.til ≤ 1099511627776)
      omega
    · have := h.tick; show 0 ≤ t ∧ t ≤ 1099511627776; omega
  · exact h
theorem arr_inj {l : List Wt} (h : l.Pairwise Bef) : l.Pairwise (fun a b => a.arr ≠ b.arr ∨ Bef a b) := h.imp fun hab => .inr hab
theorem gone_ord {S : Ln} (h : Ok S) (t : Int) : (S.gone t).Pairwise Soon := by
  unfold Ln.gone
  refine sortBy_ord (R := Soon) (fun a b => by rw [decide_eq_true_iff]) (fun a b c => Soon.trans) _ ((h.ord.filter _).imp fun {a b} hab => ?_)
  unfold Soon Bef at *
  omega
theorem gone_perm (S : Ln) (t : Int) : (S.gone t).Perm (S.q.filter (Wt.due t)) := sortBy_perm _ _
end Go.Proofs.Ytagfhlnedaagbaa
