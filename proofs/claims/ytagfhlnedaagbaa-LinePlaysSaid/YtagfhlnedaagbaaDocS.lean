/-
  The document's line and the code's, call by call; pure.
-/
import Derived.Test.YtagfhlnedaagbaaDocR
import Derived.Test.YtagfhlnedaagbaaDocE
namespace Go.Proofs.Ytagfhlnedaagbaa

theorem Rel.has {S : Ln} {L : List Wt} (h : Rel S L) (id : Int) : hasD (L.map toD) id = S.has id := by
  unfold hasD Ln.has
  rw [List.any_map]
  apply Bool.eq_iff_iff.2
  rw [List.any_eq_true, List.any_eq_true]
  exact ⟨fun ⟨a, ha, e⟩ => ⟨a, h.perm.mem_iff.1 ha, e⟩, fun ⟨a, ha, e⟩ => ⟨a, h.perm.mem_iff.2 ha, e⟩⟩
theorem Rel.putE {S : Ln} {L : List Wt} (h : Rel S L) (id prio til : Int) : putDE (L.map toD) S.now id prio til = S.putE id prio til := by
  unfold putDE Ln.putE
  rw [h.has]
theorem Rel.put {S : Ln} {L : List Wt} (h : Rel S L) (ok : Ok S) (id prio til : Int) : ∃ L', putD (L.map toD) S.now id prio til = L'.map toD ∧ Rel (S.put id prio til) L' := by
  unfold putD Ln.put
  rw [h.putE]
  by_cases he : S.putE id prio til = 0
  · rw [if_pos he, if_pos he]
    have hid := toId_val (putE_ok he).1
    refine ⟨L ++ [⟨toId id, prio, til, S.n⟩], by rw [List.map_append]; show _ = _ ++ [(((toId id).val : Int), prio, til)]; rw [hid], ?_, ?_⟩
    · show (L ++ [_]).Perm (ins _ S.q)
      exact (List.perm_append_singleton _ _).trans ((List.Perm.cons _ h.perm).trans (ins_perm _ _).symm)
    · rw [List.pairwise_append]
      refine ⟨h.arr, List.pairwise_singleton _ _, fun a ha b hb => ?_⟩
      rw [List.mem_singleton] at hb
      subst hb
      exact ok.arr a (h.perm.mem_iff.1 ha)
  · rw [if_neg he, if_neg he]
    exact ⟨L, rfl, h⟩
theorem out_filter {x : Id} : ∀ {L : List Wt} {i : Nat}, (L.map (·.id)).Nodup → i < L.length → (∀ a, L[i]? = some a → a.id = x) → L.take i ++ L.drop (i + 1) = L.filter fun a => !decide (a.id = x)
  | [], i, _, h, _ => by simp at h
  | a :: r, 0, hn, _, he => by
    have ha := he a rfl
    rw [List.map_cons, List.nodup_cons] at hn
    rw [List.filter_cons_of_neg (by simp [ha]), List.take_zero, List.nil_append]
    show r = _
    rw [List.filter_eq_self.2]
    intro b hb
    simp only [Bool.not_eq_true', decide_eq_false_iff_not]
    intro e
    exact hn.1 (by rw [ha, ← e]; exact List.mem_map.2 ⟨b, hb, rfl⟩)
  | a :: r, i + 1, hn, h, he => by
    rw [List.map_cons, List.nodup_cons] at hn
    have h' : i < r.length := by simpa using h
    have hx : ∀ b, r[i]? = some b → b.id = x := fun b hb => he b (by simpa using hb)
    have ha : a.id ≠ x := fun e => by
      have hb := hx _ (List.getElem?_eq_getElem h')
      exact hn.1 (by rw [e, ← hb]; exact List.mem_map.2 ⟨_, List.getElem_mem h', rfl⟩)
    rw [List.filter_cons_of_pos (by simp [ha]), ← out_filter hn.2 h' hx]
    rfl
theorem Rel.nodup {S : Ln} {L : List Wt} (h : Rel S L) (ok : Ok S) : (L.map (·.id)).Nodup := (h.perm.map (·.id)).nodup_iff.2 ok.ids
theorem Rel.out {S : Ln} {L : List Wt} (h : Rel S L) (ok : Ok S) {i : Nat} {x : Id} (hi : i < (L.map toD).length) (he : ((L.map toD).getD i d0).1 = (x.val : Int)) : ∃ L', outD (L.map toD) i = L'.map toD ∧ Rel (S.without x) L' ∧ L' = L.filter fun a => !decide (a.id = x) := by
  have hi' : i < L.length := by simpa using hi
  have hx : ∀ a, L[i]? = some a → a.id = x := fun a ha => by
    rw [List.getD_eq_getElem?_getD, List.getElem?_map, ha] at he
    have he : (a.id.val : Int) = (x.val : Int) := he
    exact Fin.ext (by omega)
  have e := out_filter (h.nodup ok) hi' hx
  refine ⟨L.take i ++ L.drop (i + 1), ?_, ?_, e⟩
  · unfold outD
    rw [List.map_append, List.map_take, List.map_drop]
  · rw [e]
    exact ⟨h.perm.filter _, h.arr.filter _⟩
theorem Rel.drop {S : Ln} {L : List Wt} (h : Rel S L) (ok : Ok S) {id E : Int} {l' : List DW} (hD : DropR (L.map toD) id l' E) : E = S.dropE id ∧ ∃ L', l' = L'.map toD ∧ Rel (S.drop id) L' := by
  unfold Ln.dropE Ln.drop
  rcases hD with ⟨h1, h2, h3⟩ | ⟨h1, h2, i, hi, he, h5⟩
  · rw [h.has] at h3
    rw [h3]
    exact ⟨h1, L, h2, h⟩
  · rw [h.has] at h2
    rw [if_pos h2, if_pos h2]
    obtain ⟨a, ha, hid⟩ := has_iff.1 h2
    have e : toId id = a.id := by rw [← hid]; exact toId_of _
    obtain ⟨L', e1, e2, _⟩ := h.out ok (x := a.id) hi (by rw [he, hid])
    rw [e]
    exact ⟨h1, L', by rw [h5, e1], e2⟩
theorem Rel.take {S : Ln} {L : List Wt} (h : Rel S L) (ok : Ok S) {id : Int} {b : Bool} {l' : List DW} (hD : TakeR (L.map toD) id b l') : id = S.first ∧ b = S.any ∧ ∃ L', l' = L'.map toD ∧ Rel S.take L' := by
  have ho := h.ord ok
  unfold Ln.first Ln.any Ln.take
  rcases hD with ⟨h1, h2, h3, h4⟩ | ⟨i, hi, he, h5, h6, r, h7⟩
  · rw [ho] at h1
    have hq : S.q = [] := List.map_eq_nil_iff.1 h1
    rw [hq]
    exact ⟨h3, h4, L, h2, h⟩
  · rw [ho] at h7
    cases hq : S.q with
    | nil => rw [hq] at h7; simp [idsD] at h7
    | cons a r' =>
      rw [hq] at h7
      have hid : (a.id.val : Int) = id := by
        unfold idsD at h7
        simp only [List.map_cons, List.cons.injEq] at h7
        exact h7.1
      obtain ⟨L', e1, e2, _⟩ := h.out ok (x := a.id) hi (by rw [he, hid])
      exact ⟨hid.symm, h6, L', by rw [h5, e1], e2⟩
/-! ### who is due -/
def goneQ (q : List Wt) (t : Int) : List Wt := sortBy (fun a b => decide (Soon a b)) (q.filter (Wt.due t))
theorem goneQ_ord {q : List Wt} (h : q.Pairwise Bef) (t : Int) : (goneQ q t).Pairwise Soon :=
  sortBy_ord (R := Soon) (fun a b => by rw [decide_eq_true_iff]) (fun a b c => Soon.trans) _ ((h.filter _).imp fun {a b} hab => by unfold Soon Bef at *; omega)
theorem goneQ_perm (q : List Wt) (t : Int) : (goneQ q t).Perm (q.filter (Wt.due t)) := sortBy_perm _ _
theorem due_iff {t : Int} {a : Wt} : Wt.due t a = true ↔ dueD t (toD a) := by
  unfold Wt.due dueD toD
  simp
theorem id_inj' {q : List Wt} (h : (q.map (·.id)).Nodup) {a b : Wt} (ha : a ∈ q) (hb : b ∈ q) (e : a.id = b.id) : a = b := by
  induction q with
  | nil => cases ha
  | cons c r ih =>
    rw [List.map_cons, List.nodup_cons] at h
    rcases List.mem_cons.1 ha with h1 | h1
    · rcases List.mem_cons.1 hb with h2 | h2
      · rw [h1, h2]
      · exact absurd (List.mem_map.2 ⟨b, h2, by rw [← e, h1]⟩) h.1
    · rcases List.mem_cons.1 hb with h2 | h2
      · exact absurd (List.mem_map.2 ⟨a, h1, by rw [e, h2]⟩) h.1
      · exact ih h.2 h1 h2
/-- The first one that is let go, and the others. -/
theorem goneQ_step {q : List Wt} {t : Int} {a : Wt} (ho : q.Pairwise Bef) (hn : (q.map (·.id)).Nodup) (ha : a ∈ q) (hd : Wt.due t a = true) (hm : ∀ b ∈ q, Wt.due t b = true → b = a ∨ Soon a b) :
    goneQ q t = a :: goneQ (q.filter fun b => !decide (b.id = a.id)) t := by
  refine eq_of_perm Soon.asym ?_ (goneQ_ord ho t) (List.pairwise_cons.2 ⟨fun b hb => ?_, goneQ_ord (ho.filter _) t⟩)
  · refine (goneQ_perm q t).trans (List.Perm.trans ?_ (List.Perm.cons a (goneQ_perm _ t)).symm)
    rw [List.filter_filter]
    have hnq : (q.filter (Wt.due t)).Nodup := List.Pairwise.filter _ (List.Pairwise.of_map (S := fun a b => a ≠ b) (fun a : Wt => a.id) (fun a b h e => h (by rw [e])) hn)
    have e : (q.filter fun b => Wt.due t b && !decide (b.id = a.id)) = (q.filter (Wt.due t)).filter fun b => !decide (b.id = a.id) := by rw [List.filter_filter]; exact List.filter_congr fun b _ => Bool.and_comm _ _
    rw [e]
    have h1 := List.filter_append_perm (fun b : Wt => decide (b.id = a.id)) (q.filter (Wt.due t))
    refine h1.symm.trans ?_
    have h2 : (q.filter (Wt.due t)).filter (fun b => decide (b.id = a.id)) = [a] := by
      have hmem : a ∈ (q.filter (Wt.due t)).filter (fun b => decide (b.id = a.id)) := List.mem_filter.2 ⟨List.mem_filter.2 ⟨ha, hd⟩, by simp⟩
      have hall : ∀ b ∈ (q.filter (Wt.due t)).filter (fun b => decide (b.id = a.id)), b = a := fun b hb => by
        obtain ⟨hb1, hb2⟩ := List.mem_filter.1 hb
        exact id_inj' hn (List.mem_filter.1 hb1).1 ha (of_decide_eq_true hb2)
      have hnd : ((q.filter (Wt.due t)).filter fun b => decide (b.id = a.id)).Pairwise (fun x y => x ≠ y) := List.Pairwise.filter _ hnq
      revert hmem hall hnd
      generalize (q.filter (Wt.due t)).filter (fun b => decide (b.id = a.id)) = z
      intro hmem hall hnd
      cases z with
      | nil => simp at hmem
      | cons x r =>
        have hx := hall x List.mem_cons_self
        subst hx
        cases r with
        | nil => rfl
        | cons y r =>
          have hy := hall y (List.mem_cons_of_mem _ List.mem_cons_self)
          subst hy
          rw [List.pairwise_cons] at hnd
          exact absurd rfl (hnd.1 _ List.mem_cons_self)
    rw [h2]
    exact List.Perm.refl _
  · have hb' := (goneQ_perm _ t).mem_iff.1 hb
    obtain ⟨hb1, hb2⟩ := List.mem_filter.1 hb'
    obtain ⟨hb3, hb4⟩ := List.mem_filter.1 hb1
    rcases hm b hb3 hb2 with e | h
    · rw [e] at hb4; simp at hb4
    · exact h
theorem best_min {q : List Wt} {t : Int} {m : Nat} (ho : q.Pairwise Bef) (h : BestR (q.map toD) t (q.map toD).length (m : Int)) : ∃ a, q[m]? = some a ∧ a ∈ q ∧ Wt.due t a = true ∧ ∀ b ∈ q, Wt.due t b = true → b = a ∨ Soon a b := by
  rcases h with ⟨h, _⟩ | ⟨m', e, h2, h3, h4⟩
  · omega
  · obtain rfl : m = m' := by omega
    rw [List.length_map] at h2
    have hg : ∀ j (hj : j < q.length), (q.map toD).getD j d0 = toD q[j] := fun j hj => by
      rw [List.getD_eq_getElem?_getD, List.getElem?_map, List.getElem?_eq_getElem hj]
      rfl
    rw [hg m h2] at h3 h4
    refine ⟨q[m], List.getElem?_eq_getElem h2, List.getElem_mem h2, due_iff.2 h3, fun b hb hd => ?_⟩
    obtain ⟨j, hj, rfl⟩ := List.mem_iff_getElem.1 hb
    have := h4 j (by rw [List.length_map]; exact hj) (by rw [hg j hj]; exact due_iff.1 hd)
    rw [hg j hj] at this
    have h5 : q[m].til < q[j].til ∨ (q[m].til = q[j].til ∧ m ≤ j) := this
    rcases h5 with h5 | ⟨h5, h6⟩
    · exact .inr (.inl h5)
    · rcases Nat.lt_or_ge m j with h7 | h7
      · exact .inr (.inr ⟨h5, List.pairwise_iff_getElem.1 ho m j h2 hj h7⟩)
      · obtain rfl : m = j := by omega
        exact .inl rfl
theorem best_none {q : List Wt} {t : Int} (h : BestR (q.map toD) t (q.map toD).length (-1)) : ∀ b ∈ q, Wt.due t b = false := by
  rcases h with ⟨_, h2⟩ | ⟨m', e, _⟩
  · intro b hb
    obtain ⟨j, hj, rfl⟩ := List.mem_iff_getElem.1 hb
    have := h2 j (by rw [List.length_map]; exact hj)
    rw [List.getD_eq_getElem?_getD, List.getElem?_map, List.getElem?_eq_getElem hj] at this
    cases hd : Wt.due t q[j] with
    | false => rfl
    | true => exact absurd (due_iff.1 hd) this
  · omega
/-- What is let go by a tick, and what is left. -/
theorem exps_gone {t : Int} {l l' : List DW} {outs : List Int} (h : ExpS t l outs l') : ∀ (S : Ln) (L : List Wt), l = L.map toD → Rel S L → Ok S → outs = (goneQ S.q t).map (fun a => (a.id.val : Int)) ∧ ∃ L', l' = L'.map toD ∧ Rel { S with q := S.q.filter fun a => !Wt.due t a } L' := by
  induction h with
  | stop hb =>
    intro S L e hR ok
    subst e
    rw [hR.ord ok] at hb
    have hn := best_none hb
    have h1 : S.q.filter (Wt.due t) = [] := List.filter_eq_nil_iff.2 fun a ha => by simp [hn a ha]
    have h2 : (S.q.filter fun a => !Wt.due t a) = S.q := List.filter_eq_self.2 fun a ha => by simp [hn a ha]
    refine ⟨by unfold goneQ; rw [h1]; rfl, L, rfl, ⟨by show L.Perm (S.q.filter _); rw [h2]; exact hR.perm, hR.arr⟩⟩
  | @step l0 l1 m i outs0 hb hm hi hie _ ih =>
    intro S L e hR ok
    subst e
    rw [hR.ord ok] at hb hm hie ⊢
    obtain ⟨a, ha1, ha2, ha3, ha4⟩ := best_min ok.ord hb
    have hid : ((S.q.map toD).getD m d0).1 = (a.id.val : Int) := by
      rw [List.getD_eq_getElem?_getD, List.getElem?_map, ha1]
      rfl
    rw [hid] at hie
    obtain ⟨L', e1, e2, _⟩ := hR.out ok (x := a.id) hi hie
    obtain ⟨i1, L'', i2, i3⟩ := ih (S.without a.id) L' e1 e2 (ok_without ok _)
    rw [hid]
    refine ⟨?_, L'', i2, ?_⟩
    · rw [goneQ_step ok.ord ok.ids ha2 ha3 ha4, i1]
      rfl
    · have : ((S.q.filter fun b => !decide (b.id = a.id)).filter fun a => !Wt.due t a) = S.q.filter fun a => !Wt.due t a := by
        rw [List.filter_filter]
        refine List.filter_congr fun b hb => ?_
        by_cases hd : Wt.due t b = true
        · rw [hd]; rfl
        · have hne : ¬ b.id = a.id := fun e => hd (by rw [id_inj' ok.ids hb ha2 e]; exact ha3)
          simp [hne]
      have i3 : Rel { S with q := (S.q.filter fun b => !decide (b.id = a.id)).filter fun a => !Wt.due t a } L'' := i3
      rw [this] at i3
      exact i3
theorem Rel.exp {S : Ln} {L : List Wt} (h : Rel S L) (ok : Ok S) {t : Int} {outs : List Int} {l' : List DW} (he : S.expE t = 0) (hE : ExpS t (L.map toD) outs l') : outs = (S.goneE t).map (fun a => (a.id.val : Int)) ∧ ∃ L', l' = L'.map toD ∧ Rel (S.expire t) L' := by
  obtain ⟨h1, L', h2, h3⟩ := exps_gone hE S L rfl h ok
  refine ⟨by unfold Ln.goneE; rw [if_pos he]; exact h1, L', h2, ?_⟩
  unfold Ln.expire
  rw [if_pos he]
  exact ⟨h3.perm, h3.arr⟩
end Go.Proofs.Ytagfhlnedaagbaa
