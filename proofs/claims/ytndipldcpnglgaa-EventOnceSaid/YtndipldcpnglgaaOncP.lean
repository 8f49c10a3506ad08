/-
  The law of once: what goes on and what waits, pure.
-/
import Derived.Test.YtndipldcpnglgaaEvQ
namespace Go.Proofs.Ytndipldcpnglgaa

theorem map_nodup {α β : Type} {f : α → β} {l : List α} (hi : ∀ a b, f a = f b → a = b) (h : l.Nodup) : (l.map f).Nodup := by
  unfold List.Nodup at *
  rw [List.pairwise_map]
  exact h.imp fun hab e => hab (hi _ _ e)
theorem nums_nodup {S : Ln} (ok : Ok S) : S.nums.Nodup := by
  have h := map_nodup (f := fun i : Id => (i.val : Int)) (fun a b e => Fin.ext (by omega)) ok.ids
  rw [List.map_map] at h
  exact h
/-- Who goes on out of a list, and who is left. -/
structure GoneR (l gn nums : List Int) : Prop where
  nd : l.Nodup
  gd : gn.Nodup
  sub : ∀ x ∈ gn, x ∈ l
  perm : (l.filter fun z => !gn.contains z).Perm nums
theorem GoneR.none {l nums : List Int} (hn : nums.Nodup) (h : l.Perm nums) : GoneR l [] nums :=
  ⟨h.nodup_iff.2 hn, List.nodup_nil, fun _ h => absurd h (by simp), by
    have e : (l.filter fun z => !([] : List Int).contains z) = l := List.filter_eq_self.2 fun a _ => rfl
    rw [e]; exact h⟩
theorem GoneR.all {l nums : List Int} (hn : nums.Nodup) (h : l.Perm nums) : GoneR l nums [] :=
  ⟨h.nodup_iff.2 hn, hn, fun x hx => h.mem_iff.2 hx, by
    rw [List.filter_eq_nil_iff.2 (fun a ha => by simpa using h.mem_iff.1 ha)]⟩
theorem GoneR.of {l nums gn nums' : List Int} (hn : nums.Nodup) (h : l.Perm nums) (hg : gn.Nodup) (hs : ∀ x ∈ gn, x ∈ nums) (e : (nums.filter fun z => !gn.contains z).Perm nums') : GoneR l gn nums' :=
  ⟨h.nodup_iff.2 hn, hg, fun x hx => h.mem_iff.2 (hs x hx), (h.filter _).trans e⟩
/-- Those left behind m of them. -/
def leftM (l gn : List Int) (m : Nat) : List Int := l.filter fun z => !(gn.take m).contains z
theorem leftM_zero (l gn : List Int) : leftM l gn 0 = l := List.filter_eq_self.2 fun a _ => by simp
theorem leftM_all (l gn : List Int) : leftM l gn gn.length = l.filter fun z => !gn.contains z := by unfold leftM; rw [List.take_length]
theorem leftM_succ (l gn : List Int) {m : Nat} (hm : m < gn.length) : (leftM l gn m).filter (fun z => z != gn.getD m 0) = leftM l gn (m + 1) := by
  unfold leftM
  rw [List.filter_filter]
  apply List.filter_congr
  intro z _
  rw [List.take_add_one, List.getElem?_eq_getElem hm, List.getD_eq_getElem?_getD, List.getElem?_eq_getElem hm]
  simp only [Option.getD_some, Option.toList_some, List.contains_eq_mem, List.mem_append, List.mem_singleton, bne]
  by_cases h1 : z = gn[m] <;> by_cases h2 : z ∈ gn.take m <;> simp [h1, h2]
theorem GoneR.len {l gn nums : List Int} (h : GoneR l gn nums) {m : Nat} (hm : m < gn.length) : (leftM l gn (m + 1)).length + 1 = (leftM l gn m).length := by
  rw [← leftM_succ l gn hm]
  have hnd : (leftM l gn m).Nodup := h.nd.filter _
  have hmem : gn.getD m 0 ∈ leftM l gn m := by
    rw [List.getD_eq_getElem?_getD, List.getElem?_eq_getElem hm, Option.getD_some]
    unfold leftM
    rw [List.mem_filter]
    refine ⟨h.sub _ (List.getElem_mem hm), ?_⟩
    simp only [List.contains_eq_mem, Bool.not_eq_true', decide_eq_false_iff_not]
    intro hc
    obtain ⟨i, hi, e⟩ := List.getElem_of_mem hc
    have hi' : i < m := by rw [List.length_take] at hi; omega
    rw [List.getElem_take] at e
    have := (List.getElem_inj h.gd).1 e
    omega
  have e := List.length_erase_of_mem hmem
  rw [hnd.erase_eq_filter] at e
  have hp : 0 < (leftM l gn m).length := List.length_pos_of_mem hmem
  omega
/-- What a part of the inner walk has left. -/
theorem part_succ (l : List Int) (x : Int) {j : Nat} (hj : j < l.length) : (l.take (j + 1)).filter (fun z => z != x) = (l.take j).filter (fun z => z != x) ++ (if l.getD j 0 ≠ x then [l.getD j 0] else []) := by
  rw [List.take_add_one, List.filter_append, List.getD_eq_getElem?_getD, List.getElem?_eq_getElem hj]
  simp only [Option.getD_some, Option.toList_some]
  by_cases h : l[j] = x <;> simp [h]
/-! ### the calls -/
theorem id_inj'' {q : List Wt} (h : (q.map (·.id)).Nodup) {a b : Wt} (ha : a ∈ q) (hb : b ∈ q) (e : a.id = b.id) : a = b := by
  induction q with
  | nil => cases ha
  | cons c r ih =>
    rw [List.map_cons, List.nodup_cons] at h
    rcases List.mem_cons.1 ha with h1 | h1
    · rcases List.mem_cons.1 hb with h2 | h2
      · rw [h1, h2]
      · exact absurd (List.mem_map.2 ⟨b, h2, by rw [← e, h1]⟩) h.1
    · rcases List.mem_cons.1 hb with h2 | h2
      · exact absurd (List.mem_map.2 ⟨a, h1, by rw [e, h2]⟩) h.1
      · exact ih h.2 h1 h2
/-- The first one that is let go, and the others. -/
theorem wait_nums {X : Ev} (id prio til : Int) : ((X.waitE id prio til).1 = false ∧ (X.waitE id prio til).2 = 0 ∧ til ≠ 0 → (X.wait id prio til).S.nums.Perm (id :: X.S.nums)) ∧ (¬ ((X.waitE id prio til).1 = false ∧ (X.waitE id prio til).2 = 0 ∧ til ≠ 0) → (X.wait id prio til).S.nums = X.S.nums) := by
  unfold Ev.waitE Ev.wait
  by_cases h1 : X.S.putE id prio (-1) ≠ 0
  · rw [if_pos h1, if_pos h1]
    exact ⟨fun h => absurd h.2.1 h1, fun _ => rfl⟩
  · rw [if_neg h1, if_neg h1]
    by_cases h2 : X.up = true
    · rw [if_pos h2, if_pos h2]
      exact ⟨fun h => absurd h.1 (by simp), fun _ => rfl⟩
    · rw [if_neg h2, if_neg h2]
      by_cases h3 : til = 0
      · rw [if_pos h3, if_pos h3]
        exact ⟨fun h => absurd h3 h.2.2, fun _ => rfl⟩
      · rw [if_neg h3, if_neg h3]
        constructor
        · rintro ⟨_, h4, _⟩
          have h4 : X.S.bump.putE id prio til = 0 := h4
          have hv := toId_val (putE_ok h4).1
          show (X.S.bump.put id prio til).nums.Perm _
          unfold Ln.put
          rw [if_pos h4]
          unfold Ln.nums
          refine ((ins_perm _ _).map _).trans ?_
          rw [List.map_cons]
          show (((toId id).val : Int) :: _).Perm _
          rw [hv]
          exact List.Perm.refl _
        · intro h
          have h4 : ¬ X.S.bump.putE id prio til = 0 := fun e => h ⟨rfl, e, h3⟩
          show (X.S.bump.put id prio til).nums = _
          unfold Ln.put
          rw [if_neg h4]
          rfl
theorem drop_gone {l : List Int} {S : Ln} (ok : Ok S) (h : l.Perm S.nums) (id : Int) : GoneR l (if S.dropE id = 0 then [id] else []) (S.drop id).nums := by
  have hq := (drop_q S id).1
  have hn : (S.drop id).nums = S.nums.filter (fun z => !decide (z = id)) := by
    unfold Ln.nums
    rw [hq, List.filter_map]
    rfl
  unfold Ln.dropE
  cases hh : S.has id with
  | true =>
    rw [if_pos rfl, if_pos rfl]
    obtain ⟨a, ha, e⟩ := has_iff.1 hh
    refine GoneR.of (nums_nodup ok) h (List.nodup_cons.2 ⟨by simp, List.nodup_nil⟩) (fun x hx => ?_) ?_
    · rw [List.mem_singleton] at hx
      subst hx
      exact List.mem_map.2 ⟨a, ha, e⟩
    · rw [hn]
      rw [List.filter_congr (q := fun z => !decide (z = id)) (fun z _ => by simp [List.contains_eq_mem])]
  | false =>
    rw [if_neg (by simp)]
    have : S.drop id = S := by unfold Ln.drop; rw [hh]; rfl
    rw [this]
    exact GoneR.none (nums_nodup ok) h
theorem exp_gone {l : List Int} {S : Ln} (ok : Ok S) (h : l.Perm S.nums) (t : Int) : GoneR l ((S.goneE t).map fun a => (a.id.val : Int)) (S.expire t).nums := by
  unfold Ln.goneE Ln.expire
  by_cases he : S.expE t = 0
  · rw [if_pos he, if_pos he]
    have hp : ((S.gone t).map fun a => (a.id.val : Int)).Perm ((S.q.filter (Wt.due t)).map fun a => (a.id.val : Int)) := (sortBy_perm _ _).map _
    have hnd := nums_nodup ok
    have hsub : ((S.q.filter (Wt.due t)).map fun a => (a.id.val : Int)).Sublist S.nums := List.filter_sublist.map _
    refine GoneR.of hnd h (hp.nodup_iff.2 (hnd.sublist hsub)) (fun x hx => hsub.subset (hp.mem_iff.1 hx)) ?_
    show (S.nums.filter _).Perm ((S.q.filter fun a => !Wt.due t a).map fun a => (a.id.val : Int))
    unfold Ln.nums
    rw [List.filter_map]
    have e : S.q.filter ((fun z => !((S.gone t).map fun a => (a.id.val : Int)).contains z) ∘ fun a => (a.id.val : Int)) = S.q.filter fun a => !Wt.due t a := by
      apply List.filter_congr
      intro a ha
      simp only [Function.comp, List.contains_eq_mem]
      congr 1
      have : ((a.id.val : Int) ∈ (S.gone t).map fun a => (a.id.val : Int)) ↔ Wt.due t a = true := by
        rw [hp.mem_iff, List.mem_map]
        constructor
        · rintro ⟨c, hc, e⟩
          rw [List.mem_filter] at hc
          have hi := ok.ids
          have : c = a := id_inj'' hi hc.1 ha (Fin.ext (by omega))
          rw [← this]; exact hc.2
        · intro hd
          exact ⟨a, List.mem_filter.2 ⟨ha, hd⟩, rfl⟩
      by_cases hd : Wt.due t a = true
      · rw [hd]; simpa using this.2 hd
      · have h2 : Wt.due t a = false := by simpa using hd
        rw [h2]
        simp only [decide_eq_false_iff_not]
        exact fun hc => hd (this.1 hc)
    rw [e]
  · rw [if_neg he, if_neg he]
    exact GoneR.none (nums_nodup ok) h
end Go.Proofs.Ytndipldcpnglgaa
