/-
  What the search finds in the queue: a waiter's own place, or where a new one belongs.
-/
import Derived.Test.YtagfhlnedaagbaaPlaceW
import Derived.Test.YtagfhlnedaagbaaRowW
namespace Go.Proofs.Ytagfhlnedaagbaa

def tri (a : Wt) : Int × Int × Int := (a.prio, a.til, (a.arr : Int))
theorem id_i64 (i : Id) : I64 (i.val : Int) := by have := i.isLt; unfold I64; omega
theorem ordC_bef {lk : Int → Int × Int × Int} {x y : Int} {a c : Wt} (hx : lk x = tri a) (hy : lk y = tri c) : ordC lk x y < 0 ↔ Bef a c := by
  unfold ordC orI
  rw [hx, hy]
  show (if cmpI c.prio a.prio ≠ 0 then cmpI c.prio a.prio else cmpI (a.arr : Int) (c.arr : Int)) < 0 ↔ _
  by_cases h : cmpI c.prio a.prio = 0
  · rw [if_neg (by simpa using h), cmpI_neg]
    have := cmpI_zero.1 h
    unfold Bef
    omega
  · rw [if_pos h, cmpI_neg]
    have : c.prio ≠ a.prio := fun e => h (cmpI_zero.2 e)
    unfold Bef
    omega
theorem nums_at {S : Ln} {t : Nat} (ht : t < S.q.length) : S.nums.getD t 0 = ((S.q[t]).id.val : Int) := by
  unfold Ln.nums
  rw [List.getD_eq_getElem?_getD, List.getElem?_map, List.getElem?_eq_getElem ht]
  rfl
theorem nums_len (S : Ln) : S.nums.length = S.q.length := by unfold Ln.nums; simp
theorem nums_i64 (S : Ln) : ∀ y ∈ S.nums, I64 y := by
  intro y hy
  obtain ⟨a, _, rfl⟩ := List.mem_map.1 hy
  exact id_i64 _
theorem look_at {S : Ln} (h : Ok S) {t : Nat} (ht : t < S.q.length) : S.look ((S.q[t]).id.val : Int) = tri S.q[t] := look_has h (List.getElem_mem ht)
/-- The search's numbers, in the waiters' words. -/
theorem found_bef {S : Ln} {lk : Int → Int × Int × Int} {x : Int} {c : Wt} {k : Nat} (hl : ∀ a ∈ S.q, lk (a.id.val : Int) = tri a) (hx : lk x = tri c) (hF : Found S.nums (fun y => ordC lk y x) k) :
    k ≤ S.q.length ∧ (∀ t (ht : t < S.q.length), t < k ↔ Bef S.q[t] c) := by
  obtain ⟨h1, h2, h3⟩ := hF
  rw [nums_len] at h1 h3
  refine ⟨h1, fun t ht => ?_⟩
  have hb := ordC_bef (hl _ (List.getElem_mem ht)) hx
  constructor
  · intro hk
    have := h2 t hk
    dsimp only at this
    rw [nums_at ht] at this
    exact hb.1 this
  · intro hB
    rcases Nat.lt_or_ge t k with h | h
    · exact h
    · have := h3 t h ht
      dsimp only at this
      rw [nums_at ht] at this
      have := hb.2 hB
      omega
theorem mono_bef {S : Ln} (h : Ok S) {lk : Int → Int × Int × Int} {x : Int} {c : Wt} (hl : ∀ a ∈ S.q, lk (a.id.val : Int) = tri a) (hx : lk x = tri c) :
    ∀ i j, i ≤ j → j < S.nums.length → ordC lk (S.nums.getD j 0) x < 0 → ordC lk (S.nums.getD i 0) x < 0 := by
  intro i j hij hj hlt
  rw [nums_len] at hj
  have hi : i < S.q.length := by omega
  rw [nums_at hj, ordC_bef (hl _ (List.getElem_mem hj)) hx] at hlt
  rw [nums_at hi, ordC_bef (hl _ (List.getElem_mem hi)) hx]
  rcases Nat.lt_or_ge i j with h1 | h1
  · exact ((List.pairwise_iff_getElem.1 h.ord) i j hi hj h1).trans hlt
  · obtain rfl : i = j := by omega
    exact hlt
/-- A waiter is found at its own place. -/
theorem found_own {S : Ln} (h : Ok S) {a : Wt} (ha : a ∈ S.q) {k : Nat} (hF : Found S.nums (fun y => ordC S.look y (a.id.val : Int)) k) : ∃ hk : k < S.q.length, S.q[k] = a := by
  obtain ⟨h1, h2⟩ := found_bef (fun a ha => look_has h ha) (look_has h ha) hF
  obtain ⟨m, hm, rfl⟩ := List.getElem_of_mem ha
  have hkm : k = m := by
    have n1 : ¬ m < k := fun c => by
      have := (h2 m hm).1 c
      exact Bef.asym _ _ this this
    have n2 : ¬ k < m := fun c => by
      have := (List.pairwise_iff_getElem.1 h.ord) k m (by omega) hm c
      have := (h2 k (by omega)).2 this
      omega
    omega
  subst hkm
  exact ⟨hm, rfl⟩
theorem eraseIdx_map {α β : Type} (f : α → β) : ∀ (l : List α) (k : Nat), (l.take k).map f ++ (l.drop (k + 1)).map f = ((l.take k) ++ l.drop (k + 1)).map f := fun l k => by rw [List.map_append]
theorem filter_own : ∀ {q : List Wt} {k : Nat} (hk : k < q.length), (q.map (·.id)).Nodup → q.filter (fun a => !decide (a.id = q[k].id)) = q.take k ++ q.drop (k + 1)
  | [], k, hk, _ => absurd hk (Nat.not_lt_zero _)
  | a :: r, 0, _, h => by
    rw [List.map_cons, List.nodup_cons] at h
    simp only [List.getElem_cons_zero, List.take_zero, List.nil_append, List.drop_succ_cons, List.drop_zero]
    rw [List.filter_cons_of_neg (by simp), List.filter_eq_self]
    intro b hb
    simp only [Bool.not_eq_true', decide_eq_false_iff_not]
    intro e
    exact h.1 (List.mem_map.2 ⟨b, hb, e⟩)
  | a :: r, k + 1, hk, h => by
    rw [List.map_cons, List.nodup_cons] at h
    have hk' : k < r.length := by simpa using hk
    have ih := filter_own hk' h.2
    simp only [List.getElem_cons_succ, List.take_succ_cons, List.drop_succ_cons, List.cons_append]
    rw [List.filter_cons_of_pos, ih]
    simp only [Bool.not_eq_true', decide_eq_false_iff_not]
    intro e
    exact h.1 (List.mem_map.2 ⟨r[k], List.getElem_mem hk', e.symm⟩)
theorem without_nums {S : Ln} (h : Ok S) {a : Wt} {k : Nat} (hk : k < S.q.length) (ha : S.q[k] = a) : delAt' S.nums k = (S.without a.id).nums := by
  subst ha
  unfold delAt' Ln.nums Ln.without
  rw [filter_own hk h.ids, List.map_append, List.map_take, List.map_drop]
/-- Where a new one belongs. -/
theorem put_nums {S : Ln} {lk : Int → Int × Int × Int} {x : Int} {c : Wt} {k : Nat} (hl : ∀ a ∈ S.q, lk (a.id.val : Int) = tri a) (hc : (c.id.val : Int) = x) (hx : lk x = tri c) (hF : Found S.nums (fun y => ordC lk y x) k) :
    insAt S.nums k x = (ins c S.q).map fun a => (a.id.val : Int) := by
  obtain ⟨h1, h2⟩ := found_bef hl hx hF
  have e1 : S.q.filter (fun a => decide (Bef a c)) = S.q.take k := by
    have hA : (S.q.take k).filter (fun a => decide (Bef a c)) = S.q.take k := by
      rw [List.filter_eq_self]
      intro a ha
      obtain ⟨t, ht, rfl⟩ := List.getElem_of_mem ha
      have ht' : t < k := by rw [List.length_take] at ht; omega
      rw [List.getElem_take]
      exact decide_eq_true ((h2 t (by omega)).1 ht')
    have hB : (S.q.drop k).filter (fun a => decide (Bef a c)) = [] := by
      rw [List.filter_eq_nil_iff]
      intro a ha
      obtain ⟨t, ht, rfl⟩ := List.getElem_of_mem ha
      rw [List.length_drop] at ht
      rw [List.getElem_drop]
      simp only [decide_eq_true_eq]
      intro hb
      have := (h2 (k + t) (by omega)).2 hb
      omega
    conv => lhs; rw [← List.take_append_drop k S.q]
    rw [List.filter_append, hA, hB, List.append_nil]
  have e2 : S.q.filter (fun a => !decide (Bef a c)) = S.q.drop k := by
    have hA : (S.q.take k).filter (fun a => !decide (Bef a c)) = [] := by
      rw [List.filter_eq_nil_iff]
      intro a ha
      obtain ⟨t, ht, rfl⟩ := List.getElem_of_mem ha
      have ht' : t < k := by rw [List.length_take] at ht; omega
      rw [List.getElem_take]
      simp only [Bool.not_eq_true', decide_eq_false_iff_not]
      exact fun hb => hb ((h2 t (by omega)).1 ht')
    have hB : (S.q.drop k).filter (fun a => !decide (Bef a c)) = S.q.drop k := by
      rw [List.filter_eq_self]
      intro a ha
      obtain ⟨t, ht, rfl⟩ := List.getElem_of_mem ha
      rw [List.length_drop] at ht
      rw [List.getElem_drop]
      simp only [Bool.not_eq_true', decide_eq_false_iff_not]
      intro hb
      have := (h2 (k + t) (by omega)).2 hb
      omega
    conv => lhs; rw [← List.take_append_drop k S.q]
    rw [List.filter_append, hA, hB, List.nil_append]
  unfold ins insAt Ln.nums
  rw [e1, e2, List.map_append, List.map_cons, hc, List.map_take, List.map_drop]
theorem has_put {S : Ln} {id prio til : Int} (he : S.putE id prio til = 0) (z : Int) : (S.put id prio til).has z = (decide (z = id) || S.has z) := by
  obtain ⟨h1, _, _, _⟩ := putE_ok he
  unfold Ln.put
  rw [if_pos he]
  rw [Bool.eq_iff_iff, has_iff]
  simp only [Bool.or_eq_true, decide_eq_true_eq, has_iff]
  constructor
  · rintro ⟨a, ha, e⟩
    rcases ins_mem.1 ha with rfl | ha
    · exact .inl (by rw [← e]; exact toId_val h1)
    · exact .inr ⟨a, ha, e⟩
  · rintro (e | ⟨a, ha, e⟩)
    · exact ⟨_, ins_mem.2 (.inl rfl), by rw [e]; exact toId_val h1⟩
    · exact ⟨a, ins_mem.2 (.inr ha), e⟩
theorem find_none {S : Ln} {z : Int} (h : S.has z = false) : S.look z = (0, 0, 0) := by
  unfold Ln.look
  rw [List.find?_eq_none.2]
  intro a ha hd
  have : S.has z = true := has_iff.2 ⟨a, ha, by simpa using hd⟩
  rw [h] at this; cases this
theorem look_put {S : Ln} (h : Ok S) {id prio til : Int} (he : S.putE id prio til = 0) (z : Int) : (S.put id prio til).look z = if z = id then (prio, til, (S.n : Int)) else S.look z := by
  obtain ⟨h1, _, _, _⟩ := putE_ok he
  have hok := ok_put h id prio til
  by_cases e : z = id
  · subst e
    rw [if_pos rfl]
    have hm : (⟨toId z, prio, til, S.n⟩ : Wt) ∈ (S.put z prio til).q := by unfold Ln.put; rw [if_pos he]; exact ins_mem.2 (.inl rfl)
    have := look_has hok hm
    rw [show (((⟨toId z, prio, til, S.n⟩ : Wt).id.val : Nat) : Int) = z from toId_val h1] at this
    exact this
  · rw [if_neg e]
    cases hz : S.has z with
    | true =>
      obtain ⟨a, ha, rfl⟩ := has_iff.1 hz
      rw [look_has h ha]
      exact look_has hok (by unfold Ln.put; rw [if_pos he]; exact ins_mem.2 (.inr ha))
    | false =>
      rw [find_none hz]
      exact find_none (by rw [has_put he]; simp [e, hz])
theorem has_without {S : Ln} (i : Id) (z : Int) : (S.without i).has z = (!decide (z = (i.val : Int)) && S.has z) := by
  rw [Bool.eq_iff_iff, has_iff]
  simp only [Bool.and_eq_true, Bool.not_eq_true', decide_eq_false_iff_not, has_iff]
  constructor
  · rintro ⟨a, ha, e⟩
    obtain ⟨ha, hd⟩ := List.mem_filter.1 ha
    refine ⟨fun c => ?_, a, ha, e⟩
    simp only [Bool.not_eq_true', decide_eq_false_iff_not] at hd
    exact hd (Fin.ext (by omega))
  · rintro ⟨hn, a, ha, e⟩
    exact ⟨a, List.mem_filter.2 ⟨ha, by simp only [Bool.not_eq_true', decide_eq_false_iff_not]; intro c; exact hn (by rw [← e, c])⟩, e⟩
theorem look_without {S : Ln} (h : Ok S) (i : Id) (z : Int) : (S.without i).look z = if z = (i.val : Int) then (0, 0, 0) else S.look z := by
  by_cases e : z = (i.val : Int)
  · rw [if_pos e]
    exact find_none (by rw [has_without]; simp [e])
  · rw [if_neg e]
    cases hz : S.has z with
    | true =>
      obtain ⟨a, ha, rfl⟩ := has_iff.1 hz
      rw [look_has h ha]
      exact look_has (ok_without h i) (List.mem_filter.2 ⟨ha, by simp only [Bool.not_eq_true', decide_eq_false_iff_not]; intro c; exact e (by rw [c])⟩)
    | false =>
      rw [find_none hz]
      exact find_none (by rw [has_without]; simp [hz])
end Go.Proofs.Ytagfhlnedaagbaa
