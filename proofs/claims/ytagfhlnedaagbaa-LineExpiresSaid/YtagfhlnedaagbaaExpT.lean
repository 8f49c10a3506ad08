/-
  A table of deadlines in an array of a law's own; what Expire takes out and what it leaves (pure).
-/
import Derived.Test.YtagfhlnedaagbaaWalkOrd
import Derived.ChangeKeysEq
namespace Go.Proofs.Ytagfhlnedaagbaa
open Go.RowKit

def zeroV : Value → Bool
  | .int .i64 0 => true
  | _ => false
theorem zeroV_eq {v : Value} (h : zeroV v = true) : v = nV 0 := by
  unfold zeroV at h
  split at h
  · rfl
  · cases h
noncomputable def zero45 : Option (List Value) := ((Try.prog.info? 45).bind (·.zero)).bind fun v => match v with | .agg cs => some cs.toList | _ => none
set_option maxRecDepth 1000000 in
theorem z45 : (zero45.map fun l => l.all zeroV) = some true := by kernel_rfl
set_option maxRecDepth 1000000 in
theorem z45n : (zero45.map fun l => l.length) = some 65536 := by kernel_rfl
/-- The array's zero: 65536 times 0. -/
theorem zeros45 : ∃ (i : TypeInfo) (Z : Array Value), Try.prog.info? 45 = some i ∧ i.zero = some (.agg Z) ∧ ∀ j, j < 65536 → Z[j]? = some (nV 0) := by
  have h1 := z45
  have h2 := z45n
  unfold zero45 at h1 h2
  cases hi : Try.prog.info? 45 with
  | none => rw [hi] at h1; cases h1
  | some i =>
    rw [hi] at h1 h2
    cases hz : i.zero with
    | none => simp [hz] at h1
    | some v =>
      cases v with
      | agg Z =>
        simp only [hz, Option.bind_some, Option.map_some, Option.some.injEq] at h1 h2
        refine ⟨i, Z, rfl, hz, fun j hj => ?_⟩
        have hj' : j < Z.toList.length := by omega
        have h3 := List.all_eq_true.1 h1 _ (List.getElem_mem hj')
        have h4 := zeroV_eq h3
        rw [← Array.getElem?_toList, List.getElem?_eq_getElem hj', h4]
      | _ => simp [hz] at h1
theorem zero_runs {i : TypeInfo} {Z : Array Value} (hi : Try.prog.info? 45 = some i) (hz : i.zero = some (.agg Z)) (w : World) : Sem.run Try.prog (zeroValue 45) w = .ok (.agg Z) w := by
  have hi' : Try.prog.info? 45 = some Try.t45 := rfl
  rw [hi'] at hi
  injection hi with hi
  rw [← hi] at hz
  simp [zeroValue, hz]

/-- The table: at a waiter's number its deadline. -/
structure Tab (w : World) (ga : Nat) (S : Ln) : Prop where
  cel : ∀ i, i < 65536 → ∃ z, w.cell? ⟨ga, i, Option.none⟩ = some (nV z)
  fz : ∀ j, w.frozen? ⟨ga, j, Option.none⟩ = false
  val : ∀ a ∈ S.q, w.cell? ⟨ga, a.id.val, Option.none⟩ = some (nV a.til)
theorem Tab.lt {w : World} {ga : Nat} {S : Ln} (h : Tab w ga S) : ga < w.heap.size := by
  obtain ⟨z, hz⟩ := h.cel 0 (by decide)
  exact cell_lt hz
theorem Tab.same {w w' : World} {ga : Nat} {S : Ln} (h : Tab w ga S) (e : w'.heap[ga]? = w.heap[ga]?) : Tab w' ga S :=
  ⟨fun i hi => by obtain ⟨z, hz⟩ := h.cel i hi; exact ⟨z, by rw [World.cell?_of_block (w := w) e]; exact hz⟩, fun j => by rw [World.frozen?_of_block (w := w) e]; exact h.fz j, fun a ha => by rw [World.cell?_of_block (w := w) e]; exact h.val a ha⟩
theorem Tab.keep {w w' : World} {ga : Nat} {S : Ln} (h : Tab w ga S) (hB : Below w.heap.size w w') : Tab w' ga S := h.same (hB.block _ h.lt)
theorem Tab.set {w : World} {ga : Nat} {S : Ln} (h : Tab w ga S) {id prio til : Int} {m : Nat} (he : S.putE id prio til = 0) (hm : id = (m : Int)) : Tab (w.setCell ⟨ga, m, Option.none⟩ (nV til)) ga (S.put id prio til) := by
  obtain ⟨h1, h2, h3, h4⟩ := putE_ok he
  have hm6 : m < 65536 := by omega
  obtain ⟨z0, hz0⟩ := h.cel m hm6
  have oth : ∀ j, j ≠ m → (w.setCell ⟨ga, m, Option.none⟩ (nV til)).cell? ⟨ga, j, Option.none⟩ = w.cell? ⟨ga, j, Option.none⟩ := fun j hj => World.cell?_setCell_other _ _ _ _ (by intro e; simp only [Addr.mk.injEq] at e; omega)
  have here : (w.setCell ⟨ga, m, Option.none⟩ (nV til)).cell? ⟨ga, m, Option.none⟩ = some (nV til) := World.cell?_setCell_same _ _ _ hz0
  refine ⟨fun i hi => ?_, fun j => ?_, fun a ha => ?_⟩
  · by_cases e : i = m
    · subst e; exact ⟨_, here⟩
    · rw [oth i e]; exact h.cel i hi
  · rw [World.frozen?_setCell]; exact h.fz j
  · unfold Ln.put at ha
    rw [if_pos he] at ha
    rcases ins_mem.1 ha with rfl | ha
    · have : (toId id).val = m := by have := toId_val h1; omega
      show World.cell? _ ⟨ga, (toId id).val, Option.none⟩ = _
      rw [this]
      exact here
    · rw [oth _ fun e => ?_]
      · exact h.val a ha
      · have : S.has id = true := has_iff.2 ⟨a, ha, by omega⟩
        rw [h4] at this
        cases this
theorem put_len {S : Ln} {id prio til : Int} (he : S.putE id prio til = 0) : (S.put id prio til).q.length = S.q.length + 1 := by
  unfold Ln.put
  rw [if_pos he]
  show (ins _ S.q).length = _
  rw [(ins_perm _ _).length_eq]
  rfl
theorem put_now {S : Ln} {id prio til : Int} : (S.put id prio til).now = S.now := by
  unfold Ln.put
  split <;> rfl
theorem gone_mem {S : Ln} {t : Int} {a : Wt} (h : a ∈ S.gone t) : a ∈ S.q ∧ a.til ≠ -1 ∧ a.til ≤ t := by
  have h1 := (sortBy_perm _ _).mem_iff.1 h
  obtain ⟨h2, h3⟩ := List.mem_filter.1 h1
  unfold Wt.due at h3
  simp only [Bool.and_eq_true, decide_eq_true_eq] at h3
  exact ⟨h2, h3⟩
theorem stay_mem {S : Ln} {t : Int} {a : Wt} (he : S.expE t = 0) (h : a ∈ (S.expire t).q) : a ∈ S.q ∧ ¬ (a.til ≠ -1 ∧ a.til ≤ t) := by
  unfold Ln.expire at h
  rw [if_pos he] at h
  obtain ⟨h2, h3⟩ := List.mem_filter.1 h
  unfold Wt.due at h3
  refine ⟨h2, fun c => ?_⟩
  simp [c.1, c.2] at h3
theorem exp_len {S : Ln} {t : Int} (he : S.expE t = 0) : (S.gone t).length + (S.expire t).q.length = S.q.length := by
  unfold Ln.expire Ln.gone
  rw [if_pos he, (sortBy_perm _ _).length_eq]
  show _ + (S.q.filter fun a => !Wt.due t a).length = _
  have := (List.filter_append_perm (Wt.due t) S.q).length_eq
  rw [List.length_append] at this
  exact this
theorem gone_soon {S : Ln} (ok : Ok S) {t : Int} {i : Nat} (h : i + 1 < (S.gone t).length) : ((S.gone t).getD i dW).til ≤ ((S.gone t).getD (i + 1) dW).til := by
  have hb : Soon ((S.gone t).getD i dW) ((S.gone t).getD (i + 1) dW) := by
    rw [List.getD_eq_getElem?_getD, List.getD_eq_getElem?_getD, List.getElem?_eq_getElem (by omega : i < (S.gone t).length), List.getElem?_eq_getElem h]
    exact List.pairwise_iff_getElem.1 (gone_ord ok t) i (i + 1) (by omega) h (by omega)
  unfold Soon at hb
  omega
theorem at_mem {l : List Wt} {i : Nat} (h : i < l.length) : l.getD i dW ∈ l := by
  rw [List.getD_eq_getElem?_getD, List.getElem?_eq_getElem h]
  exact List.getElem_mem h
theorem ids_at {l : List Wt} {i : Nat} (h : i < l.length) : (l.map fun a => (a.id.val : Int)).getD i 0 = ((l.getD i dW).id.val : Int) := by
  simp [List.getD, List.getElem?_eq_getElem h]
end Go.Proofs.Ytagfhlnedaagbaa
