/-
  The document's line and the code's: the same who wait, as they came, and in the order; pure.
-/
import Derived.Test.YtagfhlnedaagbaaDocO
namespace Go.Proofs.Ytagfhlnedaagbaa

def toD (a : Wt) : DW := ((a.id.val : Int), a.prio, a.til)
/-- Those who wait, as they came. -/
structure Rel (S : Ln) (L : List Wt) : Prop where
  perm : L.Perm S.q
  arr : L.Pairwise fun a b => a.arr < b.arr
theorem Rel.new : Rel Ln.new [] := ⟨List.Perm.refl _, List.Pairwise.nil⟩
theorem Rel.len {S : Ln} {L : List Wt} (h : Rel S L) : (L.map toD).length = S.q.length := by rw [List.length_map, h.perm.length_eq]
def bandW (L : List Wt) (p : Int) : List Wt := L.filter fun y => decide (y.prio = p)
def accW (L : List Wt) : Nat → List Wt
  | 0 => []
  | k + 1 => accW L k ++ bandW L (63 - (k : Int))
theorem acc_map (L : List Wt) : ∀ k, accD (L.map toD) k = (accW L k).map toD
  | 0 => rfl
  | k + 1 => by
    have h : bandD (L.map toD) (63 - (k : Int)) = (bandW L (63 - (k : Int))).map toD := by
      unfold bandD bandW
      rw [List.filter_map]
      rfl
    simp only [accD, accW, acc_map L k, h, List.map_append]
theorem acc_perm (L : List Wt) (hp : ∀ a ∈ L, a.prio ≤ 63) : ∀ k : Nat, (accW L k).Perm (L.filter fun a => decide (63 - (k : Int) < a.prio))
  | 0 => by
    have : (L.filter fun a => decide (63 - ((0 : Nat) : Int) < a.prio)) = [] := by
      rw [List.filter_eq_nil_iff]
      intro a ha
      have := hp a ha
      simp; omega
    rw [this]
    exact List.Perm.refl _
  | k + 1 => by
    have ih := acc_perm L hp k
    have h1 := List.filter_append_perm (fun a : Wt => decide (63 - (k : Int) < a.prio)) (L.filter fun a => decide (63 - ((k + 1 : Nat) : Int) < a.prio))
    refine List.Perm.trans ?_ h1
    show (accW L k ++ bandW L (63 - (k : Int))).Perm _
    refine List.Perm.append ?_ ?_
    · rw [List.filter_filter]
      have : (L.filter fun a => decide (63 - (k : Int) < a.prio) && decide (63 - ((k + 1 : Nat) : Int) < a.prio)) = L.filter fun a => decide (63 - (k : Int) < a.prio) := List.filter_congr fun a _ => by
        by_cases h : 63 - (k : Int) < a.prio
        · rw [decide_eq_true h, decide_eq_true (by omega), Bool.and_self]
        · rw [decide_eq_false h, Bool.false_and]
      rw [this]
      exact ih
    · rw [List.filter_filter]
      have : (L.filter fun a => (!decide (63 - (k : Int) < a.prio)) && decide (63 - ((k + 1 : Nat) : Int) < a.prio)) = bandW L (63 - (k : Int)) := List.filter_congr fun a _ => by
        have hk : ((k + 1 : Nat) : Int) = (k : Int) + 1 := by omega
        rw [hk]
        by_cases h : a.prio = 63 - (k : Int)
        · have e1 : decide (63 - (k : Int) < a.prio) = false := decide_eq_false (by omega)
          have e2 : decide (63 - ((k : Int) + 1) < a.prio) = true := decide_eq_true (by omega)
          rw [decide_eq_true h, e1, e2]; rfl
        · rw [decide_eq_false h]
          by_cases h2 : 63 - (k : Int) < a.prio
          · rw [decide_eq_true h2]; rfl
          · have e2 : decide (63 - ((k : Int) + 1) < a.prio) = false := decide_eq_false (by omega)
            rw [decide_eq_false h2, e2]; rfl
      rw [this]
theorem acc_ord (L : List Wt) (ha : L.Pairwise fun a b => a.arr < b.arr) (hp : ∀ a ∈ L, a.prio ≤ 63) : ∀ k, (accW L k).Pairwise Bef
  | 0 => List.Pairwise.nil
  | k + 1 => by
    show (accW L k ++ bandW L (63 - (k : Int))).Pairwise Bef
    rw [List.pairwise_append]
    refine ⟨acc_ord L ha hp k, ?_, fun a h1 b h2 => ?_⟩
    · have h3 : (bandW L (63 - (k : Int))).Pairwise fun a b => a.arr < b.arr := ha.filter _
      refine List.Pairwise.imp_of_mem (fun {a b} h1 h2 h => ?_) h3
      have e1 := of_decide_eq_true (List.mem_filter.1 h1).2
      have e2 := of_decide_eq_true (List.mem_filter.1 h2).2
      exact .inr ⟨by omega, h⟩
    · have e1 := of_decide_eq_true (List.mem_filter.1 ((acc_perm L hp k).mem_iff.1 h1)).2
      have e2 := of_decide_eq_true (List.mem_filter.1 h2).2
      exact .inl (by omega)
/-- The document's order is the code's. -/
theorem Rel.ord {S : Ln} {L : List Wt} (h : Rel S L) (ok : Ok S) : ordD (L.map toD) = S.q.map toD := by
  have hp : ∀ a ∈ L, a.prio ≤ 63 := fun a ha => (ok.pri a (h.perm.mem_iff.1 ha)).2
  unfold ordD
  rw [acc_map]
  refine congrArg (List.map toD) ?_
  refine eq_of_perm Bef.asym ?_ (acc_ord L h.arr hp 64) ok.ord
  refine (acc_perm L hp 64).trans ?_
  have : (L.filter fun a => decide (63 - ((64 : Nat) : Int) < a.prio)) = L := List.filter_eq_self.2 fun a ha => by
    have := (ok.pri a (h.perm.mem_iff.1 ha)).1
    simp; omega
  rw [this]
  exact h.perm
theorem Rel.ids {S : Ln} {L : List Wt} (h : Rel S L) (ok : Ok S) : idsD (ordD (L.map toD)) = S.nums := by
  rw [h.ord ok]
  unfold idsD Ln.nums
  rw [List.map_map]
  rfl
end Go.Proofs.Ytagfhlnedaagbaa
