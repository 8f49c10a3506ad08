/-
  The law of the order: who waits, pure.
-/
import Derived.Test.YtfinleobgmdebaaSemP
import Derived.Test.YtfinleobgmdebaaOpenY
import Derived.Deep.CutBlock
namespace Go.Proofs.Ytfinleobgmdebaa
open Go.RowKit

/-- A priority out of a byte. -/
def pr (y : Int) : Int := bits BinOp.and IntKind.u8 y 63
theorem pr_all : ∀ y : Fin 256, 0 ≤ pr (y.val : Int) ∧ pr (y.val : Int) ≤ 63 := by decide +kernel
theorem pr_rng {y : Int} (h : 0 ≤ y ∧ y ≤ 255) : 0 ≤ pr y ∧ pr y ≤ 63 := by
  have := pr_all ⟨y.toNat, by omega⟩
  have e : ((y.toNat : Nat) : Int) = y := by omega
  simpa only [e] using this
/-- Those who wait came one behind the other. -/
structure Came (l : List Int) (k : Nat) (S : Ln) : Prop where
  ok : Ok S
  mem : ∀ a ∈ S.q, a.id.val < k ∧ a.prio = pr (l.getD a.id.val 0) ∧ a.arr = 2 * a.id.val + 1
  len : S.q.length = k
  n : S.n = 2 * k
theorem Came.new (l : List Int) : Came l 0 Ln.new := ⟨ok_new, by simp [Ln.new], rfl, rfl⟩
theorem Came.putE {l : List Int} {k : Nat} {S : Ln} (h : Came l k S) (hk : k < 80) {p : Int} (hp : 0 ≤ p ∧ p ≤ 63) : S.putE k p (-1) = 0 ∧ S.bump.putE k p (-1) = 0 := by
  have hh : S.has (k : Int) = false := by
    cases hs : S.has (k : Int) with
    | false => rfl
    | true =>
      obtain ⟨a, ha, e⟩ := has_iff.1 hs
      have := (h.mem a ha).1
      omega
  have hb : S.bump.has (k : Int) = false := hh
  unfold Ln.putE
  rw [if_neg (by omega), if_neg (by omega), if_neg (by simp), if_neg (by rw [hh]; simp), if_neg (by omega), if_neg (by omega), if_neg (by simp), if_neg (by rw [hb]; simp)]
  exact ⟨rfl, rfl⟩
theorem Came.step {l : List Int} {k : Nat} {S : Ln} (h : Came l k S) (hk : k < 80) {p : Int} (hp : 0 ≤ p ∧ p ≤ 63) (e : p = pr (l.getD k 0)) : Came l (k + 1) (S.bump.put k p (-1)) := by
  obtain ⟨_, h2⟩ := h.putE hk hp
  have hq : (S.bump.put k p (-1)).q = ins ⟨toId (k : Int), p, -1, S.n + 1⟩ S.q := by unfold Ln.put; rw [if_pos h2]; rfl
  have hn : (S.bump.put k p (-1)).n = S.n + 2 := by unfold Ln.put; rw [if_pos h2]; rfl
  have hid : (toId (k : Int)).val = k := by have := toId_val (id := (k : Int)) (by omega); omega
  refine ⟨ok_put (ok_bump h.ok) _ _ _, fun a ha => ?_, ?_, by rw [hn, h.n]; omega⟩
  · rw [hq] at ha
    rcases ins_mem.1 ha with rfl | ha
    · refine ⟨by show (toId (k : Int)).val < k + 1; omega, by show p = pr (l.getD (toId (k : Int)).val 0); rw [hid]; exact e, by show S.n + 1 = 2 * (toId (k : Int)).val + 1; rw [hid, h.n]⟩
    · obtain ⟨h1, h2, h3⟩ := h.mem a ha
      exact ⟨by omega, h2, h3⟩
  · rw [hq, (ins_perm _ _).length_eq, List.length_cons, h.len]
theorem wait_came {l : List Int} {k : Nat} {S : Ln} (h : Came l k S) (hk : k < 80) {p : Int} (hp : 0 ≤ p ∧ p ≤ 63) {m : Nat} : (⟨S, 0, m⟩ : Sm).waitE k p (-1) = (false, 0) ∧ (⟨S, 0, m⟩ : Sm).wait k p (-1) = ⟨S.bump.put k p (-1), 0, m⟩ := by
  obtain ⟨h1, h2⟩ := h.putE hk hp
  unfold Sm.waitE Sm.wait
  constructor
  · rw [if_neg (by show ¬ S.putE k p (-1) ≠ 0; rw [h1]; simp), if_neg (by simp), if_neg (by simp)]
    show (false, S.bump.putE k p (-1)) = _
    rw [h2]
  · rw [if_neg (by show ¬ S.putE k p (-1) ≠ 0; rw [h1]; simp), if_neg (by simp), if_neg (by simp)]
/-- Behind j signals: who is left comes behind the last one. -/
structure Left' (l : List Int) (k j : Nat) (last at' : Int) (S : Ln) : Prop where
  ok : Ok S
  mem : ∀ a ∈ S.q, a.id.val < k ∧ a.prio = pr (l.getD a.id.val 0) ∧ a.arr = 2 * a.id.val + 1
  len : S.q.length + j = k
  n : S.n = 2 * k
  aft : ∀ a ∈ S.q, a.prio < last ∨ (a.prio = last ∧ at' < (a.id.val : Int))
theorem Came.left {l : List Int} {k : Nat} {S : Ln} (h : Came l k S) : Left' l k 0 64 (-1) S := ⟨h.ok, h.mem, h.len, h.n, fun a ha => .inl (by have := h.ok.pri a ha; omega)⟩
theorem Left'.step {l : List Int} {k j : Nat} {last at' : Int} {S : Ln} (h : Left' l k j last at' S) (hj : j < k) : ∃ i : Nat, i < k ∧ S.any = true ∧ S.first = (i : Int) ∧ (pr (l.getD i 0) < last ∨ (pr (l.getD i 0) = last ∧ at' < (i : Int))) ∧ Left' l k (j + 1) (pr (l.getD i 0)) i S.take := by
  cases hq : S.q with
  | nil => have := h.len; rw [hq] at this; simp at this; omega
  | cons a r =>
    have ha : a ∈ S.q := by rw [hq]; exact List.mem_cons_self
    obtain ⟨h1, h2, h3⟩ := h.mem a ha
    have ht : S.take = S.without a.id := by unfold Ln.take; rw [hq]
    have hr : S.take.q = r := by
      rw [ht]
      unfold Ln.without
      show S.q.filter _ = r
      have hi := h.ok.ids
      rw [hq, List.map_cons, List.nodup_cons] at hi
      rw [hq, List.filter_cons_of_neg (by simp), List.filter_eq_self]
      intro b hb
      simp only [Bool.not_eq_true', decide_eq_false_iff_not]
      intro e
      exact hi.1 (List.mem_map.2 ⟨b, hb, e⟩)
    refine ⟨a.id.val, h1, by unfold Ln.any; rw [hq]; rfl, by unfold Ln.first; rw [hq], by rw [← h2]; exact h.aft a ha, ok_take h.ok, fun b hb => ?_, ?_, (take_len S).2.trans h.n, fun b hb => ?_⟩
    · rw [hr] at hb
      exact h.mem b (by rw [hq]; exact List.mem_cons_of_mem _ hb)
    · have := h.len
      rw [hr]
      rw [hq, List.length_cons] at this
      omega
    · rw [hr] at hb
      have hbef : Bef a b := by
        have := h.ok.ord
        rw [hq, List.pairwise_cons] at this
        exact this.1 b hb
      obtain ⟨_, _, k3⟩ := h.mem b (by rw [hq]; exact List.mem_cons_of_mem _ hb)
      rw [← h2]
      unfold Bef at hbef
      omega
end Go.Proofs.Ytfinleobgmdebaa
