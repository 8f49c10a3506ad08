/-
  The law of all: who waits, pure.
-/
import Derived.Test.YtndipldcpnglgaaEvQ
import Derived.Test.YtndipldcpnglgaaOpenY
import Derived.Deep.CutBlock
namespace Go.Proofs.Ytndipldcpnglgaa
open Go.RowKit

/-- A priority out of a byte. -/
def pr (y : Int) : Int := bits BinOp.and IntKind.u8 y 63
theorem pr_all : ∀ y : Fin 256, 0 ≤ pr (y.val : Int) ∧ pr (y.val : Int) ≤ 63 := by decide +kernel
theorem pr_rng {y : Int} (h : 0 ≤ y ∧ y ≤ 255) : 0 ≤ pr y ∧ pr y ≤ 63 := by
  have := pr_all ⟨y.toNat, by omega⟩
  have e : ((y.toNat : Nat) : Int) = y := by omega
  simpa only [e] using this
/-- Those who wait came one behind the other. -/
structure Came (l : List Int) (k : Nat) (S : Ln) : Prop where
  ok : Ok S
  mem : ∀ a ∈ S.q, a.id.val < k ∧ a.prio = pr (l.getD a.id.val 0) ∧ a.arr = 2 * a.id.val + 1
  len : S.q.length = k
  n : S.n = 2 * k
theorem Came.new (l : List Int) : Came l 0 Ln.new := ⟨ok_new, by simp [Ln.new], rfl, rfl⟩
theorem Came.putE {l : List Int} {k : Nat} {S : Ln} (h : Came l k S) (hk : k < 100) {p : Int} (hp : 0 ≤ p ∧ p ≤ 63) : S.putE k p (-1) = 0 ∧ S.bump.putE k p (-1) = 0 := by
  have hh : S.has (k : Int) = false := by
    cases hs : S.has (k : Int) with
    | false => rfl
    | true =>
      obtain ⟨a, ha, e⟩ := has_iff.1 hs
      have := (h.mem a ha).1
      omega
  have hb : S.bump.has (k : Int) = false := hh
  unfold Ln.putE
  rw [if_neg (by omega), if_neg (by omega), if_neg (by simp), if_neg (by rw [hh]; simp), if_neg (by omega), if_neg (by omega), if_neg (by simp), if_neg (by rw [hb]; simp)]
  exact ⟨rfl, rfl⟩
theorem Came.step {l : List Int} {k : Nat} {S : Ln} (h : Came l k S) (hk : k < 100) {p : Int} (hp : 0 ≤ p ∧ p ≤ 63) (e : p = pr (l.getD k 0)) : Came l (k + 1) (S.bump.put k p (-1)) := by
  obtain ⟨_, h2⟩ := h.putE hk hp
  have hq : (S.bump.put k p (-1)).q = ins ⟨toId (k : Int), p, -1, S.n + 1⟩ S.q := by unfold Ln.put; rw [if_pos h2]; rfl
  have hn : (S.bump.put k p (-1)).n = S.n + 2 := by unfold Ln.put; rw [if_pos h2]; rfl
  have hid : (toId (k : Int)).val = k := by have := toId_val (id := (k : Int)) (by omega); omega
  refine ⟨ok_put (ok_bump h.ok) _ _ _, fun a ha => ?_, ?_, by rw [hn, h.n]; omega⟩
  · rw [hq] at ha
    rcases ins_mem.1 ha with rfl | ha
    · refine ⟨by show (toId (k : Int)).val < k + 1; omega, by show p = pr (l.getD (toId (k : Int)).val 0); rw [hid]; exact e, by show S.n + 1 = 2 * (toId (k : Int)).val + 1; rw [hid, h.n]⟩
    · obtain ⟨h1, h2, h3⟩ := h.mem a ha
      exact ⟨by omega, h2, h3⟩
  · rw [hq, (ins_perm _ _).length_eq, List.length_cons, h.len]
theorem wait_came {l : List Int} {k : Nat} {S : Ln} (h : Came l k S) (hk : k < 100) {p : Int} (hp : 0 ≤ p ∧ p ≤ 63) : (⟨S, false⟩ : Ev).waitE k p (-1) = (false, 0) ∧ (⟨S, false⟩ : Ev).wait k p (-1) = ⟨S.bump.put k p (-1), false⟩ := by
  obtain ⟨h1, h2⟩ := h.putE hk hp
  unfold Ev.waitE Ev.wait
  constructor
  · rw [if_neg (by show ¬ S.putE k p (-1) ≠ 0; rw [h1]; simp), if_neg (by simp), if_neg (by simp)]
    show (false, S.bump.putE k p (-1)) = _
    rw [h2]
  · rw [if_neg (by show ¬ S.putE k p (-1) ≠ 0; rw [h1]; simp), if_neg (by simp), if_neg (by simp)]
theorem Came.few {l : List Int} {k : Nat} {S : Ln} (h : Came l k S) (hk : k ≤ 100) (u : Bool) : Few ⟨S, u⟩ := by
  have h1 := h.len
  have h2 := h.n
  exact ⟨by show S.q.length ≤ 900; omega, by show S.n ≤ 900; omega⟩
/-- Two that stand one behind the other. -/
theorem Came.pair {l : List Int} {k : Nat} {S : Ln} (h : Came l k S) {j : Nat} (h1 : 1 ≤ j) (h2 : j < k) : ∃ a b : Nat, S.nums.getD (j - 1) 0 = (a : Int) ∧ S.nums.getD j 0 = (b : Int) ∧ a < k ∧ b < k ∧ (pr (l.getD b 0) < pr (l.getD a 0) ∨ (pr (l.getD a 0) = pr (l.getD b 0) ∧ a < b)) := by
  have hl := h.len
  have hj : j < S.q.length := by omega
  have hj1 : j - 1 < S.q.length := by omega
  have hg : ∀ i (hi : i < S.q.length), S.nums.getD i 0 = ((S.q[i].id.val : Nat) : Int) := fun i hi => by
    unfold Ln.nums
    rw [List.getD_eq_getElem?_getD, List.getElem?_map, List.getElem?_eq_getElem hi]
    rfl
  have hb : Bef S.q[j - 1] S.q[j] := List.pairwise_iff_getElem.1 h.ok.ord (j - 1) j hj1 hj (by omega)
  obtain ⟨a1, a2, a3⟩ := h.mem _ (List.getElem_mem hj1)
  obtain ⟨b1, b2, b3⟩ := h.mem _ (List.getElem_mem hj)
  refine ⟨_, _, hg _ hj1, hg _ hj, a1, b1, ?_⟩
  unfold Bef at hb
  rw [a2, b2] at hb
  rcases hb with hb | ⟨hb, hc⟩
  · exact .inl hb
  · exact .inr ⟨hb, by omega⟩
end Go.Proofs.Ytndipldcpnglgaa
