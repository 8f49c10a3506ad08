/-
  Rows of numbers in memory; what of the memory has changed.
-/
import Derived.Test.YtkbafiepnnldeaaTbl
import Derived.Test.YtkbafiepnnldeaaRows
import Derived.WalkKit
import Derived.WalkSpells
import Derived.WalkLawsBesides
import Derived.WalkSmall
import Derived.Below
import Derived.Lib.Hide
import Derived.RegionTactic
import Derived.BigRegion
import Derived.LoopTactic
import Derived.BigQuiet
import Derived.Deep.QuietTactic
import Derived.Deep.OwnRows
import Derived.Deep.AppendLies
import Derived.IntWalk
namespace Go.Proofs.Ytkbafiepnnldeaa
open Go.RowKit

theorem cell_lt {w : World} {a : Addr} {v : Value} (h : w.cell? a = some v) : a.block < w.heap.size := by
  rcases Nat.lt_or_ge a.block w.heap.size with h' | h'
  · exact h'
  · simp [World.cell?, Array.getElem?_eq_none h'] at h
theorem kept {w w' : World} {a : Addr} {v : Value} (hc : w.cell? a = some v) (h : Below w.heap.size w w') : w'.cell? a = some v := by
  rw [h.cell (cell_lt hc)]; exact hc
theorem below_two {w w1 w2 : World} (h : Below w.heap.size w w1) (k : Below w1.heap.size w1 w2) : Below w.heap.size w w2 := h.trans (k.mono h.size)
theorem ret_b {a b : Bool} (h : a = b) : Ending.returned (.bool a) = .returned (.bool b) := by rw [h]
theorem ret_i {k : IntKind} {a b : Int} (h : a = b) : Ending.returned (.int k a) = .returned (.int k b) := by rw [h]
theorem heap_alloc_new (w : World) (o : Obj) : (w.alloc o).heap[w.heap.size]? = some o := (MapKept.heap_alloc w o).1
theorem frozen_new (w : World) (c : Array Value) (t : TypeId) (j : Nat) : (w.alloc (.cells c t)).frozen? ⟨w.heap.size, j, none⟩ = false := by
  unfold World.frozen?
  rw [heap_alloc_new]
  simp
theorem cell_new (w : World) (c : Array Value) (t : TypeId) (j : Nat) : (w.alloc (.cells c t)).cell? ⟨w.heap.size, j, none⟩ = c[j]? := by
  rw [World.cell?_alloc_new]
theorem al_new (w : World) (c : Array Value) (t : TypeId) (j k : Nat) {v : Value} (hk : k = w.heap.size) (hv : c[j]? = some v) : (w.alloc (.cells c t)).cell? ⟨k, j, none⟩ = some v := by
  subst hk
  rw [World.cell?_alloc_new]
  exact hv
theorem frozen_at (w : World) (c : Array Value) (t : TypeId) (j k : Nat) (h : k = w.heap.size) : (w.alloc (.cells c t)).frozen? ⟨k, j, none⟩ = false := by subst h; exact frozen_new w c t j
theorem al_cell {w : World} {o : Obj} {a : Addr} {v : Value} (h : w.cell? a = some v) : (w.alloc o).cell? a = some v := kept h ((Below.refl _ _).alloc (Nat.le_refl _) _)
theorem frozen_old (w : World) (o : Obj) (a : Addr) (h : a.block < w.heap.size) : (w.alloc o).frozen? a = w.frozen? a := World.frozen?_of_block (w := w) (Below.heap_alloc w o _ h)
def Enters (K : FuncId) : Prop := ∀ (args : Array Value) (w : World), (callFunc K args).run Try.prog w = .ok (.enter K args) w
theorem enters_of {f : FuncId} {fn : Func} {c : Code} (hf : Try.prog.funcs[f]? = some fn) (hname : (fn.name == "runtime.NumGoroutine") = false) (hb : fn.body = some c) : Enters f := fun args w => by
  have h1 : fn.name ≠ "runtime.NumGoroutine" := by simpa using hname
  simp [callFunc, hf, h1, hb]

/-- Of the blocks that there were, only those of S may have changed. -/
structure Chg (S : Nat → Prop) (w w' : World) : Prop where
  os : w'.os = w.os
  tape : w'.tape = w.tape
  output : w'.output = w.output
  size : w.heap.size ≤ w'.heap.size
  block : ∀ k, k < w.heap.size → ¬ S k → w'.heap[k]? = w.heap[k]?
section
variable {S S' : Nat → Prop} {u v w w' : World}
theorem Chg.refl (w : World) : Chg S w w := ⟨rfl, rfl, rfl, Nat.le_refl _, fun _ _ _ => rfl⟩
theorem Chg.trans (h : Chg S u v) (k : Chg S v w) : Chg S u w :=
  ⟨k.os.trans h.os, k.tape.trans h.tape, k.output.trans h.output, Nat.le_trans h.size k.size, fun i hi h1 => (k.block i (Nat.lt_of_lt_of_le hi h.size) h1).trans (h.block i hi h1)⟩
/-- .. where the later one may change new blocks too. -/
theorem Chg.trans' (h : Chg S u v) (k : Chg S' v w) (e : ∀ i, i < u.heap.size → S' i → S i) : Chg S u w :=
  ⟨k.os.trans h.os, k.tape.trans h.tape, k.output.trans h.output, Nat.le_trans h.size k.size, fun i hi h1 => (k.block i (Nat.lt_of_lt_of_le hi h.size) (fun x => h1 (e i hi x))).trans (h.block i hi h1)⟩
theorem Chg.mono (h : Chg S w w') (e : ∀ k, S k → S' k) : Chg S' w w' := ⟨h.os, h.tape, h.output, h.size, fun k hk hn => h.block k hk fun x => hn (e k x)⟩
theorem Chg.of_below (h : Below w.heap.size w w') : Chg S w w' := ⟨h.os, h.tape, h.output, h.size, fun k hk _ => h.block k hk⟩
theorem Chg.to_below (h : Chg (fun _ => False) w w') : Below w.heap.size w w' := ⟨h.os, h.tape, h.output, h.size, fun k hk => h.block k hk id⟩
theorem Chg.below {n : Nat} (h : Chg S w w') (hS : ∀ k, S k → n ≤ k) (hn : n ≤ w.heap.size) : Below n w w' := ⟨h.os, h.tape, h.output, h.size, fun k hk => h.block k (by omega) fun hs => by have := hS k hs; omega⟩
theorem Chg.cell {a : Addr} {v : Value} (h : Chg S w w') (hc : w.cell? a = some v) (h1 : ¬ S a.block) : w'.cell? a = some v := by
  rw [World.cell?_of_block (w := w) (h.block a.block (cell_lt hc) h1)]; exact hc
theorem Chg.frozen {a : Addr} (h : Chg S w w') (hl : a.block < w.heap.size) (h1 : ¬ S a.block) : w'.frozen? a = w.frozen? a := World.frozen?_of_block (w := w) (h.block a.block hl h1)
theorem Chg.set {a : Addr} (h : Chg S w w') (ha : S a.block) (v : Value) : Chg S w (w'.setCell a v) :=
  h.trans ⟨rfl, rfl, rfl, by simp, fun k _ h1 => Below.heap_setCell _ _ _ _ fun e => h1 (e ▸ ha)⟩
theorem Chg.alloc (h : Chg S w w') (o : Obj) : Chg S w (w'.alloc o) := h.trans (Chg.of_below ((Below.refl _ _).alloc (Nat.le_refl _) _))
theorem Chg.drew (h : Chg S w w') : Chg S w w'.drew := ⟨h.os, h.tape, h.output, h.size, h.block⟩
theorem Chg.setCells {b : Nat} (h : Chg S w w') (hb : S b) : ∀ (vs : List Value) (o : Nat), Chg S w (w'.setCells b o vs) := by
  intro vs
  induction vs generalizing w' with
  | nil => intro o; exact h
  | cons x r ih => intro o; exact ih (h.set (a := ⟨b, o, none⟩) hb x) (o + 1)
end

/-! ### rows of numbers -/
abbrev nV (x : Int) : Value := .int .i64 x
/-- A slice of its own (or none) that holds these numbers. -/
def Nums (w : World) (v : Value) (l : List Int) : Prop := w.ownsRow 0 3 1 v l.length (l.map nV)
section
variable {w w' : World} {v : Value} {l : List Int}
theorem Nums.nil (w : World) : Nums w (.slice none 0 0) [] := World.ownsRow_nil _ _ _ _
theorem Nums.shape (h : Nums w v l) : (v = .slice none 0 0 ∧ l = []) ∨ ∃ g cap cur, v = .slice (some ⟨g, 0, none⟩) l.length cap ∧ w.heap[g]? = some (.cells cur 3 (0, 0)) ∧ l.length ≤ cap ∧ cap ≤ maxLen ∧ cur.size = cap ∧ cur.toList.take l.length = l.map nV := by
  rcases h.2 with ⟨h1, h2⟩ | ⟨g, cap, cur, hv, _, hg, hn, hm, hs, ht⟩
  · exact .inl ⟨h1, List.length_eq_zero_iff.1 h2⟩
  · exact .inr ⟨g, cap, cur, hv, hg, hn, hm, by simpa using hs, by simpa using ht⟩
theorem Nums.mk {g cap : Nat} {cur : Array Value} (hg : w.heap[g]? = some (.cells cur 3 (0, 0))) (hn : l.length ≤ cap) (hm : cap ≤ maxLen) (hs : cur.size = cap) (ht : cur.toList.take l.length = l.map nV) : Nums w (.slice (some ⟨g, 0, none⟩) l.length cap) l :=
  ⟨by simp, .inr ⟨g, cap, cur, rfl, Nat.zero_le _, hg, hn, hm, by simpa using hs, by simpa using ht⟩⟩
theorem Nums.same (h : Nums w v l) (hb : ∀ x, v.ownBlock = some x → w'.heap[x]? = w.heap[x]?) : Nums w' v l := by
  refine ⟨h.1, ?_⟩
  rcases h.2 with h1 | ⟨g, cap, cur, hv, hb0, hg, rest⟩
  · exact .inl h1
  · exact .inr ⟨g, cap, cur, hv, hb0, by rw [hb g (by rw [hv]; rfl)]; exact hg, rest⟩
theorem Nums.lt (h : Nums w v l) {x : Nat} (hx : v.ownBlock = some x) : x < w.heap.size := (World.ownsRow.lt h x hx).2
theorem Nums.keep (h : Nums w v l) (hB : Below w.heap.size w w') : Nums w' v l := h.same fun _ hx => hB.block _ (h.lt hx)
theorem Nums.chg {S : Nat → Prop} (h : Nums w v l) (hC : Chg S w w') (hS : ∀ x, v.ownBlock = some x → ¬ S x) : Nums w' v l := h.same fun x hx => hC.block _ (h.lt hx) (hS x hx)
theorem Nums.len (h : Nums w v l) : ∃ A cap, v = .slice A l.length cap ∧ (0 < l.length → ∃ g, A = some ⟨g, 0, none⟩) := by
  rcases h.shape with ⟨h1, h2⟩ | ⟨g, cap, cur, hv, _⟩
  · subst h2; exact ⟨none, 0, h1, fun h => absurd h (by simp)⟩
  · exact ⟨_, cap, hv, fun _ => ⟨g, rfl⟩⟩
theorem Nums.at {g n cap : Nat} (h : Nums w (.slice (some ⟨g, 0, none⟩) n cap) l) {i : Nat} (hi : i < l.length) : w.cell? ⟨g, i, none⟩ = some (nV (l.getD i 0)) := by
  rcases h.shape with ⟨h1, h2⟩ | ⟨g', cap', cur, hv, hg, hn, hm, hs, ht⟩
  · cases h1
  · injection hv with e1 e2 e3
    injection e1 with e1
    injection e1 with e1 _ _
    subst e1
    have h1 : cur[i]? = some (nV (l.getD i 0)) := by
      have h2 : cur.toList[i]? = (l.map nV)[i]? := by rw [← ht, List.getElem?_take_of_lt hi]
      rw [List.getElem?_map, List.getElem?_eq_getElem hi] at h2
      rw [List.getD_eq_getElem?_getD, List.getElem?_eq_getElem hi]
      simpa using h2
    simp [World.cell?, hg, h1]
theorem Nums.fz {g n cap : Nat} (h : Nums w (.slice (some ⟨g, 0, none⟩) n cap) l) (j : Nat) : w.frozen? ⟨g, j, none⟩ = false := by
  rcases h.shape with ⟨h1, h2⟩ | ⟨g', cap', cur, hv, hg, _⟩
  · cases h1
  · injection hv with e1 e2 e3
    injection e1 with e1
    injection e1 with e1 _ _
    subst e1
    simp [World.frozen?, hg]
end

end Go.Proofs.Ytkbafiepnnldeaa
