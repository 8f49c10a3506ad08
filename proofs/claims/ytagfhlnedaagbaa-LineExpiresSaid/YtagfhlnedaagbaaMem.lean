/-
  A line of waiters in memory: rows of numbers, the map of waiters, the line's own cells; what keeps them.
-/
import Derived.Test.YtagfhlnedaagbaaOrd
import Derived.Test.YtagfhlnedaagbaaRows
import Derived.WalkKit
import Derived.WalkSpells
import Derived.WalkLawsBesides
import Derived.WalkSmall
import Derived.Below
import Derived.Lib.Hide
import Derived.RegionTactic
import Derived.BigRegion
import Derived.LoopTactic
import Derived.BigQuiet
import Derived.Deep.QuietTactic
import Derived.Deep.OwnRows
import Derived.Deep.AppendLies
import Derived.IntWalk
import Derived.Maps.OwnSet
import Derived.Laws.EntriesVeiled
namespace Go.Proofs.Ytagfhlnedaagbaa
open Go.RowKit Go.Maps

theorem cell_lt {w : World} {a : Addr} {v : Value} (h : w.cell? a = some v) : a.block < w.heap.size := by
  rcases Nat.lt_or_ge a.block w.heap.size with h' | h'
  · exact h'
  · simp [World.cell?, Array.getElem?_eq_none h'] at h
theorem kept {w w' : World} {a : Addr} {v : Value} (hc : w.cell? a = some v) (h : Below w.heap.size w w') : w'.cell? a = some v := by
  rw [h.cell (cell_lt hc)]; exact hc
theorem below_two {w w1 w2 : World} (h : Below w.heap.size w w1) (k : Below w1.heap.size w1 w2) : Below w.heap.size w w2 := h.trans (k.mono h.size)
theorem ret_b {a b : Bool} (h : a = b) : Ending.returned (.bool a) = .returned (.bool b) := by rw [h]
theorem ret_i {k : IntKind} {a b : Int} (h : a = b) : Ending.returned (.int k a) = .returned (.int k b) := by rw [h]
theorem heap_alloc_new (w : World) (o : Obj) : (w.alloc o).heap[w.heap.size]? = some o := (MapKept.heap_alloc w o).1
theorem frozen_new (w : World) (c : Array Value) (t : TypeId) (j : Nat) : (w.alloc (.cells c t)).frozen? ⟨w.heap.size, j, none⟩ = false := by
  unfold World.frozen?
  rw [heap_alloc_new]
  simp
theorem cell_new (w : World) (c : Array Value) (t : TypeId) (j : Nat) : (w.alloc (.cells c t)).cell? ⟨w.heap.size, j, none⟩ = c[j]? := by
  rw [World.cell?_alloc_new]
theorem al_new (w : World) (c : Array Value) (t : TypeId) (j k : Nat) {v : Value} (hk : k = w.heap.size) (hv : c[j]? = some v) : (w.alloc (.cells c t)).cell? ⟨k, j, none⟩ = some v := by
  subst hk
  rw [World.cell?_alloc_new]
  exact hv
theorem frozen_at (w : World) (c : Array Value) (t : TypeId) (j k : Nat) (h : k = w.heap.size) : (w.alloc (.cells c t)).frozen? ⟨k, j, none⟩ = false := by subst h; exact frozen_new w c t j
theorem al_cell {w : World} {o : Obj} {a : Addr} {v : Value} (h : w.cell? a = some v) : (w.alloc o).cell? a = some v := kept h ((Below.refl _ _).alloc (Nat.le_refl _) _)
theorem frozen_old (w : World) (o : Obj) (a : Addr) (h : a.block < w.heap.size) : (w.alloc o).frozen? a = w.frozen? a := World.frozen?_of_block (w := w) (Below.heap_alloc w o _ h)
def Enters (K : FuncId) : Prop := ∀ (args : Array Value) (w : World), (callFunc K args).run Try.prog w = .ok (.enter K args) w
theorem enters_of {f : FuncId} {fn : Func} {c : Code} (hf : Try.prog.funcs[f]? = some fn) (hname : (fn.name == "runtime.NumGoroutine") = false) (hb : fn.body = some c) : Enters f := fun args w => by
  have h1 : fn.name ≠ "runtime.NumGoroutine" := by simpa using hname
  simp [callFunc, hf, h1, hb]

/-- Of the blocks that there were, only those of S may have changed. -/
structure Chg (S : Nat → Prop) (w w' : World) : Prop where
  os : w'.os = w.os
  tape : w'.tape = w.tape
  output : w'.output = w.output
  size : w.heap.size ≤ w'.heap.size
  block : ∀ k, k < w.heap.size → ¬ S k → w'.heap[k]? = w.heap[k]?
section
variable {S S' : Nat → Prop} {u v w w' : World}
theorem Chg.refl (w : World) : Chg S w w := ⟨rfl, rfl, rfl, Nat.le_refl _, fun _ _ _ => rfl⟩
theorem Chg.trans (h : Chg S u v) (k : Chg S v w) : Chg S u w :=
  ⟨k.os.trans h.os, k.tape.trans h.tape, k.output.trans h.output, Nat.le_trans h.size k.size, fun i hi h1 => (k.block i (Nat.lt_of_lt_of_le hi h.size) h1).trans (h.block i hi h1)⟩
/-- .. where the later one may change new blocks too. -/
theorem Chg.trans' (h : Chg S u v) (k : Chg S' v w) (e : ∀ i, i < u.heap.size → S' i → S i) : Chg S u w :=
  ⟨k.os.trans h.os, k.tape.trans h.tape, k.output.trans h.output, Nat.le_trans h.size k.size, fun i hi h1 => (k.block i (Nat.lt_of_lt_of_le hi h.size) (fun x => h1 (e i hi x))).trans (h.block i hi h1)⟩
theorem Chg.mono (h : Chg S w w') (e : ∀ k, S k → S' k) : Chg S' w w' := ⟨h.os, h.tape, h.output, h.size, fun k hk hn => h.block k hk fun x => hn (e k x)⟩
theorem Chg.of_below (h : Below w.heap.size w w') : Chg S w w' := ⟨h.os, h.tape, h.output, h.size, fun k hk _ => h.block k hk⟩
theorem Chg.to_below (h : Chg (fun _ => False) w w') : Below w.heap.size w w' := ⟨h.os, h.tape, h.output, h.size, fun k hk => h.block k hk id⟩
theorem Chg.below {n : Nat} (h : Chg S w w') (hS : ∀ k, S k → n ≤ k) (hn : n ≤ w.heap.size) : Below n w w' := ⟨h.os, h.tape, h.output, h.size, fun k hk => h.block k (by omega) fun hs => by have := hS k hs; omega⟩
theorem Chg.cell {a : Addr} {v : Value} (h : Chg S w w') (hc : w.cell? a = some v) (h1 : ¬ S a.block) : w'.cell? a = some v := by
  rw [World.cell?_of_block (w := w) (h.block a.block (cell_lt hc) h1)]; exact hc
theorem Chg.frozen {a : Addr} (h : Chg S w w') (hl : a.block < w.heap.size) (h1 : ¬ S a.block) : w'.frozen? a = w.frozen? a := World.frozen?_of_block (w := w) (h.block a.block hl h1)
theorem Chg.set {a : Addr} (h : Chg S w w') (ha : S a.block) (v : Value) : Chg S w (w'.setCell a v) :=
  h.trans ⟨rfl, rfl, rfl, by simp, fun k _ h1 => Below.heap_setCell _ _ _ _ fun e => h1 (e ▸ ha)⟩
theorem Chg.alloc (h : Chg S w w') (o : Obj) : Chg S w (w'.alloc o) := h.trans (Chg.of_below ((Below.refl _ _).alloc (Nat.le_refl _) _))
theorem Chg.drew (h : Chg S w w') : Chg S w w'.drew := ⟨h.os, h.tape, h.output, h.size, h.block⟩
theorem Chg.setCells {b : Nat} (h : Chg S w w') (hb : S b) : ∀ (vs : List Value) (o : Nat), Chg S w (w'.setCells b o vs) := by
  intro vs
  induction vs generalizing w' with
  | nil => intro o; exact h
  | cons x r ih => intro o; exact ih (h.set (a := ⟨b, o, none⟩) hb x) (o + 1)
end

/-! ### rows of numbers -/
abbrev nV (x : Int) : Value := .int .i64 x
/-- A slice of its own (or none) that holds these numbers. -/
def Nums (w : World) (v : Value) (l : List Int) : Prop := w.ownsRow 0 3 1 v l.length (l.map nV)
section
variable {w w' : World} {v : Value} {l : List Int}
theorem Nums.nil (w : World) : Nums w (.slice none 0 0) [] := World.ownsRow_nil _ _ _ _
theorem Nums.shape (h : Nums w v l) : (v = .slice none 0 0 ∧ l = []) ∨ ∃ g cap cur, v = .slice (some ⟨g, 0, none⟩) l.length cap ∧ w.heap[g]? = some (.cells cur 3 (0, 0)) ∧ l.length ≤ cap ∧ cap ≤ maxLen ∧ cur.size = cap ∧ cur.toList.take l.length = l.map nV := by
  rcases h.2 with ⟨h1, h2⟩ | ⟨g, cap, cur, hv, _, hg, hn, hm, hs, ht⟩
  · exact .inl ⟨h1, List.length_eq_zero_iff.1 h2⟩
  · exact .inr ⟨g, cap, cur, hv, hg, hn, hm, by simpa using hs, by simpa using ht⟩
theorem Nums.mk {g cap : Nat} {cur : Array Value} (hg : w.heap[g]? = some (.cells cur 3 (0, 0))) (hn : l.length ≤ cap) (hm : cap ≤ maxLen) (hs : cur.size = cap) (ht : cur.toList.take l.length = l.map nV) : Nums w (.slice (some ⟨g, 0, none⟩) l.length cap) l :=
  ⟨by simp, .inr ⟨g, cap, cur, rfl, Nat.zero_le _, hg, hn, hm, by simpa using hs, by simpa using ht⟩⟩
theorem Nums.same (h : Nums w v l) (hb : ∀ x, v.ownBlock = some x → w'.heap[x]? = w.heap[x]?) : Nums w' v l := by
  refine ⟨h.1, ?_⟩
  rcases h.2 with h1 | ⟨g, cap, cur, hv, hb0, hg, rest⟩
  · exact .inl h1
  · exact .inr ⟨g, cap, cur, hv, hb0, by rw [hb g (by rw [hv]; rfl)]; exact hg, rest⟩
theorem Nums.lt (h : Nums w v l) {x : Nat} (hx : v.ownBlock = some x) : x < w.heap.size := (World.ownsRow.lt h x hx).2
theorem Nums.keep (h : Nums w v l) (hB : Below w.heap.size w w') : Nums w' v l := h.same fun _ hx => hB.block _ (h.lt hx)
theorem Nums.chg {S : Nat → Prop} (h : Nums w v l) (hC : Chg S w w') (hS : ∀ x, v.ownBlock = some x → ¬ S x) : Nums w' v l := h.same fun x hx => hC.block _ (h.lt hx) (hS x hx)
theorem Nums.len (h : Nums w v l) : ∃ A cap, v = .slice A l.length cap ∧ (0 < l.length → ∃ g, A = some ⟨g, 0, none⟩) := by
  rcases h.shape with ⟨h1, h2⟩ | ⟨g, cap, cur, hv, _⟩
  · subst h2; exact ⟨none, 0, h1, fun h => absurd h (by simp)⟩
  · exact ⟨_, cap, hv, fun _ => ⟨g, rfl⟩⟩
theorem Nums.at {g n cap : Nat} (h : Nums w (.slice (some ⟨g, 0, none⟩) n cap) l) {i : Nat} (hi : i < l.length) : w.cell? ⟨g, i, none⟩ = some (nV (l.getD i 0)) := by
  rcases h.shape with ⟨h1, h2⟩ | ⟨g', cap', cur, hv, hg, hn, hm, hs, ht⟩
  · cases h1
  · injection hv with e1 e2 e3
    injection e1 with e1
    injection e1 with e1 _ _
    subst e1
    have h1 : cur[i]? = some (nV (l.getD i 0)) := by
      have h2 : cur.toList[i]? = (l.map nV)[i]? := by rw [← ht, List.getElem?_take_of_lt hi]
      rw [List.getElem?_map, List.getElem?_eq_getElem hi] at h2
      rw [List.getD_eq_getElem?_getD, List.getElem?_eq_getElem hi]
      simpa using h2
    simp [World.cell?, hg, h1]
theorem Nums.fz {g n cap : Nat} (h : Nums w (.slice (some ⟨g, 0, none⟩) n cap) l) (j : Nat) : w.frozen? ⟨g, j, none⟩ = false := by
  rcases h.shape with ⟨h1, h2⟩ | ⟨g', cap', cur, hv, hg, _⟩
  · cases h1
  · injection hv with e1 e2 e3
    injection e1 with e1
    injection e1 with e1 _ _
    subst e1
    simp [World.frozen?, hg]
end

/-! ### waiters -/
def wV (x : Int × Int × Int) : Value := .agg #[nV x.1, nV x.2.1, nV x.2.2]
def wD (x : Int × Int × Int) : DataW Unit := .agg [.lit (.int .i64 x.1), .lit (.int .i64 x.2.1), .lit (.int .i64 x.2.2)]
/-- How a waiter in the map reads. -/
noncomputable def wR (v : Value) : Option (DataW Unit × List MemPlace) :=
  open Classical in if h : ∃ x, v = wV x then some (wD (Classical.choose h), []) else none
theorem wV_inj {x y : Int × Int × Int} (h : wV x = wV y) : x = y := by
  unfold wV at h
  simp only [Value.agg.injEq, Array.mk.injEq, List.cons.injEq, Value.int.injEq, true_and, and_true, nV] at h
  exact Prod.ext h.1 (Prod.ext h.2.1 h.2.2)
theorem wR_mk (x : Int × Int × Int) : wR (wV x) = some (wD x, []) := by
  have h : ∃ y, wV x = wV y := ⟨x, rfl⟩
  unfold wR
  rw [dif_pos h, ← wV_inj (Classical.choose_spec h)]
theorem wD_inj {x y : Int × Int × Int} (h : wD x = wD y) : x = y := by
  unfold wD at h
  injection h with h
  simp only [List.cons.injEq, DataW.lit.injEq, Lit.int.injEq, true_and, and_true] at h
  obtain ⟨h1, h2, h3⟩ := h
  exact Prod.ext h1 (Prod.ext h2 h3)
theorem wR_inv {v : Value} {d : DataW Unit} {ps : List MemPlace} {x : Int × Int × Int} (h : wR v = some (d, ps)) (hd : d = wD x) : v = wV x := by
  unfold wR at h
  split at h
  · rename_i hx
    simp only [Option.some.injEq, Prod.mk.injEq] at h
    rw [← wD_inj (h.1.trans hd)]
    exact Classical.choose_spec hx
  · cases h
theorem law : Keyed Try.prog 3 := int_keyed Try.underlying3
theorem zero66 (w : World) : (zeroValue 66).run Try.prog w = .ok (wV (0, 0, 0)) w := by kernel_rfl
def I64 (x : Int) : Prop := -9223372036854775808 ≤ x ∧ x ≤ 9223372036854775807
theorem wf_i64 {x : Int} (h : I64 x) : (Lit.int .i64 x).wf = true := by
  unfold I64 at h
  have h1 : IntKind.i64.min ≤ x := h.1

  simp [Lit.wf, h1]
  exact h.2
theorem key_of {x : Int} (h : I64 x) : keyOf Try.prog 3 (nV x) = some (.int .i64 x) := keyOf_int_mk Try.underlying3 (wf_i64 h)

/-- What the map has at a number. -/
def Ln.look (S : Ln) (x : Int) : Int × Int × Int :=
  match S.q.find? fun a => decide ((a.id.val : Int) = x) with
  | some a => (a.prio, a.til, (a.arr : Int))
  | none => (0, 0, 0)
/-- A block is the map of these waiters. -/
def MapAt (w : World) (b : Nat) (hs : Int → Bool) (lk : Int → Int × Int × Int) (n : Nat) : Prop :=
  ∃ D : DataW Unit, w.ownsMap Try.prog 3 wR b n D ∧ ∀ x, I64 x → Maps.has D (.int .i64 x) = hs x ∧ D.atKey (.int .i64 x) (wD (0, 0, 0)) = wD (lk x)
section
variable {w w' : World} {b n : Nat} {hs : Int → Bool} {lk : Int → Int × Int × Int}
theorem MapAt.lt (h : MapAt w b hs lk n) : b < w.heap.size := by obtain ⟨D, h, _⟩ := h; exact h.lt
theorem MapAt.same (h : MapAt w b hs lk n) (e : w'.heap[b]? = w.heap[b]?) : MapAt w' b hs lk n := by
  obtain ⟨D, ⟨es, clock, hb, F, hn, hD⟩, h2⟩ := h
  exact ⟨D, ⟨es, clock, by rw [e]; exact hb, F, hn, hD⟩, h2⟩
theorem MapAt.chg {S : Nat → Prop} (h : MapAt w b hs lk n) (hC : Chg S w w') (hS : ¬ S b) : MapAt w' b hs lk n := h.same (hC.block _ h.lt hS)
theorem MapAt.keep (h : MapAt w b hs lk n) (hB : Below w.heap.size w w') : MapAt w' b hs lk n := h.same (hB.block _ h.lt)
theorem MapAt.get (h : MapAt w b hs lk n) {x : Int} (hx : I64 x) : (Instr.lookup 49 (.map (some b)) (nV x) false).run Try.prog w = .ok (wV (lk x)) w := by
  obtain ⟨D, hD, h2⟩ := h
  obtain ⟨v, ps, hrun, hv⟩ := hD.lookup law Try.underlying49 (zero66 w) (wR_mk (0, 0, 0)) (key_of hx)
  rw [hrun, wR_inv hv (h2 x hx).2]
theorem MapAt.get2 (h : MapAt w b hs lk n) {x : Int} (hx : I64 x) : (Instr.lookup 49 (.map (some b)) (nV x) true).run Try.prog w = .ok (.tuple #[wV (lk x), .bool (hs x)]) w := by
  obtain ⟨D, hD, h2⟩ := h
  obtain ⟨v, ps, hrun, hv⟩ := hD.look_ok law Try.underlying49 (zero66 w) (wR_mk (0, 0, 0)) (key_of hx)
  rw [hrun, wR_inv hv (h2 x hx).2, (h2 x hx).1]
theorem lit_ne {x y : Int} (h : x ≠ y) : (Lit.int .i64 x) ≠ .int .i64 y := fun e => h (by injection e)
theorem key_lit (x : Int) : WideAt.IsKeyLit (Lit.int .i64 x) := by first | trivial | exact ⟨_, rfl⟩ | simp [WideAt.IsKeyLit]
theorem MapAt.put (h : MapAt w b hs lk n) {x : Int} (hx : I64 x) (hn : n < maxLen) (y : Int × Int × Int) :
    ∃ w', (Instr.mapUpdate 49 (.map (some b)) (nV x) (wV y)).run Try.prog w = .ok () w' ∧ MapAt w' b (fun z => decide (z = x) || hs z) (fun z => if z = x then y else lk z) (n + 1) ∧ Chg (fun k => k = b) w w' := by
  obtain ⟨D, hD, h2⟩ := h
  obtain ⟨w', hrun, hD', ht⟩ := hD.store law Try.underlying49 hn (key_of hx) (wR_mk y)
  have hg := ht.grown
  refine ⟨w', hrun, ⟨_, hD', fun z hz => ?_⟩, ⟨hg.os, hg.tape, hg.output, hg.size, fun k hk hn => hg.block k hk (by simpa using hn)⟩⟩
  by_cases e : z = x
  · subst e
    rw [Maps.has_put_same hD.isMap (key_lit z), Maps.atKey_put_same hD.isMap (key_lit z)]
    simp
  · rw [Maps.has_put_other (lit_ne e), Maps.atKey_put_other (lit_ne e), (h2 z hz).1, (h2 z hz).2]
    simp [e]
theorem MapAt.del (h : MapAt w b hs lk n) {x : Int} (hx : I64 x) (ty : TypeId) :
    ∃ w', (Builtin.delete_ #[49, 3] ty #[.map (some b), nV x]).run Try.prog w = .ok (.tuple #[]) w' ∧ MapAt w' b (fun z => !decide (z = x) && hs z) (fun z => if z = x then (0, 0, 0) else lk z) n ∧ Chg (fun k => k = b) w w' := by
  obtain ⟨D, hD, h2⟩ := h
  obtain ⟨w', hrun, hD', ht⟩ := hD.drop law Try.underlying49 (key_of hx) ty
  have hg := ht.grown
  refine ⟨w', hrun, ⟨_, hD', fun z hz => ?_⟩, ⟨hg.os, hg.tape, hg.output, hg.size, fun k hk hn => hg.block k hk (by simpa using hn)⟩⟩
  by_cases e : z = x
  · subst e
    rw [Maps.has_del_same, Maps.atKey_del_same]
    simp
  · rw [Maps.has_del_other (lit_ne e), Maps.atKey_del_other (lit_ne e), (h2 z hz).1, (h2 z hz).2]
    simp [e]
theorem MapAt.new (w : World) : MapAt (w.alloc (.map #[] 0)) w.heap.size (fun _ => false) (fun _ => (0, 0, 0)) 0 :=
  ⟨.map [], World.ownsMap_made _ _ _ _, fun _ _ => ⟨rfl, rfl⟩⟩
theorem MapAt.congr {hs' : Int → Bool} {lk' : Int → Int × Int × Int} {n' : Nat} (h : MapAt w b hs lk n) (e1 : ∀ x, hs x = hs' x) (e2 : ∀ x, lk x = lk' x) (hn : n ≤ n') : MapAt w b hs' lk' n' := by
  obtain ⟨D, hD, h2⟩ := h
  exact ⟨D, hD.mono hn, fun x hx => ⟨by rw [← e1]; exact (h2 x hx).1, by rw [← e2]; exact (h2 x hx).2⟩⟩
end

/-! ### the line -/
def Ln.nums (S : Ln) : List Int := S.q.map fun a => (a.id.val : Int)
/-- A line at block g: its map is block b, its queue the slice v. -/
structure LnAt (w : World) (g b : Nat) (v : Value) (S : Ln) : Prop where
  c0 : w.cell? ⟨g, 0, none⟩ = some (.map (some b))
  c1 : w.cell? ⟨g, 1, none⟩ = some v
  c2 : w.cell? ⟨g, 2, none⟩ = some (nV S.n)
  c3 : w.cell? ⟨g, 3, none⟩ = some (nV S.now)
  fz : ∀ j, w.frozen? ⟨g, j, none⟩ = false
  map : MapAt w b S.has S.look S.n
  row : Nums w v S.nums
  ne : g ≠ b
  nv : v.ownBlock ≠ some g
  nb : v.ownBlock ≠ some b
  ok : Ok S
/-- The blocks of a line. -/
def Blk (g b : Nat) (v : Value) (k : Nat) : Prop := k = g ∨ k = b ∨ v.ownBlock = some k
section
variable {w w' : World} {g b : Nat} {v : Value} {S : Ln}
theorem LnAt.ltg (h : LnAt w g b v S) : g < w.heap.size := cell_lt h.c0
theorem LnAt.ltb (h : LnAt w g b v S) : b < w.heap.size := h.map.lt
theorem LnAt.same (h : LnAt w g b v S) (e : ∀ k, Blk g b v k → w'.heap[k]? = w.heap[k]?) : LnAt w' g b v S := by
  have eg := e g (.inl rfl)
  refine ⟨?_, ?_, ?_, ?_, fun j => ?_, h.map.same (e b (.inr (.inl rfl))), h.row.same fun x hx => e x (.inr (.inr hx)), h.ne, h.nv, h.nb, h.ok⟩
  · rw [World.cell?_of_block (w := w) eg]; exact h.c0
  · rw [World.cell?_of_block (w := w) eg]; exact h.c1
  · rw [World.cell?_of_block (w := w) eg]; exact h.c2
  · rw [World.cell?_of_block (w := w) eg]; exact h.c3
  · rw [World.frozen?_of_block (w := w) eg]; exact h.fz j
theorem LnAt.blk_lt (h : LnAt w g b v S) {k : Nat} (hk : Blk g b v k) : k < w.heap.size := by
  rcases hk with rfl | rfl | hk
  · exact h.ltg
  · exact h.ltb
  · exact h.row.lt hk
theorem LnAt.keep (h : LnAt w g b v S) (hB : Below w.heap.size w w') : LnAt w' g b v S := h.same fun _ hk => hB.block _ (h.blk_lt hk)
theorem LnAt.chg {T : Nat → Prop} (h : LnAt w g b v S) (hC : Chg T w w') (hT : ∀ k, Blk g b v k → ¬ T k) : LnAt w' g b v S := h.same fun k hk => hC.block _ (h.blk_lt hk) (hT k hk)
end
theorem look_has {S : Ln} {a : Wt} (h : Ok S) (ha : a ∈ S.q) : S.look (a.id.val : Int) = (a.prio, a.til, (a.arr : Int)) := by
  unfold Ln.look
  have hn := h.ids
  revert ha hn
  generalize S.q = q
  intro ha hn
  induction q with
  | nil => cases ha
  | cons c r ih =>
    rw [List.map_cons, List.nodup_cons] at hn
    by_cases e : c.id = a.id
    · rcases List.mem_cons.1 ha with rfl | ha'
      · simp
      · exact absurd (List.mem_map.2 ⟨a, ha', e.symm⟩) hn.1
    · have ha' : a ∈ r := (List.mem_cons.1 ha).resolve_left fun x => e (by rw [x])
      have e' : ¬ ((c.id.val : Int) = (a.id.val : Int)) := fun x => e (Fin.ext (by omega))
      simp only [List.find?_cons, decide_eq_false e']
      exact ih ha' hn.2
end Go.Proofs.Ytagfhlnedaagbaa
