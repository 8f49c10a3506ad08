/-
  What a call leaves as it was: of the blocks that there were, only some may have changed.
-/
import Derived.Test.YtoaaeamogpdcgaaDoorNew
import Derived.Test.YtoaaeamogpdcgaaDoorPure
import Derived.Laws.EntriesVeiled
namespace Go.Proofs.YtoaaeamogpdcgaaDoor
open Go.RowKit

def Enters (K : FuncId) : Prop := ∀ (args : Array Value) (w : World), (callFunc K args).run Tryd.prog w = .ok (.enter K args) w
theorem enters_of {f : FuncId} {fn : Func} {c : Code} (hf : Tryd.prog.funcs[f]? = some fn) (hname : (fn.name == "runtime.NumGoroutine") = false) (hb : fn.body = some c) : Enters f := fun args w => by
  have h1 : fn.name ≠ "runtime.NumGoroutine" := by simpa using hname
  simp [callFunc, hf, h1, hb]
theorem inc_wrap (x : Int) : IntKind.u32.wrap (x + 1) = inc x := by rw [IntKind.wrap_u32']; rfl

/-- Of the blocks that there were, only those of S may have changed. -/
structure Chg (S : Nat → Prop) (w w' : World) : Prop where
  os : w'.os = w.os
  tape : w'.tape = w.tape
  output : w'.output = w.output
  size : w.heap.size ≤ w'.heap.size
  block : ∀ k, k < w.heap.size → ¬ S k → w'.heap[k]? = w.heap[k]?
section
variable {S S' : Nat → Prop} {u v w w' : World}
theorem Chg.refl (w : World) : Chg S w w := ⟨rfl, rfl, rfl, Nat.le_refl _, fun _ _ _ => rfl⟩
theorem Chg.trans (h : Chg S u v) (k : Chg S v w) : Chg S u w :=
  ⟨k.os.trans h.os, k.tape.trans h.tape, k.output.trans h.output, Nat.le_trans h.size k.size, fun i hi h1 => (k.block i (Nat.lt_of_lt_of_le hi h.size) h1).trans (h.block i hi h1)⟩
theorem Chg.mono (h : Chg S w w') (e : ∀ k, S k → S' k) : Chg S' w w' := ⟨h.os, h.tape, h.output, h.size, fun k hk hn => h.block k hk fun x => hn (e k x)⟩
theorem Chg.of_below (h : Below w.heap.size w w') : Chg S w w' := ⟨h.os, h.tape, h.output, h.size, fun k hk _ => h.block k hk⟩
theorem Chg.of_else {g b : Nat} (h : Else g b w w') : Chg (fun k => k = g ∨ k = b) w w' := ⟨h.os, h.tape, h.output, h.size, fun k hk hn => h.block k hk (fun e => hn (.inl e)) (fun e => hn (.inr e))⟩
theorem Chg.below {n : Nat} (h : Chg S w w') (hS : ∀ k, S k → n ≤ k) (hn : n ≤ w.heap.size) : Below n w w' := ⟨h.os, h.tape, h.output, h.size, fun k hk => h.block k (by omega) fun hs => by have := hS k hs; omega⟩
theorem Chg.cell {a : Addr} {v : Value} (h : Chg S w w') (hc : w.cell? a = some v) (h1 : ¬ S a.block) : w'.cell? a = some v := by
  rw [World.cell?_of_block (w := w) (h.block a.block (cell_lt hc) h1)]; exact hc
theorem Chg.frozen {a : Addr} (h : Chg S w w') (hl : a.block < w.heap.size) (h1 : ¬ S a.block) : w'.frozen? a = w.frozen? a := World.frozen?_of_block (w := w) (h.block a.block hl h1)
theorem Chg.set {a : Addr} (h : Chg S w w') (ha : S a.block) (v : Value) : Chg S w (w'.setCell a v) :=
  h.trans ⟨rfl, rfl, rfl, by simp, fun k _ h1 => Below.heap_setCell _ _ _ _ fun e => h1 (e ▸ ha)⟩
theorem Chg.mem {g b n : Nat} {f : Nat → Int} {c : Int} (h : Chg S w w') (hm : MemAt w g b n f c) (h1 : ¬ S g) (h2 : ¬ S b) : MemAt w' g b n f c := hm.same (h.block _ hm.ltg h1) (h.block _ hm.row.lt h2)
theorem Chg.six (h : Chg S w w') (hS : ∀ k, S k → 6 ≤ k) (hG : GOk w) : GOk w' := fun K hK => by
  have h5 : gK K ≤ 5 := by
    match K, hK with
    | 0, _ => decide
    | 1, _ => decide
    | 2, _ => decide
    | 3, _ => decide
    | 4, _ => decide
    | 5, _ => decide
  exact (hG K hK).same (h.block _ (hG K hK).lt fun hs => by have := hS _ hs; omega)
end
theorem MemAt.congr {w : World} {g b n : Nat} {f f' : Nat → Int} {c : Int} (h : MemAt w g b n f c) (e : ∀ i, i < n → f i = f' i) : MemAt w g b n f' c :=
  ⟨h.row.congr fun i hi => by rw [e i hi], h.c0, h.c1, h.fz, h.ne⟩
theorem setF_same (f : Nat → Int) (i : Nat) : ∀ j, setF f i (f i) j = f j := fun j => by
  unfold setF; split
  · subst j; rfl
  · rfl
theorem setF_upd (f : Nat → Int) (i : Nat) (v : Int) : setF f i v = upd f i v := rfl

theorem Else.frozen {g b : Nat} {w w' : World} {a : Addr} (h : Else g b w w') (hl : a.block < w.heap.size) (h1 : a.block ≠ g) (h2 : a.block ≠ b) : w'.frozen? a = w.frozen? a := World.frozen?_of_block (w := w) (h.block a.block hl h1 h2)
theorem MemAt.setOut {w : World} {g b n : Nat} {f : Nat → Int} {c : Int} (h : MemAt w g b n f c) {a : Addr} (h1 : a.block ≠ g) (h2 : a.block ≠ b) (v : Value) : MemAt (w.setCell a v) g b n f c :=
  h.same (Below.heap_setCell _ _ _ _ fun e => h1 e.symm) (Below.heap_setCell _ _ _ _ fun e => h2 e.symm)
theorem al_cell {w : World} {o : Obj} {a : Addr} {v : Value} (h : w.cell? a = some v) : (w.alloc o).cell? a = some v := kept h ((Below.refl _ _).alloc (Nat.le_refl _) _)
theorem al_new (w : World) (c : Array Value) (t : TypeId) (j k : Nat) {v : Value} (hk : k = w.heap.size) (hv : c[j]? = some v) : (w.alloc (.cells c t)).cell? ⟨k, j, none⟩ = some v := by
  subst hk
  rw [World.cell?_alloc_new]
  exact hv
theorem frozen_at (w : World) (c : Array Value) (t : TypeId) (j k : Nat) (h : k = w.heap.size) : (w.alloc (.cells c t)).frozen? ⟨k, j, none⟩ = false := by subst h; exact frozen_new w c t j
theorem frozen_old (w : World) (o : Obj) (a : Addr) (h : a.block < w.heap.size) : (w.alloc o).frozen? a = w.frozen? a := World.frozen?_of_block (w := w) (Below.heap_alloc w o _ h)
end Go.Proofs.YtoaaeamogpdcgaaDoor
