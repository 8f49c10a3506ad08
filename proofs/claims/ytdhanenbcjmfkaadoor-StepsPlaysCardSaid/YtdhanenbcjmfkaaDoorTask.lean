/-
  The closures that the tasks call: an addition; a load, then a store or a swap.
-/
import Derived.Test.YtdhanenbcjmfkaaDoorNew
import Derived.Test.YtdhanenbcjmfkaaDoorPure
import Derived.Laws.EntriesVeiled
namespace Go.Proofs.YtdhanenbcjmfkaaDoor
open Go.RowKit

def Enters (K : FuncId) : Prop := ∀ (args : Array Value) (w : World), (callFunc K args).run Tryd.prog w = .ok (.enter K args) w
theorem enters_of {f : FuncId} {fn : Func} {c : Code} (hf : Tryd.prog.funcs[f]? = some fn) (hname : (fn.name == "runtime.NumGoroutine") = false) (hb : fn.body = some c) : Enters f := fun args w => by
  have h1 : fn.name ≠ "runtime.NumGoroutine" := by simpa using hname
  simp [callFunc, hf, h1, hb]
theorem inc_wrap (x : Int) : IntKind.u32.wrap (x + 1) = inc x := by rw [IntKind.wrap_u32']; rfl

/-- Of the blocks that there were, only those of S may have changed. -/
structure Chg (S : Nat → Prop) (w w' : World) : Prop where
  os : w'.os = w.os
  tape : w'.tape = w.tape
  output : w'.output = w.output
  size : w.heap.size ≤ w'.heap.size
  block : ∀ k, k < w.heap.size → ¬ S k → w'.heap[k]? = w.heap[k]?
section
variable {S S' : Nat → Prop} {u v w w' : World}
theorem Chg.refl (w : World) : Chg S w w := ⟨rfl, rfl, rfl, Nat.le_refl _, fun _ _ _ => rfl⟩
theorem Chg.trans (h : Chg S u v) (k : Chg S v w) : Chg S u w :=
  ⟨k.os.trans h.os, k.tape.trans h.tape, k.output.trans h.output, Nat.le_trans h.size k.size, fun i hi h1 => (k.block i (Nat.lt_of_lt_of_le hi h.size) h1).trans (h.block i hi h1)⟩
theorem Chg.mono (h : Chg S w w') (e : ∀ k, S k → S' k) : Chg S' w w' := ⟨h.os, h.tape, h.output, h.size, fun k hk hn => h.block k hk fun x => hn (e k x)⟩
theorem Chg.of_below (h : Below w.heap.size w w') : Chg S w w' := ⟨h.os, h.tape, h.output, h.size, fun k hk _ => h.block k hk⟩
theorem Chg.of_else {g b : Nat} (h : Else g b w w') : Chg (fun k => k = g ∨ k = b) w w' := ⟨h.os, h.tape, h.output, h.size, fun k hk hn => h.block k hk (fun e => hn (.inl e)) (fun e => hn (.inr e))⟩
theorem Chg.below {n : Nat} (h : Chg S w w') (hS : ∀ k, S k → n ≤ k) (hn : n ≤ w.heap.size) : Below n w w' := ⟨h.os, h.tape, h.output, h.size, fun k hk => h.block k (by omega) fun hs => by have := hS k hs; omega⟩
theorem Chg.cell {a : Addr} {v : Value} (h : Chg S w w') (hc : w.cell? a = some v) (h1 : ¬ S a.block) : w'.cell? a = some v := by
  rw [World.cell?_of_block (w := w) (h.block a.block (cell_lt hc) h1)]; exact hc
theorem Chg.frozen {a : Addr} (h : Chg S w w') (hl : a.block < w.heap.size) (h1 : ¬ S a.block) : w'.frozen? a = w.frozen? a := World.frozen?_of_block (w := w) (h.block a.block hl h1)
theorem Chg.set {a : Addr} (h : Chg S w w') (ha : S a.block) (v : Value) : Chg S w (w'.setCell a v) :=
  h.trans ⟨rfl, rfl, rfl, by simp, fun k _ h1 => Below.heap_setCell _ _ _ _ fun e => h1 (e ▸ ha)⟩
theorem Chg.mem {g b n : Nat} {f : Nat → Int} {c : Int} (h : Chg S w w') (hm : MemAt w g b n f c) (h1 : ¬ S g) (h2 : ¬ S b) : MemAt w' g b n f c := hm.same (h.block _ hm.ltg h1) (h.block _ hm.row.lt h2)
theorem Chg.six (h : Chg S w w') (hS : ∀ k, S k → 6 ≤ k) (hG : GOk w) : GOk w' := fun K hK => by
  have h5 : gK K ≤ 5 := by
    match K, hK with
    | 0, _ => decide
    | 1, _ => decide
    | 2, _ => decide
    | 3, _ => decide
    | 4, _ => decide
    | 5, _ => decide
  exact (hG K hK).same (h.block _ (hG K hK).lt fun hs => by have := hS _ hs; omega)
end
theorem MemAt.congr {w : World} {g b n : Nat} {f f' : Nat → Int} {c : Int} (h : MemAt w g b n f c) (e : ∀ i, i < n → f i = f' i) : MemAt w g b n f' c :=
  ⟨h.row.congr fun i hi => by rw [e i hi], h.c0, h.c1, h.fz, h.ne⟩
theorem setF_same (f : Nat → Int) (i : Nat) : ∀ j, setF f i (f i) j = f j := fun j => by
  unfold setF; split
  · subst j; rfl
  · rfl
theorem setF_upd (f : Nat → Int) (i : Nat) (v : Int) : setF f i v = upd f i v := rfl

set_option maxHeartbeats 2000000 in
set_option maxRecDepth 100000 in
theorem adds_yes (i B g b n : Nat) (f : Nat → Int) (c : Int) (w : World) (hB : w.cell? ⟨B, 0, none⟩ = some (.int .i64 i)) (hG : GOk w) (hM : MemAt w g b n f c) (hn : n ≤ 4096) (ha : i < n) (hc : 0 ≤ c ∧ c ≤ 1000000) :
    Calls Tryd.prog 33 #[.pointer (some ⟨g, 0, none⟩), .pointer (some ⟨B, 0, none⟩)] w fun e w' => e = .returned (.tuple #[.bool true, .int .i64 0]) ∧ MemAt w' g b n (setF f i (inc (f i))) (c + 1) ∧ Else g b w w' := by
  have HA := Lib.hid (add_yes 1 i g b n f c w hG hM hn ha hc)
  clear hG hM hn ha hc
  go_enter Tryd.func33, Tryd.ntmps33
  go_wp2_with fail
  with_reducible refine HA.out.mono ?_
  rintro e w1 ⟨rfl, hM1, hE1⟩
  have HM1 := Lib.hid hM1
  have HE1 := Lib.hid hE1
  clear hM1 hE1
  go_wp2_with fail
  go_ret2
  refine ⟨rfl, ?_, HE1.out⟩
  rw [← inc_wrap]
  exact HM1.out
set_option maxHeartbeats 2000000 in
set_option maxRecDepth 100000 in
theorem adds_no (a : Int) (B g b n : Nat) (f : Nat → Int) (c : Int) (w : World) (hB : w.cell? ⟨B, 0, none⟩ = some (.int .i64 a)) (hG : GOk w) (hM : MemAt w g b n f c) (hn : n ≤ 4096) (ha : ¬ (0 ≤ a ∧ a < n)) :
    Calls Tryd.prog 33 #[.pointer (some ⟨g, 0, none⟩), .pointer (some ⟨B, 0, none⟩)] w fun e w' => e = .returned (.tuple #[.bool true, .int .i64 81]) ∧ Below w.heap.size w w' := by
  have HA := Lib.hid (add_no 1 a g b n f c w hG hM hn ha)
  clear hG hM hn ha
  go_enter Tryd.func33, Tryd.ntmps33
  go_wp2_with fail
  with_reducible refine HA.out.mono ?_
  rintro e w1 ⟨rfl, hB1⟩
  have HB1 := Lib.hid hB1
  clear hB1
  go_wp2_with fail
  go_ret2
  exact ⟨rfl, HB1.out⟩
/-- The function that a task that loads goes on with. -/
def thenK (kind : Nat) : Nat := if kind = 1 then 36 else 30
/-- Whether the word is then written. -/
def okK (kind : Nat) (x v : Int) : Bool := kind == 1 || x == v
set_option maxHeartbeats 2000000 in
set_option maxRecDepth 100000 in
theorem bump_yes (v : Int) (i B g b n : Nat) (f : Nat → Int) (c : Int) (w : World) (hB : w.cell? ⟨B, 0, none⟩ = some (.int .i64 i)) (hG : GOk w) (hM : MemAt w g b n f c) (hn : n ≤ 4096) (ha : i < n) (hc : 0 ≤ c ∧ c ≤ 1000000) :
    Calls Tryd.prog 36 #[.pointer (some ⟨g, 0, none⟩), .int .u32 v, .pointer (some ⟨B, 0, none⟩)] w fun e w' => e = .returned (.tuple #[.bool true, .int .i64 0]) ∧ MemAt w' g b n (setF f i (inc v)) (c + 1) ∧ Else g b w w' := by
  have HA := Lib.hid (store_yes ((v + 1) % 4294967296) i g b n f c w hG hM hn ha hc)
  clear hG hM hn ha hc
  go_enter Tryd.func36, Tryd.ntmps36
  go_wp2_with fail
  with_reducible refine HA.out.mono ?_
  rintro e w1 ⟨rfl, hM1, hE1⟩
  have HM1 := Lib.hid hM1
  have HE1 := Lib.hid hE1
  clear hM1 hE1
  go_wp2_with fail
  go_ret2
  exact ⟨rfl, HM1.out, HE1.out⟩
set_option maxHeartbeats 2000000 in
set_option maxRecDepth 100000 in
theorem bump_no (v a : Int) (B g b n : Nat) (f : Nat → Int) (c : Int) (w : World) (hB : w.cell? ⟨B, 0, none⟩ = some (.int .i64 a)) (hG : GOk w) (hM : MemAt w g b n f c) (hn : n ≤ 4096) (ha : ¬ (0 ≤ a ∧ a < n)) :
    Calls Tryd.prog 36 #[.pointer (some ⟨g, 0, none⟩), .int .u32 v, .pointer (some ⟨B, 0, none⟩)] w fun e w' => e = .returned (.tuple #[.bool true, .int .i64 81]) ∧ Below w.heap.size w w' := by
  have HA := Lib.hid (store_no ((v + 1) % 4294967296) a g b n f c w hG hM hn ha)
  clear hG hM hn ha
  go_enter Tryd.func36, Tryd.ntmps36
  go_wp2_with fail
  with_reducible refine HA.out.mono ?_
  rintro e w1 ⟨rfl, hB1⟩
  have HB1 := Lib.hid hB1
  clear hB1
  go_wp2_with fail
  go_ret2
  exact ⟨rfl, HB1.out⟩
set_option maxHeartbeats 2000000 in
set_option maxRecDepth 100000 in
theorem swaps_yes (v : Int) (i B g b n : Nat) (f : Nat → Int) (c : Int) (w : World) (hB : w.cell? ⟨B, 0, none⟩ = some (.int .i64 i)) (hG : GOk w) (hM : MemAt w g b n f c) (hn : n ≤ 4096) (ha : i < n) (hc : 0 ≤ c ∧ c ≤ 1000000) :
    Calls Tryd.prog 30 #[.pointer (some ⟨g, 0, none⟩), .int .u32 v, .pointer (some ⟨B, 0, none⟩)] w fun e w' => e = .returned (.tuple #[.bool (f i == v), .int .i64 0]) ∧ MemAt w' g b n (setF f i (if f i == v then inc v else f i)) (c + 1) ∧ Else g b w w' := by
  have HA := swap_yes v ((v + 1) % 4294967296) i g b n f c w hG hM hn ha hc
  have e1 : decide (f i = v) = (f i == v) := rfl
  have e2 : afterS 2 v ((v + 1) % 4294967296) (f i) = if f i == v then inc v else f i := by
    unfold afterS inc; simp
  rw [e1, e2] at HA
  clear e1 e2
  obtain ⟨q, hq⟩ : ∃ q, q = (f i == v) := ⟨_, rfl⟩
  rw [← hq] at HA ⊢
  obtain ⟨y, hy⟩ : ∃ y, y = (if q = true then inc v else f i) := ⟨_, rfl⟩
  rw [← hy] at HA ⊢
  have HA := Lib.hid HA
  clear hG hM hn ha hc hq hy
  go_enter Tryd.func30, Tryd.ntmps30
  go_wp2_with fail
  with_reducible refine HA.out.mono ?_
  rintro e w1 ⟨rfl, hM1, hE1⟩
  have HM1 := Lib.hid hM1
  have HE1 := Lib.hid hE1
  clear hM1 hE1
  go_wp2_with fail
  all_goals
    go_ret2
    exact ⟨by first | rfl | (simp; done) | simp_all, HM1.out, HE1.out⟩
set_option maxHeartbeats 2000000 in
set_option maxRecDepth 100000 in
theorem swaps_no (v a : Int) (B g b n : Nat) (f : Nat → Int) (c : Int) (w : World) (hB : w.cell? ⟨B, 0, none⟩ = some (.int .i64 a)) (hG : GOk w) (hM : MemAt w g b n f c) (hn : n ≤ 4096) (ha : ¬ (0 ≤ a ∧ a < n)) :
    Calls Tryd.prog 30 #[.pointer (some ⟨g, 0, none⟩), .int .u32 v, .pointer (some ⟨B, 0, none⟩)] w fun e w' => e = .returned (.tuple #[.bool false, .int .i64 81]) ∧ Below w.heap.size w w' := by
  have HA := Lib.hid (swap_no v ((v + 1) % 4294967296) a g b n f c w hG hM hn ha)
  clear hG hM hn ha
  go_enter Tryd.func30, Tryd.ntmps30
  go_wp2_with fail
  with_reducible refine HA.out.mono ?_
  rintro e w1 ⟨rfl, hB1⟩
  have HB1 := Lib.hid hB1
  clear hB1
  go_wp2_with fail
  go_ret2
  exact ⟨rfl, HB1.out⟩
theorem enters36 : Enters 36 := enters_of Tryd.func36 (by kernel_rfl) rfl
theorem enters30 : Enters 30 := enters_of Tryd.func30 (by kernel_rfl) rfl
theorem enters33 : Enters 33 := enters_of Tryd.func33 (by kernel_rfl) rfl
theorem enters38 : Enters 38 := enters_of Tryd.func38 (by kernel_rfl) rfl
theorem enters_then (K : Nat) : Enters (thenK K) := by
  unfold thenK; split
  · exact enters36
  · exact enters30
/-- What comes behind a load: the word is written, or not. -/
theorem then_yes (K : Nat) (v : Int) (i B g b n : Nat) (f : Nat → Int) (c : Int) (w : World) (hB : w.cell? ⟨B, 0, none⟩ = some (.int .i64 i)) (hG : GOk w) (hM : MemAt w g b n f c) (hn : n ≤ 4096) (ha : i < n) (hc : 0 ≤ c ∧ c ≤ 1000000) :
    Calls Tryd.prog (thenK K) #[.pointer (some ⟨g, 0, none⟩), .int .u32 v, .pointer (some ⟨B, 0, none⟩)] w fun e w' => e = .returned (.tuple #[.bool (okK K (f i) v), .int .i64 0]) ∧ MemAt w' g b n (setF f i (if okK K (f i) v then inc v else f i)) (c + 1) ∧ Else g b w w' := by
  unfold thenK okK
  by_cases h : K = 1
  · subst h
    exact bump_yes v i B g b n f c w hB hG hM hn ha hc
  · rw [if_neg h, show (K == 1) = false by simpa using h]
    exact swaps_yes v i B g b n f c w hB hG hM hn ha hc
theorem then_no (K : Nat) (v a : Int) (B g b n : Nat) (f : Nat → Int) (c : Int) (w : World) (hB : w.cell? ⟨B, 0, none⟩ = some (.int .i64 a)) (hG : GOk w) (hM : MemAt w g b n f c) (hn : n ≤ 4096) (ha : ¬ (0 ≤ a ∧ a < n)) :
    Calls Tryd.prog (thenK K) #[.pointer (some ⟨g, 0, none⟩), .int .u32 v, .pointer (some ⟨B, 0, none⟩)] w fun e w' => e = .returned (.tuple #[.bool (K == 1), .int .i64 81]) ∧ Below w.heap.size w w' := by
  unfold thenK
  by_cases h : K = 1
  · subst h
    exact bump_no v a B g b n f c w hB hG hM hn ha
  · rw [if_neg h, show (K == 1) = false by simpa using h]
    exact swaps_no v a B g b n f c w hB hG hM hn ha
end Go.Proofs.YtdhanenbcjmfkaaDoor
