/-
  A use of a word: refused where there is no such word, else the word becomes what the use makes of it.
-/
import Derived.Test.YtoaaeamogpdcgaaDoorAfter
import Derived.Deep.MidRow
import Derived.Deep.RegionHeld3
namespace Go.Proofs.YtoaaeamogpdcgaaDoor
open Go.RowKit

/-- A memory of n words f, used c times, in blocks g and b. -/
structure MemAt (w : World) (g b n : Nat) (f : Nat → Int) (c : Int) : Prop where
  row : w.rowIs b 22 n fun i => .int .u32 (f i)
  c0 : w.cell? ⟨g, 0, none⟩ = some (.slice (some ⟨b, 0, none⟩) n n)
  c1 : w.cell? ⟨g, 1, none⟩ = some (.int .i64 c)
  fz : ∀ j, w.frozen? ⟨g, j, none⟩ = false
  ne : g ≠ b
theorem MemAt.ltg {w : World} {g b n : Nat} {f : Nat → Int} {c : Int} (h : MemAt w g b n f c) : g < w.heap.size := cell_lt h.c0
theorem MemAt.same {w w' : World} {g b n : Nat} {f : Nat → Int} {c : Int} (h : MemAt w g b n f c) (e1 : w'.heap[g]? = w.heap[g]?) (e2 : w'.heap[b]? = w.heap[b]?) : MemAt w' g b n f c :=
  ⟨h.row.of_block e2, by rw [World.cell?_of_block (w := w) e1]; exact h.c0, by rw [World.cell?_of_block (w := w) e1]; exact h.c1, fun j => by rw [World.frozen?_of_block (w := w) e1]; exact h.fz j, h.ne⟩
theorem MemAt.keep {w w' : World} {g b n : Nat} {f : Nat → Int} {c : Int} (h : MemAt w g b n f c) (hB : Below w.heap.size w w') : MemAt w' g b n f c :=
  h.same (hB.block _ h.ltg) (hB.block _ h.row.lt)
/-- Of the blocks that there were, only g and b may have changed. -/
structure Else (g b : Nat) (w w' : World) : Prop where
  os : w'.os = w.os
  tape : w'.tape = w.tape
  output : w'.output = w.output
  size : w.heap.size ≤ w'.heap.size
  block : ∀ k, k < w.heap.size → k ≠ g → k ≠ b → w'.heap[k]? = w.heap[k]?
theorem Else.trans {g b : Nat} {u v w : World} (h : Else g b u v) (k : Else g b v w) : Else g b u w :=
  ⟨k.os.trans h.os, k.tape.trans h.tape, k.output.trans h.output, Nat.le_trans h.size k.size, fun i hi h1 h2 => (k.block i (Nat.lt_of_lt_of_le hi h.size) h1 h2).trans (h.block i hi h1 h2)⟩
theorem Else.of_below {g b : Nat} {w w' : World} (h : Below w.heap.size w w') : Else g b w w' := ⟨h.os, h.tape, h.output, h.size, fun k hk _ _ => h.block k hk⟩
theorem Else.below {g b n : Nat} {w w' : World} (h : Else g b w w') (h1 : n ≤ g) (h2 : n ≤ b) (h3 : n ≤ w.heap.size) : Below n w w' := ⟨h.os, h.tape, h.output, h.size, fun k hk => h.block k (by omega) (by omega) (by omega)⟩
theorem Else.mem {g b g' b' n : Nat} {f : Nat → Int} {c : Int} {w w' : World} (h : Else g b w w') (hm : MemAt w g' b' n f c) (h1 : g' ≠ g) (h2 : g' ≠ b) (h3 : b' ≠ g) (h4 : b' ≠ b) : MemAt w' g' b' n f c :=
  hm.same (h.block _ hm.ltg h1 h2) (h.block _ hm.row.lt h3 h4)
theorem Else.cell {g b : Nat} {w w' : World} {a : Addr} {v : Value} (h : Else g b w w') (hc : w.cell? a = some v) (h1 : a.block ≠ g) (h2 : a.block ≠ b) : w'.cell? a = some v := by
  rw [World.cell?_of_block (w := w) (h.block a.block (cell_lt hc) h1 h2)]; exact hc
theorem Else.set {g b : Nat} {w w' : World} {a : Addr} (h : Else g b w w') (ha : a.block = g ∨ a.block = b) (v : Value) : Else g b w (w'.setCell a v) :=
  h.trans ⟨rfl, rfl, rfl, by simp, fun k _ h1 h2 => Below.heap_setCell _ _ _ _ (by rcases ha with e | e <;> (rw [e]; assumption))⟩
/-- Words in range. -/
def WfF (n : Nat) (f : Nat → Int) : Prop := ∀ i, i < n → 0 ≤ f i ∧ f i < 4294967296
/-- What the memory holds behind a use. -/
def setF (f : Nat → Int) (i : Nat) (v : Int) : Nat → Int := fun j => if j = i then v else f j

theorem MemAt.set {w : World} {g b n : Nat} {f : Nat → Int} {c : Int} (h : MemAt w g b n f c) (i : Nat) (v : Int) : MemAt (w.setCell ⟨b, i, none⟩ (.int .u32 v)) g b n (setF f i v) c :=
  ⟨(h.row.set i _).congr fun j _ => by unfold setF; split <;> rfl, by rw [World.cell?_of_block (w := w) (Below.heap_setCell _ _ _ _ h.ne)]; exact h.c0, by rw [World.cell?_of_block (w := w) (Below.heap_setCell _ _ _ _ h.ne)]; exact h.c1, fun j => by rw [World.frozen?_of_block (w := w) (Below.heap_setCell _ _ _ _ h.ne)]; exact h.fz j, h.ne⟩
theorem MemAt.count {w : World} {g b n : Nat} {f : Nat → Int} {c : Int} (h : MemAt w g b n f c) (d : Int) : MemAt (w.setCell ⟨g, 1, none⟩ (.int .i64 d)) g b n f d :=
  ⟨h.row.setOther (fun e => h.ne e.symm) _, by rw [World.cell?_setCell_other _ _ _ _ (by simp)]; exact h.c0, World.cell?_setCell_same _ _ _ h.c1, fun j => by rw [World.frozen?_setCell]; exact h.fz j, h.ne⟩

set_option maxHeartbeats 2000000 in
set_option maxRecDepth 100000 in
theorem perf_no (K : Nat) (old v at' : Int) (g b n : Nat) (f : Nat → Int) (c : Int) (w : World) (hM : MemAt w g b n f c) (_ : n ≤ 4096) (ha : ¬ (0 ≤ at' ∧ at' < n)) :
    Calls Tryd.prog 30 #[.pointer (some ⟨g, 0, none⟩), .int .i64 at', useV K old v] w fun e w' => e = .returned (.tuple #[.int .u32 0, .int .i64 81]) ∧ Below w.heap.size w w' := by
  simp only [useV]
  have hb : Below w.heap.size w (w.alloc (.cells #[.bool (kK K).1, .bool (kK K).2.1, .bool (kK K).2.2.1, .bool (kK K).2.2.2, .int .u32 old, .int .u32 v] 82)) := (Below.refl _ _).alloc (Nat.le_refl _) _
  have h0 := kept hM.c0 hb
  have HB := Lib.hid hb
  clear hM hb
  by_cases h1 : at' < 0
  · clear ha
    go_enter Tryd.func30, Tryd.ntmps30
    go_wp2_with fail
    all_goals
      go_ret2
      exact ⟨rfl, HB.out⟩
  · have h2 : (n : Int) ≤ at' := by omega
    clear ha
    go_enter Tryd.func30, Tryd.ntmps30
    go_wp2_with fail
    all_goals
      go_ret2
      exact ⟨rfl, HB.out⟩
theorem GOk.drew {w : World} (h : GOk w) : GOk w.drew := h
theorem MemAt.drew {w : World} {g b n : Nat} {f : Nat → Int} {c : Int} (h : MemAt w g b n f c) : MemAt w.drew g b n f c := ⟨h.row, h.c0, h.c1, h.fz, h.ne⟩
/-- A use in a block of its own. -/
def Six (W : World) (b : Nat) (x0 x1 x2 x3 : Bool) (x4 x5 : Int) : Prop :=
  W.cell? ⟨b, 0, none⟩ = some (.bool x0) ∧ W.cell? ⟨b, 1, none⟩ = some (.bool x1) ∧ W.cell? ⟨b, 2, none⟩ = some (.bool x2) ∧ W.cell? ⟨b, 3, none⟩ = some (.bool x3) ∧ W.cell? ⟨b, 4, none⟩ = some (.int .u32 x4) ∧ W.cell? ⟨b, 5, none⟩ = some (.int .u32 x5)
theorem Six.drew {W : World} {b : Nat} {x0 x1 x2 x3 : Bool} {x4 x5 : Int} (h : Six W b x0 x1 x2 x3 x4 x5) : Six W.drew b x0 x1 x2 x3 x4 x5 := h
theorem Six.keep {W W' : World} {b : Nat} {x0 x1 x2 x3 : Bool} {x4 x5 : Int} (h : Six W b x0 x1 x2 x3 x4 x5) (hB : Below W.heap.size W W') : Six W' b x0 x1 x2 x3 x4 x5 :=
  ⟨kept h.1 hB, kept h.2.1 hB, kept h.2.2.1 hB, kept h.2.2.2.1 hB, kept h.2.2.2.2.1 hB, kept h.2.2.2.2.2 hB⟩
theorem box6 (w : World) (x0 x1 x2 x3 : Bool) (x4 x5 : Int) : Six (w.alloc (.cells #[.bool x0, .bool x1, .bool x2, .bool x3, .int .u32 x4, .int .u32 x5] 82)) w.heap.size x0 x1 x2 x3 x4 x5 := by
  unfold Six
  simp

set_option maxHeartbeats 4000000 in
set_option maxRecDepth 100000 in
theorem perf_yes (K : Nat) (old v : Int) (i g b n : Nat) (f : Nat → Int) (c : Int) (w : World) (hK : K ≤ 5) (hG : GOk w) (hM : MemAt w g b n f c) (_ : n ≤ 4096) (ha : i < n) (hc : 0 ≤ c ∧ c ≤ 1000000) :
    Calls Tryd.prog 30 #[.pointer (some ⟨g, 0, none⟩), .int .i64 i, useV K old v] w fun e w' => e = .returned (.tuple #[.int .u32 (f i), .int .i64 0]) ∧ MemAt w' g b n (setF f i (afterS K old v (f i))) (c + 1) ∧ Else g b w w' := by
  obtain ⟨hc0, hc1⟩ := hc
  have HA := Lib.hid (fun W hG => after_any K old v (f i) W hK hG)
  simp only [useV] at HA ⊢
  have hb : Below w.heap.size w (w.alloc (.cells #[.bool (kK K).1, .bool (kK K).2.1, .bool (kK K).2.2.1, .bool (kK K).2.2.2, .int .u32 old, .int .u32 v] 82)) := (Below.refl _ _).alloc (Nat.le_refl _) _
  have hM1 := hM.keep hb
  have h0 := hM1.c0
  have h1 := hM1.c1
  have h2 := hM1.row.cell ha
  have HB := Lib.hid hb
  have HM := Lib.hid hM1
  have HG := Lib.hid (hG.keep hb)
  have HNE := Lib.hid hM.ne
  have HA1 := Lib.hid ha
  have n1 := hM.ne
  have n2 : b ≠ g := fun e => n1 e.symm
  have n3 : b ≠ w.heap.size := by have := hM.row.lt; omega
  have n4 : w.heap.size ≠ b := fun e => n3 e.symm
  have HS := Lib.hid (box6 w (kK K).1 (kK K).2.1 (kK K).2.2.1 (kK K).2.2.2 old v)
  clear hM hM1 hb hG
  go_enter Tryd.func30, Tryd.ntmps30
  go_wp2_with fail
  go_region_held3 (fun w' => w'.cell? ⟨g, 0, none⟩ = some (.slice (some ⟨b, 0, none⟩) n n) ∧ w'.cell? ⟨w.heap.size, 0, none⟩ = some (.bool (kK K).1) ∧ w'.cell? ⟨w.heap.size, 1, none⟩ = some (.bool (kK K).2.1) ∧ w'.cell? ⟨w.heap.size, 2, none⟩ = some (.bool (kK K).2.2.1) ∧ w'.cell? ⟨w.heap.size, 3, none⟩ = some (.bool (kK K).2.2.2) ∧ w'.cell? ⟨w.heap.size, 4, none⟩ = some (.int .u32 old) ∧ w'.cell? ⟨w.heap.size, 5, none⟩ = some (.int .u32 v))
    (first | exact ⟨h0, HS.out⟩ | go_keep)
    (first
      | (go_at_call 35
         refine (HA.out _ HG.out.drew).mono ?_
         rintro e w1 ⟨rfl, hB1⟩
         have HM1 := Lib.hid (HM.out.drew.keep hB1)
         have HB1 := Lib.hid (below_two HB.out.drew hB1)
         have g0 := HM1.out.c0
         have g1 := HM1.out.c1
         have g2 := HM1.out.row.cell HA1.out
         have fz := HM1.out.row.frozen i
         obtain ⟨q0, q1, q2, q3, q4, q5⟩ := HS.out.drew.keep hB1
         clear hB1))
  have hM2 := HM1.out.set i (afterS K old v (f i))
  have k0 := hM2.c0
  have k1 := hM2.c1
  have kf := hM2.fz 1
  have HM2 := Lib.hid hM2
  have HE2 := Lib.hid (Else.set (g := g) (b := b) (a := ⟨b, i, none⟩) (Else.of_below HB1.out) (.inr rfl) (.int .u32 (afterS K old v (f i))))
  clear hM2 g0 g1 g2 q0 q1 q2 q3 q4 q5 fz
  go_wp2_with fail
  go_ret2
  exact ⟨rfl, HM2.out.count _, HE2.out.set (.inl rfl) _⟩
end Go.Proofs.YtoaaeamogpdcgaaDoor
