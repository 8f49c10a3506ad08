/-
  Rows of Booleans in memory; a change of one block; what is told of a partition's number and a channel's ends.
-/
import Derived.Test.YtjiikhfeacgjjaaMem
import Derived.Deep.OwnRows
namespace Go.Proofs.Ytjiikhfeacgjjaa
open Go.RowKit

/-- Of the blocks below B only g may have changed. -/
structure Only (g B : Nat) (w w' : World) : Prop where
  os : w'.os = w.os
  tape : w'.tape = w.tape
  output : w'.output = w.output
  size : w.heap.size ≤ w'.heap.size
  block : ∀ k, k < B → k ≠ g → w'.heap[k]? = w.heap[k]?
theorem Only.refl (g B : Nat) (w : World) : Only g B w w := ⟨rfl, rfl, rfl, Nat.le_refl _, fun _ _ _ => rfl⟩
theorem Only.trans {g B : Nat} {a b c : World} (h : Only g B a b) (k : Only g B b c) : Only g B a c :=
  ⟨k.os.trans h.os, k.tape.trans h.tape, k.output.trans h.output, Nat.le_trans h.size k.size, fun i hi hn => (k.block i hi hn).trans (h.block i hi hn)⟩
theorem Only.mono {g B B' : Nat} {w w' : World} (h : Only g B w w') (hB : B' ≤ B) : Only g B' w w' := ⟨h.os, h.tape, h.output, h.size, fun k hk hn => h.block k (by omega) hn⟩
theorem Only.of_below {g B : Nat} {w w' : World} (h : Below B w w') : Only g B w w' := ⟨h.os, h.tape, h.output, h.size, fun k hk _ => h.block k hk⟩
theorem Only.below {g B B' : Nat} {w w' : World} (h : Only g B w w') (h1 : B' ≤ B) (h2 : B' ≤ g) : Below B' w w' := ⟨h.os, h.tape, h.output, h.size, fun k hk => h.block k (by omega) (by omega)⟩
theorem Only.set {g B o : Nat} {w w' : World} (h : Only g B w w') (v : Value) : Only g B w (w'.setCell ⟨g, o, none⟩ v) :=
  h.trans ⟨rfl, rfl, rfl, by simp, fun k _ hn => Below.heap_setCell _ _ _ _ (by simpa using hn)⟩
/-- Behind a change of block g, a call that only makes memory. -/
theorem Only.then {g : Nat} {w w1 w2 : World} (h : Only g w.heap.size w w1) (hB : Below w1.heap.size w1 w2) : Only g w.heap.size w w2 :=
  h.trans (Only.of_below (hB.mono h.size))
theorem Only.two {g : Nat} {w w1 w2 : World} (h : Only g w.heap.size w w1) (k : Only g w1.heap.size w1 w2) : Only g w.heap.size w w2 := h.trans (k.mono h.size)
theorem Only.kept {g : Nat} {w w' : World} {b o : Nat} {v : Value} (h : Only g w.heap.size w w') (hc : w.cell? ⟨b, o, none⟩ = some v) (hn : b ≠ g) : w'.cell? ⟨b, o, none⟩ = some v := by
  rw [World.cell?_of_block (w := w) (h.block b (cell_lt hc) hn)]; exact hc
theorem Only.arr {g : Nat} {w w' : World} {A : Option Addr} {C n : Nat} {F : Nat → List Value} (h : Only g w.heap.size w w') (hA : Arr w A C n F) (hn : ∀ b o, A = some ⟨b, o, none⟩ → b ≠ g) : Arr w' A C n F := fun i hi => by
  obtain ⟨b, o, e, hc⟩ := hA i hi
  exact ⟨b, o, e, fun j u hu => h.kept (hc j u hu) (hn b o e)⟩
theorem Only.row {g b t n : Nat} {f : Nat → Value} {w w' : World} (h : Only g w.heap.size w w') (hr : w.rowIs b t n f) (hn : b ≠ g) : w'.rowIs b t n f := hr.of_block (h.block b hr.lt hn)

/-- Booleans in memory. -/
def Bools (w : World) (A : Option Addr) (n : Nat) (f : Nat → Bool) : Prop := Arr w A 1 n fun i => [.bool (f i)]
theorem Bools.cell {w : World} {b o n : Nat} {f : Nat → Bool} (h : Bools w (some ⟨b, o, none⟩) n f) {i : Nat} (hi : i < n) : w.cell? ⟨b, o + i, none⟩ = some (.bool (f i)) := by
  have := Arr.at h (i := i) (j := 0) hi rfl
  simpa using this
theorem Bools.of_row {w : World} {b N n : Nat} {f : Nat → Bool} (h : w.rowIs b 4 N fun i => .bool (f i)) (hn : n ≤ N) : Bools w (some ⟨b, 0, none⟩) n f := fun i hi => by
  refine ⟨b, 0, rfl, fun j u hu => ?_⟩
  match j, hu with
  | 0, hu =>
    simp at hu
    subst hu
    rw [show 0 + i * 1 + 0 = i by omega]
    exact h.cell (by omega)
  | j + 1, hu => simp at hu
theorem Bools.congr {w : World} {A : Option Addr} {n : Nat} {f g : Nat → Bool} (h : Bools w A n f) (e : ∀ i, i < n → f i = g i) : Bools w A n g := fun i hi => by
  obtain ⟨b, o, e1, hc⟩ := h i hi
  exact ⟨b, o, e1, fun j u hu => hc j u (by dsimp only at hu ⊢; rw [e i hi]; exact hu)⟩
theorem Bools.nil {w : World} {f : Nat → Bool} {A : Option Addr} : Bools w A 0 f := fun i hi => by omega
theorem info4 : (Try.prog.info? 4).map (fun i => (i.zero, i.size, i.bytes)) = some (some (.bool false), 1, 1) := by kernel_rfl

/-- A channel's cells in a block of its own. -/
def CB (W : World) (b : Nat) (c : ChanA) : Prop :=
  W.cell? ⟨b, 0, none⟩ = some (.int .u8 c.1) ∧ W.cell? ⟨b, 1, none⟩ = some (.int .u8 c.2.1) ∧ W.cell? ⟨b, 2, none⟩ = some (.int .u8 c.2.2.1) ∧ W.cell? ⟨b, 3, none⟩ = some (.int .u8 c.2.2.2.1) ∧ W.cell? ⟨b, 4, none⟩ = some (.int .u8 c.2.2.2.2.1) ∧ W.cell? ⟨b, 5, none⟩ = some (.int .u16 c.2.2.2.2.2)
theorem CB.keep {W W' : World} {b : Nat} {c : ChanA} (h : CB W b c) (hB : Below W.heap.size W W') : CB W' b c :=
  ⟨Go.Proofs.Ytjiikhfeacgjjaa.kept h.1 hB, Go.Proofs.Ytjiikhfeacgjjaa.kept h.2.1 hB, Go.Proofs.Ytjiikhfeacgjjaa.kept h.2.2.1 hB, Go.Proofs.Ytjiikhfeacgjjaa.kept h.2.2.2.1 hB, Go.Proofs.Ytjiikhfeacgjjaa.kept h.2.2.2.2.1 hB, Go.Proofs.Ytjiikhfeacgjjaa.kept h.2.2.2.2.2 hB⟩
theorem CB.new (W : World) (c0 c1 c2 c3 c4 c5 : Int) : CB (W.alloc (.cells #[.int .u8 c0, .int .u8 c1, .int .u8 c2, .int .u8 c3, .int .u8 c4, .int .u16 c5] 44)) W.heap.size (c0, c1, c2, c3, c4, c5) := ⟨by simp, by simp, by simp, by simp, by simp, by simp⟩

/-- A plan's five cells in a block of its own, its lengths by themselves. -/
def PBn (W : World) (b : Nat) (fr : Int) (A1 : Option Addr) (n1 c1 : Nat) (A2 : Option Addr) (n2 c2 : Nat) (A3 : Option Addr) (n3 c3 : Nat) (A4 : Option Addr) (n4 c4 : Nat) : Prop :=
  W.cell? ⟨b, 0, none⟩ = some (.int .u16 fr) ∧ W.cell? ⟨b, 1, none⟩ = some (.slice A1 n1 c1) ∧ W.cell? ⟨b, 2, none⟩ = some (.slice A2 n2 c2) ∧ W.cell? ⟨b, 3, none⟩ = some (.slice A3 n3 c3) ∧ W.cell? ⟨b, 4, none⟩ = some (.slice A4 n4 c4)
theorem PBn.keep {W W' : World} {b : Nat} {fr : Int} {A1 : Option Addr} {n1 c1 : Nat} {A2 : Option Addr} {n2 c2 : Nat} {A3 : Option Addr} {n3 c3 : Nat} {A4 : Option Addr} {n4 c4 : Nat} (h : PBn W b fr A1 n1 c1 A2 n2 c2 A3 n3 c3 A4 n4 c4) (hB : Below W.heap.size W W') : PBn W' b fr A1 n1 c1 A2 n2 c2 A3 n3 c3 A4 n4 c4 :=
  ⟨Go.Proofs.Ytjiikhfeacgjjaa.kept h.1 hB, Go.Proofs.Ytjiikhfeacgjjaa.kept h.2.1 hB, Go.Proofs.Ytjiikhfeacgjjaa.kept h.2.2.1 hB, Go.Proofs.Ytjiikhfeacgjjaa.kept h.2.2.2.1 hB, Go.Proofs.Ytjiikhfeacgjjaa.kept h.2.2.2.2 hB⟩
theorem PBn.new (W : World) (fr : Int) (A1 : Option Addr) (n1 c1 : Nat) (A2 : Option Addr) (n2 c2 : Nat) (A3 : Option Addr) (n3 c3 : Nat) (A4 : Option Addr) (n4 c4 : Nat) :
    PBn (W.alloc (.cells #[.int .u16 fr, .slice A1 n1 c1, .slice A2 n2 c2, .slice A3 n3 c3, .slice A4 n4 c4] 28)) W.heap.size fr A1 n1 c1 A2 n2 c2 A3 n3 c3 A4 n4 c4 := ⟨by simp, by simp, by simp, by simp, by simp⟩
theorem PBn.alloc {W : World} {b : Nat} {fr : Int} {A1 : Option Addr} {n1 c1 : Nat} {A2 : Option Addr} {n2 c2 : Nat} {A3 : Option Addr} {n3 c3 : Nat} {A4 : Option Addr} {n4 c4 : Nat} (h : PBn W b fr A1 n1 c1 A2 n2 c2 A3 n3 c3 A4 n4 c4) (o : Obj) : PBn (W.alloc o) b fr A1 n1 c1 A2 n2 c2 A3 n3 c3 A4 n4 c4 := h.keep ((Below.refl _ _).alloc (Nat.le_refl _) _)
theorem PBn.only {g : Nat} {W W' : World} {b : Nat} {fr : Int} {A1 : Option Addr} {n1 c1 : Nat} {A2 : Option Addr} {n2 c2 : Nat} {A3 : Option Addr} {n3 c3 : Nat} {A4 : Option Addr} {n4 c4 : Nat} (h : PBn W b fr A1 n1 c1 A2 n2 c2 A3 n3 c3 A4 n4 c4) (hB : Only g W.heap.size W W') (hn : b ≠ g) : PBn W' b fr A1 n1 c1 A2 n2 c2 A3 n3 c3 A4 n4 c4 :=
  ⟨hB.kept h.1 hn, hB.kept h.2.1 hn, hB.kept h.2.2.1 hn, hB.kept h.2.2.2.1 hn, hB.kept h.2.2.2.2 hn⟩

set_option maxHeartbeats 1000000 in
theorem isPart_any (P : PlanA) (L : PlanL) (z : Int) (w : World) (hl : P.2.2.1.length ≤ 140737488355328) :
    Calls Try.prog 27 #[planV P L, .int .i64 z] w fun e w' => e = .returned (.bool (isB P.2.2.1.length z)) ∧ Below w.heap.size w w' := by
  obtain ⟨fr, cs, ps, hs, rs⟩ := P
  obtain ⟨A1, c1, A2, c2, A3, c3, A4, c4⟩ := L
  simp only [planV, isB] at *
  obtain ⟨n, hn⟩ : ∃ n, n = ps.length := ⟨_, rfl⟩
  rw [← hn] at hl ⊢
  clear hn
  by_cases h0 : 0 ≤ z
  · have e1 : decide (0 ≤ z ∧ z < n) = decide (z < n) := by rw [decide_eq_decide]; omega
    rw [e1]
    clear e1
    go_enter Try.func27, Try.ntmps27
    go_wp2_with fail
    all_goals
      go_ret
      exact ⟨ret_b (by first | rfl | (simp; done) | (simp; omega)), (Below.refl _ _).alloc (Nat.le_refl _) _⟩
  · have h1 : z < 0 := by omega
    rw [decide_eq_false (by omega)]
    clear h0
    go_enter Try.func27, Try.ntmps27
    go_wp2_with fail
    go_ret
    exact ⟨rfl, (Below.refl _ _).alloc (Nat.le_refl _) _⟩
set_option maxHeartbeats 1000000 in
theorem is_any (P : PlanA) (L : PlanL) (z : Int) (w : World) (hl : P.2.2.1.length ≤ 140737488355328) :
    Calls Try.prog 17 #[planV P L, .int .i64 z] w fun e w' => e = .returned (.bool (isB P.2.2.1.length z)) ∧ Below w.heap.size w w' := by
  obtain ⟨fr, cs, ps, hs, rs⟩ := P
  obtain ⟨A1, c1, A2, c2, A3, c3, A4, c4⟩ := L
  simp only [planV, isB] at *
  obtain ⟨n, hn⟩ : ∃ n, n = ps.length := ⟨_, rfl⟩
  rw [← hn] at hl ⊢
  clear hn
  by_cases h0 : 0 ≤ z
  · have e1 : decide (0 ≤ z ∧ z < n) = decide (z < n) := by rw [decide_eq_decide]; omega
    rw [e1]
    clear e1
    go_enter Try.func17, Try.ntmps17
    go_wp2_with fail
    all_goals
      go_ret
      exact ⟨ret_b (by first | rfl | (simp; done) | (simp; omega)), (Below.refl _ _).alloc (Nat.le_refl _) _⟩
  · have h1 : z < 0 := by omega
    rw [decide_eq_false (by omega)]
    clear h0
    go_enter Try.func17, Try.ntmps17
    go_wp2_with fail
    go_ret
    exact ⟨rfl, (Below.refl _ _).alloc (Nat.le_refl _) _⟩
set_option maxHeartbeats 1000000 in
theorem named_any (P : PlanA) (L : PlanL) (w : World) (hl : P.2.2.1.length ≤ 140737488355328) :
    Calls Try.prog 41 #[planV P L] w fun e w' => e = .returned (.int .i64 (min P.2.2.1.length 256 : Nat)) ∧ Below w.heap.size w w' := by
  obtain ⟨fr, cs, ps, hs, rs⟩ := P
  obtain ⟨A1, c1, A2, c2, A3, c3, A4, c4⟩ := L
  simp only [planV] at *
  obtain ⟨n, hn⟩ : ∃ n, n = ps.length := ⟨_, rfl⟩
  rw [← hn] at hl ⊢
  clear hn
  go_enter Try.func41, Try.ntmps41
  go_wp2_with fail
  all_goals
    go_ret
    exact ⟨ret_i (by omega), (Below.refl _ _).alloc (Nat.le_refl _) _⟩

theorem pb_alloc2 (w : World) (fr : Int) (cs : List (List WinA)) (ps : List PartA) (hs : List ChanA) (rs : List PairA) (A1 : Option Addr) (c1 : Nat) (A2 : Option Addr) (c2 : Nat) (A3 : Option Addr) (c3 : Nat) (A4 : Option Addr) (c4 : Nat) (x0 x1 x2 x3 x4 x5 : Int) :
    Below w.heap.size w ((w.alloc (.cells #[.int .u16 fr, .slice A1 cs.length c1, .slice A2 ps.length c2, .slice A3 hs.length c3, .slice A4 rs.length c4] 28)).alloc (.cells #[.int .u8 x0, .int .u8 x1, .int .u8 x2, .int .u8 x3, .int .u8 x4, .int .u16 x5] 44)) := ((Below.refl _ _).alloc (Nat.le_refl _) _).alloc (by simp) _
set_option maxHeartbeats 4000000 in
theorem isBtw_any (P : PlanA) (L : PlanL) (c : ChanA) (w : World) (hl : P.2.2.1.length ≤ 140737488355328) (hc : WfChan c) :
    Calls Try.prog 40 #[planV P L, cv c] w fun e w' => e = .returned (.bool (btwB P.2.2.1.length c)) ∧ Below w.heap.size w w' := by
  have HI := Lib.hid (fun z W => isPart_any P L z W hl)
  obtain ⟨fr, cs, ps, hs, rs⟩ := P
  obtain ⟨A1, c1, A2, c2, A3, c3, A4, c4⟩ := L
  obtain ⟨x0, x1, x2, x3, x4, x5⟩ := c
  obtain ⟨-, ⟨f0, f1⟩, ⟨t0, t1⟩, -⟩ := hc
  have HB0 := Lib.hid (pb_alloc2 w fr cs ps hs rs A1 c1 A2 c2 A3 c3 A4 c4 x0 x1 x2 x3 x4 x5)
  have HPB := Lib.hid ((PB.new w fr cs ps hs rs A1 c1 A2 c2 A3 c3 A4 c4).alloc (.cells #[.int .u8 x0, .int .u8 x1, .int .u8 x2, .int .u8 x3, .int .u8 x4, .int .u16 x5] 44))
  have hcb := CB.new (w.alloc (.cells #[.int .u16 fr, .slice A1 cs.length c1, .slice A2 ps.length c2, .slice A3 hs.length c3, .slice A4 rs.length c4] 28)) x0 x1 x2 x3 x4 x5
  rw [show (w.alloc (.cells #[.int .u16 fr, .slice A1 cs.length c1, .slice A2 ps.length c2, .slice A3 hs.length c3, .slice A4 rs.length c4] 28)).heap.size = w.heap.size + 1 by simp] at hcb
  have HCB := Lib.hid hcb
  simp only [planV, cv, btwB] at *
  have HI1 := Lib.hid (fun W => HI.out x1 W)
  have HI2 := Lib.hid (fun W => HI.out x2 W)
  obtain ⟨q1, hq1⟩ : ∃ q, q = isB ps.length x1 := ⟨_, rfl⟩
  obtain ⟨q2, hq2⟩ : ∃ q, q = isB ps.length x2 := ⟨_, rfl⟩
  rw [← hq1] at HI1 ⊢
  rw [← hq2] at HI2 ⊢
  clear hq1 hq2 hl hcb HI
  cases q1
  · go_enter Try.func40, Try.ntmps40
    go_wp2_with fail
    refine (HI1.out _).mono ?_
    rintro e w1 ⟨rfl, hB⟩
    have HB1 := Lib.hid hB
    clear hB
    go_wp2_with fail
    go_ret
    exact ⟨rfl, below_two HB0.out HB1.out⟩
  · go_enter Try.func40, Try.ntmps40
    go_wp2_with fail
    refine (HI1.out _).mono ?_
    rintro e w1 ⟨rfl, hB⟩
    obtain ⟨k0, k1, k2, k3, k4⟩ := HPB.out.keep hB
    obtain ⟨m0, m1, m2, m3, m4, m5⟩ := HCB.out.keep hB
    dsimp only at k0 k1 k2 k3 k4 m0 m1 m2 m3 m4 m5
    have HB1 := Lib.hid hB
    clear hB
    go_wp2_with fail
    refine (HI2.out _).mono ?_
    rintro e w2 ⟨rfl, hB⟩
    have HB2 := Lib.hid hB
    clear hB k0 k1 k2 k3 k4 m0 m1 m2 m3 m4 m5
    go_wp2_with fail
    go_ret
    exact ⟨ret_b (by simp), below_two HB0.out (below_two HB1.out HB2.out)⟩
set_option maxHeartbeats 4000000 in
theorem right_any (P : PlanA) (L : PlanL) (c : ChanA) (w : World) (hl : P.2.2.1.length ≤ 140737488355328) (hc : WfChan c) :
    Calls Try.prog 20 #[planV P L, cv c] w fun e w' => e = .returned (.bool (btwB P.2.2.1.length c)) ∧ Below w.heap.size w w' := by
  have HI := Lib.hid (fun z W => is_any P L z W hl)
  obtain ⟨fr, cs, ps, hs, rs⟩ := P
  obtain ⟨A1, c1, A2, c2, A3, c3, A4, c4⟩ := L
  obtain ⟨x0, x1, x2, x3, x4, x5⟩ := c
  obtain ⟨-, ⟨f0, f1⟩, ⟨t0, t1⟩, -⟩ := hc
  have HB0 := Lib.hid (pb_alloc2 w fr cs ps hs rs A1 c1 A2 c2 A3 c3 A4 c4 x0 x1 x2 x3 x4 x5)
  have HPB := Lib.hid ((PB.new w fr cs ps hs rs A1 c1 A2 c2 A3 c3 A4 c4).alloc (.cells #[.int .u8 x0, .int .u8 x1, .int .u8 x2, .int .u8 x3, .int .u8 x4, .int .u16 x5] 44))
  have hcb := CB.new (w.alloc (.cells #[.int .u16 fr, .slice A1 cs.length c1, .slice A2 ps.length c2, .slice A3 hs.length c3, .slice A4 rs.length c4] 28)) x0 x1 x2 x3 x4 x5
  rw [show (w.alloc (.cells #[.int .u16 fr, .slice A1 cs.length c1, .slice A2 ps.length c2, .slice A3 hs.length c3, .slice A4 rs.length c4] 28)).heap.size = w.heap.size + 1 by simp] at hcb
  have HCB := Lib.hid hcb
  simp only [planV, cv, btwB] at *
  have HI1 := Lib.hid (fun W => HI.out x1 W)
  have HI2 := Lib.hid (fun W => HI.out x2 W)
  obtain ⟨q1, hq1⟩ : ∃ q, q = isB ps.length x1 := ⟨_, rfl⟩
  obtain ⟨q2, hq2⟩ : ∃ q, q = isB ps.length x2 := ⟨_, rfl⟩
  rw [← hq1] at HI1 ⊢
  rw [← hq2] at HI2 ⊢
  clear hq1 hq2 hl hcb HI
  cases q1
  · go_enter Try.func20, Try.ntmps20
    go_wp2_with fail
    refine (HI1.out _).mono ?_
    rintro e w1 ⟨rfl, hB⟩
    have HB1 := Lib.hid hB
    clear hB
    go_wp2_with fail
    go_ret
    exact ⟨rfl, below_two HB0.out HB1.out⟩
  · go_enter Try.func20, Try.ntmps20
    go_wp2_with fail
    refine (HI1.out _).mono ?_
    rintro e w1 ⟨rfl, hB⟩
    obtain ⟨k0, k1, k2, k3, k4⟩ := HPB.out.keep hB
    obtain ⟨m0, m1, m2, m3, m4, m5⟩ := HCB.out.keep hB
    dsimp only at k0 k1 k2 k3 k4 m0 m1 m2 m3 m4 m5
    have HB1 := Lib.hid hB
    clear hB
    go_wp2_with fail
    refine (HI2.out _).mono ?_
    rintro e w2 ⟨rfl, hB⟩
    have HB2 := Lib.hid hB
    clear hB k0 k1 k2 k3 k4 m0 m1 m2 m3 m4 m5
    go_wp2_with fail
    go_ret
    exact ⟨ret_b (by simp), below_two HB0.out (below_two HB1.out HB2.out)⟩
end Go.Proofs.Ytjiikhfeacgjjaa
