/-
  slices.Equal over windows, semaphores, numbers and channels.
-/
import Derived.Test.YtkgkjkghdllkhaaDoorEnc
import Derived.Laws.StructEq
import Derived.BigQuiet
import Derived.Deep.QuietTactic
namespace Go.Proofs.YtkgkjkghdllkhaaDoor
open Go.RowKit

theorem list_ext {α : Type} {l m : List α} (d : α) (hl : l.length = m.length) (h : ∀ j, j < l.length → l.getD j d = m.getD j d) : l = m := by
  apply List.ext_getElem hl
  intro i h1 h2
  have := h i h1
  rw [List.getD_eq_getElem?_getD, List.getD_eq_getElem?_getD, List.getElem?_eq_getElem h1, List.getElem?_eq_getElem h2] at this
  exact this
noncomputable def sameB {α : Type} (a b : α) : Bool := @decide (a = b) (Classical.propDecidable _)
theorem same_yes {α : Type} {a b : α} (h : a = b) : sameB a b = true := by unfold sameB; simp [h]
theorem same_no {α : Type} {a b : α} (h : a ≠ b) : sameB a b = false := by unfold sameB; simp [h]
theorem ret_same {α : Type} {a b : α} {x : Bool} (h : sameB a b = x) : Ending.returned (.bool x) = .returned (.bool (sameB a b)) := by rw [h]

theorem neq51 (a0 a1 a2 a3 b0 b1 b2 b3 : Int) (w : World) : (binOp .neq 51 (.agg #[.int .u16 a0, .int .u16 a1, .int .u8 a2, .int .u8 a3]) (.agg #[.int .u16 b0, .int .u16 b1, .int .u8 b2, .int .u8 b3])).run Tryd.prog w = .ok (.bool (!sameB (a0, a1, a2, a3) (b0, b1, b2, b3))) w := by
  have hS : Tryd.prog.underlying 51 = some (.struct (Tryd.prog.fieldsOf 51)) := by kernel_rfl
  have hp : Tryd.prog.stoodInHeld 51 = false := by kernel_rfl
  have u1 := Tryd.underlying22
  have u2 := Tryd.underlying5
  rw [run_neq_struct, show (10000 : Nat) = 9999 + 1 from rfl, run_equalIn_agg w 9999 51 _ _ hS hp]
  simp only [Program.fieldsOf, Tryd.underlying51]
  go_simp
  unfold sameB
  by_cases h0 : a0 = b0 <;> by_cases h1 : a1 = b1 <;> by_cases h2 : a2 = b2 <;> by_cases h3 : a3 = b3 <;> simp [h0, h1, h2, h3]
theorem neq58 (a0 a1 b0 b1 : Int) (w : World) : (binOp .neq 58 (.agg #[.int .u8 a0, .int .u8 a1]) (.agg #[.int .u8 b0, .int .u8 b1])).run Tryd.prog w = .ok (.bool (!sameB (a0, a1) (b0, b1))) w := by
  have hS : Tryd.prog.underlying 58 = some (.struct (Tryd.prog.fieldsOf 58)) := by kernel_rfl
  have hp : Tryd.prog.stoodInHeld 58 = false := by kernel_rfl
  have u2 := Tryd.underlying5
  rw [run_neq_struct, show (10000 : Nat) = 9999 + 1 from rfl, run_equalIn_agg w 9999 58 _ _ hS hp]
  simp only [Program.fieldsOf, Tryd.underlying58]
  go_simp
  unfold sameB
  by_cases h0 : a0 = b0 <;> by_cases h1 : a1 = b1 <;> simp [h0, h1]
theorem neq60 (a0 a1 a2 a3 a4 a5 b0 b1 b2 b3 b4 b5 : Int) (w : World) : (binOp .neq 60 (.agg #[.int .u8 a0, .int .u8 a1, .int .u8 a2, .int .u8 a3, .int .u8 a4, .int .u16 a5]) (.agg #[.int .u8 b0, .int .u8 b1, .int .u8 b2, .int .u8 b3, .int .u8 b4, .int .u16 b5])).run Tryd.prog w = .ok (.bool (!sameB (a0, a1, a2, a3, a4, a5) (b0, b1, b2, b3, b4, b5))) w := by
  have hS : Tryd.prog.underlying 60 = some (.struct (Tryd.prog.fieldsOf 60)) := by kernel_rfl
  have hp : Tryd.prog.stoodInHeld 60 = false := by kernel_rfl
  have u1 := Tryd.underlying22
  have u2 := Tryd.underlying5
  rw [run_neq_struct, show (10000 : Nat) = 9999 + 1 from rfl, run_equalIn_agg w 9999 60 _ _ hS hp]
  simp only [Program.fieldsOf, Tryd.underlying60]
  go_simp
  unfold sameB
  by_cases h0 : a0 = b0 <;> by_cases h1 : a1 = b1 <;> by_cases h2 : a2 = b2 <;> by_cases h3 : a3 = b3 <;> by_cases h4 : a4 = b4 <;> by_cases h5 : a5 = b5 <;> simp [h0, h1, h2, h3, h4, h5]
theorem neq62 (a0 a1 b0 b1 : Int) (w : World) : (binOp .neq 62 (.agg #[.int .u8 a0, .int .u8 a1]) (.agg #[.int .u8 b0, .int .u8 b1])).run Tryd.prog w = .ok (.bool (!sameB (a0, a1) (b0, b1))) w := by
  have hS : Tryd.prog.underlying 62 = some (.struct (Tryd.prog.fieldsOf 62)) := by kernel_rfl
  have hp : Tryd.prog.stoodInHeld 62 = false := by kernel_rfl
  have u2 := Tryd.underlying5
  rw [run_neq_struct, show (10000 : Nat) = 9999 + 1 from rfl, run_equalIn_agg w 9999 62 _ _ hS hp]
  simp only [Program.fieldsOf, Tryd.underlying62]
  go_simp
  unfold sameB
  by_cases h0 : a0 = b0 <;> by_cases h1 : a1 = b1 <;> simp [h0, h1]

def EqRel_win (w : World) (ws vs : List WinA) (i : Value) (wr : World) : Prop :=
  ∃ k : Nat, k ≤ ws.length ∧ i = .int .i64 k ∧ (∀ j, j < k → ws.getD j dW = vs.getD j dW) ∧ Below w.heap.size w wr
set_option maxHeartbeats 4000000 in
set_option maxRecDepth 100000 in
theorem equal_win (A A2 : Option Addr) (c c2 : Nat) (ws vs : List WinA) (w : World) (hA : WinsAt w A ws) (hA2 : WinsAt w A2 vs) (hn : ws.length ≤ 1000000) :
    Calls Tryd.prog 45 #[.slice A ws.length c, .slice A2 vs.length c2] w fun e w' => e = .returned (.bool (sameB ws vs)) ∧ Below w.heap.size w w' := by
  by_cases hl : ws.length = vs.length
  · have HA := Lib.hid hA
    have HA2 := Lib.hid hA2
    have HL := Lib.hid hl
    rw [← hl]
    clear hA hA2 hl
    obtain ⟨n, hnn⟩ : ∃ n, n = ws.length := ⟨_, rfl⟩
    rw [← hnn] at hn ⊢
    have HN := Lib.hid hnn
    clear hnn
    go_enter Tryd.func45, Tryd.ntmps45
    go_wp2_with fail
    go_loopw [13] (fun i wr => EqRel_win w ws vs i wr) (fun i _ => n - (intOf i).toNat)
    case atStart => exact ⟨0, Nat.zero_le _, rfl, fun j hj => by omega, Below.refl _ _⟩
    case round =>
      obtain ⟨k, hk, rfl, hj, hB⟩ := hrel
      rw [← HN.out] at hk
      have HJ := Lib.hid hj
      have HB := Lib.hid hB
      by_cases hlt : k < n
      · have hlw : k < ws.length := by rw [← HN.out]; exact hlt
        have hlv : k < vs.length := by rw [← HL.out]; exact hlw
        obtain ⟨b, o, rfl⟩ := Arr.head HA.out hlw
        obtain ⟨b2, o2, rfl⟩ := Arr.head HA2.out hlv
        obtain ⟨⟨x0, x1, x2, x3⟩, hx⟩ : ∃ x, x = ws.getD k dW := ⟨_, rfl⟩
        obtain ⟨⟨y0, y1, y2, y3⟩, hy⟩ : ∃ x, x = vs.getD k dW := ⟨_, rfl⟩
        have c0 := Arr.at (j := 0) (Arr.keep HA.out HB.out) hlw rfl
        have e0 := Arr.at (j := 0) (Arr.keep HA2.out HB.out) hlv rfl
        have c1 := Arr.at (j := 1) (Arr.keep HA.out HB.out) hlw rfl
        have e1 := Arr.at (j := 1) (Arr.keep HA2.out HB.out) hlv rfl
        have c2 := Arr.at (j := 2) (Arr.keep HA.out HB.out) hlw rfl
        have e2 := Arr.at (j := 2) (Arr.keep HA2.out HB.out) hlv rfl
        have c3 := Arr.at (j := 3) (Arr.keep HA.out HB.out) hlw rfl
        have e3 := Arr.at (j := 3) (Arr.keep HA2.out HB.out) hlv rfl
        simp only [← hx, ← hy, Nat.add_zero] at c0 e0 c1 e1 c2 e2 c3 e3
        have HX := Lib.hid hx
        have HY := Lib.hid hy
        have p0 : (0 : Int) ≤ (k : Int) := Int.natCast_nonneg _
        have p1 : (k : Int) < (n : Int) := by omega
        have hne := fun W => neq51 x0 x1 x2 x3 y0 y1 y2 y3 W
        clear hj hB hx hy hlw hlv
        by_cases he : (x0, x1, x2, x3) = (y0, y1, y2, y3)
        · have HE := Lib.hid he
          have hse := same_yes he
          clear he
          go_wp2_with fail
          go_quiet (fail)
          go_wp2_with fail
          go_roundw
          case rel => exact ⟨k + 1, by rw [← HN.out]; omega, by go_num, fun j hj => (by
            rcases Nat.lt_or_ge j k with h | h
            · exact HJ.out j h
            · obtain rfl : j = k := by omega
              rw [← HX.out, ← HY.out]; exact HE.out), below_drewN HB.out _⟩
          case measure => simp [intOf]; omega
        · have HE := Lib.hid he
          have hse := same_no he
          clear he
          go_wp2_with fail
          go_quiet (fail)
          go_wp2_with fail
          go_ret
          refine ⟨ret_same (same_no fun e => HE.out ?_), below_drewN HB.out _⟩
          rw [HX.out, HY.out, e]
      · have hk' : k = n := by omega
        subst hk'
        clear hj hB
        go_wp2_with fail
        go_ret
        exact ⟨ret_same (same_yes (list_ext dW HL.out (by rw [← HN.out]; exact HJ.out))), HB.out⟩
  · have HL := Lib.hid hl
    have hb : ((ws.length : Int) != (vs.length : Int)) = true := by simp; omega
    clear hA hA2
    obtain ⟨n, hnn⟩ : ∃ n, n = ws.length := ⟨_, rfl⟩
    obtain ⟨m, hm⟩ : ∃ m, m = vs.length := ⟨_, rfl⟩
    rw [← hnn, ← hm] at hb
    rw [← hnn, ← hm]
    clear hnn hm hl hn
    go_enter Tryd.func45, Tryd.ntmps45
    go_wp2_with fail
    go_ret
    exact ⟨ret_same (same_no fun e => HL.out (by rw [e])), Below.refl _ _⟩

def EqRel_sem (w : World) (ws vs : List SemA) (i : Value) (wr : World) : Prop :=
  ∃ k : Nat, k ≤ ws.length ∧ i = .int .i64 k ∧ (∀ j, j < k → ws.getD j dS = vs.getD j dS) ∧ Below w.heap.size w wr
set_option maxHeartbeats 4000000 in
set_option maxRecDepth 100000 in
theorem equal_sem (A A2 : Option Addr) (c c2 : Nat) (ws vs : List SemA) (w : World) (hA : SemsAt w A ws) (hA2 : SemsAt w A2 vs) (hn : ws.length ≤ 1000000) :
    Calls Tryd.prog 72 #[.slice A ws.length c, .slice A2 vs.length c2] w fun e w' => e = .returned (.bool (sameB ws vs)) ∧ Below w.heap.size w w' := by
  by_cases hl : ws.length = vs.length
  · have HA := Lib.hid hA
    have HA2 := Lib.hid hA2
    have HL := Lib.hid hl
    rw [← hl]
    clear hA hA2 hl
    obtain ⟨n, hnn⟩ : ∃ n, n = ws.length := ⟨_, rfl⟩
    rw [← hnn] at hn ⊢
    have HN := Lib.hid hnn
    clear hnn
    go_enter Tryd.func72, Tryd.ntmps72
    go_wp2_with fail
    go_loopw [13] (fun i wr => EqRel_sem w ws vs i wr) (fun i _ => n - (intOf i).toNat)
    case atStart => exact ⟨0, Nat.zero_le _, rfl, fun j hj => by omega, Below.refl _ _⟩
    case round =>
      obtain ⟨k, hk, rfl, hj, hB⟩ := hrel
      rw [← HN.out] at hk
      have HJ := Lib.hid hj
      have HB := Lib.hid hB
      by_cases hlt : k < n
      · have hlw : k < ws.length := by rw [← HN.out]; exact hlt
        have hlv : k < vs.length := by rw [← HL.out]; exact hlw
        obtain ⟨b, o, rfl⟩ := Arr.head HA.out hlw
        obtain ⟨b2, o2, rfl⟩ := Arr.head HA2.out hlv
        obtain ⟨⟨x0, x1⟩, hx⟩ : ∃ x, x = ws.getD k dS := ⟨_, rfl⟩
        obtain ⟨⟨y0, y1⟩, hy⟩ : ∃ x, x = vs.getD k dS := ⟨_, rfl⟩
        have c0 := Arr.at (j := 0) (Arr.keep HA.out HB.out) hlw rfl
        have e0 := Arr.at (j := 0) (Arr.keep HA2.out HB.out) hlv rfl
        have c1 := Arr.at (j := 1) (Arr.keep HA.out HB.out) hlw rfl
        have e1 := Arr.at (j := 1) (Arr.keep HA2.out HB.out) hlv rfl
        simp only [← hx, ← hy, Nat.add_zero] at c0 e0 c1 e1
        have HX := Lib.hid hx
        have HY := Lib.hid hy
        have p0 : (0 : Int) ≤ (k : Int) := Int.natCast_nonneg _
        have p1 : (k : Int) < (n : Int) := by omega
        have hne := fun W => neq58 x0 x1 y0 y1 W
        clear hj hB hx hy hlw hlv
        by_cases he : (x0, x1) = (y0, y1)
        · have HE := Lib.hid he
          have hse := same_yes he
          clear he
          go_wp2_with fail
          go_quiet (fail)
          go_wp2_with fail
          go_roundw
          case rel => exact ⟨k + 1, by rw [← HN.out]; omega, by go_num, fun j hj => (by
            rcases Nat.lt_or_ge j k with h | h
            · exact HJ.out j h
            · obtain rfl : j = k := by omega
              rw [← HX.out, ← HY.out]; exact HE.out), below_drewN HB.out _⟩
          case measure => simp [intOf]; omega
        · have HE := Lib.hid he
          have hse := same_no he
          clear he
          go_wp2_with fail
          go_quiet (fail)
          go_wp2_with fail
          go_ret
          refine ⟨ret_same (same_no fun e => HE.out ?_), below_drewN HB.out _⟩
          rw [HX.out, HY.out, e]
      · have hk' : k = n := by omega
        subst hk'
        clear hj hB
        go_wp2_with fail
        go_ret
        exact ⟨ret_same (same_yes (list_ext dS HL.out (by rw [← HN.out]; exact HJ.out))), HB.out⟩
  · have HL := Lib.hid hl
    have hb : ((ws.length : Int) != (vs.length : Int)) = true := by simp; omega
    clear hA hA2
    obtain ⟨n, hnn⟩ : ∃ n, n = ws.length := ⟨_, rfl⟩
    obtain ⟨m, hm⟩ : ∃ m, m = vs.length := ⟨_, rfl⟩
    rw [← hnn, ← hm] at hb
    rw [← hnn, ← hm]
    clear hnn hm hl hn
    go_enter Tryd.func72, Tryd.ntmps72
    go_wp2_with fail
    go_ret
    exact ⟨ret_same (same_no fun e => HL.out (by rw [e])), Below.refl _ _⟩

def EqRel_byt (w : World) (ws vs : List Int) (i : Value) (wr : World) : Prop :=
  ∃ k : Nat, k ≤ ws.length ∧ i = .int .i64 k ∧ (∀ j, j < k → ws.getD j 0 = vs.getD j 0) ∧ Below w.heap.size w wr
set_option maxHeartbeats 4000000 in
set_option maxRecDepth 100000 in
theorem equal_byt (A A2 : Option Addr) (c c2 : Nat) (ws vs : List Int) (w : World) (hA : BytesAt w A ws) (hA2 : BytesAt w A2 vs) (hn : ws.length ≤ 1000000) :
    Calls Tryd.prog 73 #[.slice A ws.length c, .slice A2 vs.length c2] w fun e w' => e = .returned (.bool (sameB ws vs)) ∧ Below w.heap.size w w' := by
  by_cases hl : ws.length = vs.length
  · have HA := Lib.hid hA
    have HA2 := Lib.hid hA2
    have HL := Lib.hid hl
    rw [← hl]
    clear hA hA2 hl
    obtain ⟨n, hnn⟩ : ∃ n, n = ws.length := ⟨_, rfl⟩
    rw [← hnn] at hn ⊢
    have HN := Lib.hid hnn
    clear hnn
    go_enter Tryd.func73, Tryd.ntmps73
    go_wp2_with fail
    go_loopw [13] (fun i wr => EqRel_byt w ws vs i wr) (fun i _ => n - (intOf i).toNat)
    case atStart => exact ⟨0, Nat.zero_le _, rfl, fun j hj => by omega, Below.refl _ _⟩
    case round =>
      obtain ⟨k, hk, rfl, hj, hB⟩ := hrel
      rw [← HN.out] at hk
      have HJ := Lib.hid hj
      have HB := Lib.hid hB
      by_cases hlt : k < n
      · have hlw : k < ws.length := by rw [← HN.out]; exact hlt
        have hlv : k < vs.length := by rw [← HL.out]; exact hlw
        obtain ⟨b, o, rfl⟩ := Arr.head HA.out hlw
        obtain ⟨b2, o2, rfl⟩ := Arr.head HA2.out hlv
        obtain ⟨x0, hx⟩ : ∃ x, x = ws.getD k 0 := ⟨_, rfl⟩
        obtain ⟨y0, hy⟩ : ∃ x, x = vs.getD k 0 := ⟨_, rfl⟩
        have c0 := Arr.at (j := 0) (Arr.keep HA.out HB.out) hlw rfl
        have e0 := Arr.at (j := 0) (Arr.keep HA2.out HB.out) hlv rfl
        simp only [bV, ← hx, ← hy, Nat.add_zero, Nat.mul_one] at c0 e0
        have HX := Lib.hid hx
        have HY := Lib.hid hy
        have p0 : (0 : Int) ≤ (k : Int) := Int.natCast_nonneg _
        have p1 : (k : Int) < (n : Int) := by omega
        clear hj hB hx hy hlw hlv
        by_cases he : x0 = y0
        · have HE := Lib.hid he
          have hse : ((x0 : Int) != y0) = false := by simp [he]
          clear he
          go_wp2_with fail
          go_quiet (fail)
          go_wp2_with fail
          go_roundw
          case rel => exact ⟨k + 1, by rw [← HN.out]; omega, by go_num, fun j hj => (by
            rcases Nat.lt_or_ge j k with h | h
            · exact HJ.out j h
            · obtain rfl : j = k := by omega
              rw [← HX.out, ← HY.out]; exact HE.out), below_drewN HB.out _⟩
          case measure => simp [intOf]; omega
        · have HE := Lib.hid he
          have hse : ((x0 : Int) != y0) = true := by simp [he]
          clear he
          go_wp2_with fail
          go_quiet (fail)
          go_wp2_with fail
          go_ret
          refine ⟨ret_same (same_no fun e => HE.out ?_), below_drewN HB.out _⟩
          rw [HX.out, HY.out, e]
      · have hk' : k = n := by omega
        subst hk'
        clear hj hB
        go_wp2_with fail
        go_ret
        exact ⟨ret_same (same_yes (list_ext 0 HL.out (by rw [← HN.out]; exact HJ.out))), HB.out⟩
  · have HL := Lib.hid hl
    have hb : ((ws.length : Int) != (vs.length : Int)) = true := by simp; omega
    clear hA hA2
    obtain ⟨n, hnn⟩ : ∃ n, n = ws.length := ⟨_, rfl⟩
    obtain ⟨m, hm⟩ : ∃ m, m = vs.length := ⟨_, rfl⟩
    rw [← hnn, ← hm] at hb
    rw [← hnn, ← hm]
    clear hnn hm hl hn
    go_enter Tryd.func73, Tryd.ntmps73
    go_wp2_with fail
    go_ret
    exact ⟨ret_same (same_no fun e => HL.out (by rw [e])), Below.refl _ _⟩

def EqRel_chan (w : World) (ws vs : List ChanA) (i : Value) (wr : World) : Prop :=
  ∃ k : Nat, k ≤ ws.length ∧ i = .int .i64 k ∧ (∀ j, j < k → ws.getD j dC = vs.getD j dC) ∧ Below w.heap.size w wr
set_option maxHeartbeats 4000000 in
set_option maxRecDepth 100000 in
theorem equal_chan (A A2 : Option Addr) (c c2 : Nat) (ws vs : List ChanA) (w : World) (hA : ChansAt w A ws) (hA2 : ChansAt w A2 vs) (hn : ws.length ≤ 1000000) :
    Calls Tryd.prog 48 #[.slice A ws.length c, .slice A2 vs.length c2] w fun e w' => e = .returned (.bool (sameB ws vs)) ∧ Below w.heap.size w w' := by
  by_cases hl : ws.length = vs.length
  · have HA := Lib.hid hA
    have HA2 := Lib.hid hA2
    have HL := Lib.hid hl
    rw [← hl]
    clear hA hA2 hl
    obtain ⟨n, hnn⟩ : ∃ n, n = ws.length := ⟨_, rfl⟩
    rw [← hnn] at hn ⊢
    have HN := Lib.hid hnn
    clear hnn
    go_enter Tryd.func48, Tryd.ntmps48
    go_wp2_with fail
    go_loopw [13] (fun i wr => EqRel_chan w ws vs i wr) (fun i _ => n - (intOf i).toNat)
    case atStart => exact ⟨0, Nat.zero_le _, rfl, fun j hj => by omega, Below.refl _ _⟩
    case round =>
      obtain ⟨k, hk, rfl, hj, hB⟩ := hrel
      rw [← HN.out] at hk
      have HJ := Lib.hid hj
      have HB := Lib.hid hB
      by_cases hlt : k < n
      · have hlw : k < ws.length := by rw [← HN.out]; exact hlt
        have hlv : k < vs.length := by rw [← HL.out]; exact hlw
        obtain ⟨b, o, rfl⟩ := Arr.head HA.out hlw
        obtain ⟨b2, o2, rfl⟩ := Arr.head HA2.out hlv
        obtain ⟨⟨x0, x1, x2, x3, x4, x5⟩, hx⟩ : ∃ x, x = ws.getD k dC := ⟨_, rfl⟩
        obtain ⟨⟨y0, y1, y2, y3, y4, y5⟩, hy⟩ : ∃ x, x = vs.getD k dC := ⟨_, rfl⟩
        have c0 := Arr.at (j := 0) (Arr.keep HA.out HB.out) hlw rfl
        have e0 := Arr.at (j := 0) (Arr.keep HA2.out HB.out) hlv rfl
        have c1 := Arr.at (j := 1) (Arr.keep HA.out HB.out) hlw rfl
        have e1 := Arr.at (j := 1) (Arr.keep HA2.out HB.out) hlv rfl
        have c2 := Arr.at (j := 2) (Arr.keep HA.out HB.out) hlw rfl
        have e2 := Arr.at (j := 2) (Arr.keep HA2.out HB.out) hlv rfl
        have c3 := Arr.at (j := 3) (Arr.keep HA.out HB.out) hlw rfl
        have e3 := Arr.at (j := 3) (Arr.keep HA2.out HB.out) hlv rfl
        have c4 := Arr.at (j := 4) (Arr.keep HA.out HB.out) hlw rfl
        have e4 := Arr.at (j := 4) (Arr.keep HA2.out HB.out) hlv rfl
        have c5 := Arr.at (j := 5) (Arr.keep HA.out HB.out) hlw rfl
        have e5 := Arr.at (j := 5) (Arr.keep HA2.out HB.out) hlv rfl
        simp only [← hx, ← hy, Nat.add_zero] at c0 e0 c1 e1 c2 e2 c3 e3 c4 e4 c5 e5
        have HX := Lib.hid hx
        have HY := Lib.hid hy
        have p0 : (0 : Int) ≤ (k : Int) := Int.natCast_nonneg _
        have p1 : (k : Int) < (n : Int) := by omega
        have hne := fun W => neq60 x0 x1 x2 x3 x4 x5 y0 y1 y2 y3 y4 y5 W
        clear hj hB hx hy hlw hlv
        by_cases he : (x0, x1, x2, x3, x4, x5) = (y0, y1, y2, y3, y4, y5)
        · have HE := Lib.hid he
          have hse := same_yes he
          clear he
          go_wp2_with fail
          go_quiet (fail)
          go_wp2_with fail
          go_roundw
          case rel => exact ⟨k + 1, by rw [← HN.out]; omega, by go_num, fun j hj => (by
            rcases Nat.lt_or_ge j k with h | h
            · exact HJ.out j h
            · obtain rfl : j = k := by omega
              rw [← HX.out, ← HY.out]; exact HE.out), below_drewN HB.out _⟩
          case measure => simp [intOf]; omega
        · have HE := Lib.hid he
          have hse := same_no he
          clear he
          go_wp2_with fail
          go_quiet (fail)
          go_wp2_with fail
          go_ret
          refine ⟨ret_same (same_no fun e => HE.out ?_), below_drewN HB.out _⟩
          rw [HX.out, HY.out, e]
      · have hk' : k = n := by omega
        subst hk'
        clear hj hB
        go_wp2_with fail
        go_ret
        exact ⟨ret_same (same_yes (list_ext dC HL.out (by rw [← HN.out]; exact HJ.out))), HB.out⟩
  · have HL := Lib.hid hl
    have hb : ((ws.length : Int) != (vs.length : Int)) = true := by simp; omega
    clear hA hA2
    obtain ⟨n, hnn⟩ : ∃ n, n = ws.length := ⟨_, rfl⟩
    obtain ⟨m, hm⟩ : ∃ m, m = vs.length := ⟨_, rfl⟩
    rw [← hnn, ← hm] at hb
    rw [← hnn, ← hm]
    clear hnn hm hl hn
    go_enter Tryd.func48, Tryd.ntmps48
    go_wp2_with fail
    go_ret
    exact ⟨ret_same (same_no fun e => HL.out (by rw [e])), Below.refl _ _⟩

def EqRel_pair (w : World) (ws vs : List PairA) (i : Value) (wr : World) : Prop :=
  ∃ k : Nat, k ≤ ws.length ∧ i = .int .i64 k ∧ (∀ j, j < k → ws.getD j dS = vs.getD j dS) ∧ Below w.heap.size w wr
set_option maxHeartbeats 4000000 in
set_option maxRecDepth 100000 in
theorem equal_pair (A A2 : Option Addr) (c c2 : Nat) (ws vs : List PairA) (w : World) (hA : SemsAt w A ws) (hA2 : SemsAt w A2 vs) (hn : ws.length ≤ 1000000) :
    Calls Tryd.prog 49 #[.slice A ws.length c, .slice A2 vs.length c2] w fun e w' => e = .returned (.bool (sameB ws vs)) ∧ Below w.heap.size w w' := by
  by_cases hl : ws.length = vs.length
  · have HA := Lib.hid hA
    have HA2 := Lib.hid hA2
    have HL := Lib.hid hl
    rw [← hl]
    clear hA hA2 hl
    obtain ⟨n, hnn⟩ : ∃ n, n = ws.length := ⟨_, rfl⟩
    rw [← hnn] at hn ⊢
    have HN := Lib.hid hnn
    clear hnn
    go_enter Tryd.func49, Tryd.ntmps49
    go_wp2_with fail
    go_loopw [13] (fun i wr => EqRel_pair w ws vs i wr) (fun i _ => n - (intOf i).toNat)
    case atStart => exact ⟨0, Nat.zero_le _, rfl, fun j hj => by omega, Below.refl _ _⟩
    case round =>
      obtain ⟨k, hk, rfl, hj, hB⟩ := hrel
      rw [← HN.out] at hk
      have HJ := Lib.hid hj
      have HB := Lib.hid hB
      by_cases hlt : k < n
      · have hlw : k < ws.length := by rw [← HN.out]; exact hlt
        have hlv : k < vs.length := by rw [← HL.out]; exact hlw
        obtain ⟨b, o, rfl⟩ := Arr.head HA.out hlw
        obtain ⟨b2, o2, rfl⟩ := Arr.head HA2.out hlv
        obtain ⟨⟨x0, x1⟩, hx⟩ : ∃ x, x = ws.getD k dS := ⟨_, rfl⟩
        obtain ⟨⟨y0, y1⟩, hy⟩ : ∃ x, x = vs.getD k dS := ⟨_, rfl⟩
        have c0 := Arr.at (j := 0) (Arr.keep HA.out HB.out) hlw rfl
        have e0 := Arr.at (j := 0) (Arr.keep HA2.out HB.out) hlv rfl
        have c1 := Arr.at (j := 1) (Arr.keep HA.out HB.out) hlw rfl
        have e1 := Arr.at (j := 1) (Arr.keep HA2.out HB.out) hlv rfl
        simp only [← hx, ← hy, Nat.add_zero] at c0 e0 c1 e1
        have HX := Lib.hid hx
        have HY := Lib.hid hy
        have p0 : (0 : Int) ≤ (k : Int) := Int.natCast_nonneg _
        have p1 : (k : Int) < (n : Int) := by omega
        have hne := fun W => neq62 x0 x1 y0 y1 W
        clear hj hB hx hy hlw hlv
        by_cases he : (x0, x1) = (y0, y1)
        · have HE := Lib.hid he
          have hse := same_yes he
          clear he
          go_wp2_with fail
          go_quiet (fail)
          go_wp2_with fail
          go_roundw
          case rel => exact ⟨k + 1, by rw [← HN.out]; omega, by go_num, fun j hj => (by
            rcases Nat.lt_or_ge j k with h | h
            · exact HJ.out j h
            · obtain rfl : j = k := by omega
              rw [← HX.out, ← HY.out]; exact HE.out), below_drewN HB.out _⟩
          case measure => simp [intOf]; omega
        · have HE := Lib.hid he
          have hse := same_no he
          clear he
          go_wp2_with fail
          go_quiet (fail)
          go_wp2_with fail
          go_ret
          refine ⟨ret_same (same_no fun e => HE.out ?_), below_drewN HB.out _⟩
          rw [HX.out, HY.out, e]
      · have hk' : k = n := by omega
        subst hk'
        clear hj hB
        go_wp2_with fail
        go_ret
        exact ⟨ret_same (same_yes (list_ext dS HL.out (by rw [← HN.out]; exact HJ.out))), HB.out⟩
  · have HL := Lib.hid hl
    have hb : ((ws.length : Int) != (vs.length : Int)) = true := by simp; omega
    clear hA hA2
    obtain ⟨n, hnn⟩ : ∃ n, n = ws.length := ⟨_, rfl⟩
    obtain ⟨m, hm⟩ : ∃ m, m = vs.length := ⟨_, rfl⟩
    rw [← hnn, ← hm] at hb
    rw [← hnn, ← hm]
    clear hnn hm hl hn
    go_enter Tryd.func49, Tryd.ntmps49
    go_wp2_with fail
    go_ret
    exact ⟨ret_same (same_no fun e => HL.out (by rw [e])), Below.refl _ _⟩
end Go.Proofs.YtkgkjkghdllkhaaDoor
