/-
  paths.Ends and Excludes; the document's Excludes.
-/
import Derived.Test.YtjiikhfeacgjjaaWhereW
namespace Go.Proofs.Ytjiikhfeacgjjaa
open Go.RowKit

theorem enters33 : Enters 33 := enters_of Try.func33 (by kernel_rfl) rfl
theorem enters34 : Enters 34 := enters_of Try.func34 (by kernel_rfl) rfl
theorem enters36 : Enters 36 := enters_of Try.func36 (by kernel_rfl) rfl
def toB (z : Int) (c : ChanA) : Bool := decide (c.2.2.1 = z)
def fromB (z : Int) (c : ChanA) : Bool := decide (c.2.1 = z)
set_option maxHeartbeats 1000000 in
theorem closure33 (bp : Nat) (z : Int) (c : ChanA) (W : World) (hb : W.cell? ⟨bp, 0, none⟩ = some (.int .i64 z)) (hc : byte c.2.1 ∧ byte c.2.2.1) :
    Calls Try.prog 33 (#[cv c] ++ #[.pointer (some ⟨bp, 0, none⟩)]) W fun e w' => e = .returned (.bool (toB z c)) ∧ Below W.heap.size W w' := by
  obtain ⟨x0, x1, x2, x3, x4, x5⟩ := c
  obtain ⟨⟨f0, f1⟩, t0, t1⟩ := hc
  dsimp only at f0 f1 t0 t1
  simp only [cv, toB]
  have k0 := kept hb ((Below.refl _ _).alloc (Nat.le_refl _) (.cells #[.int .u8 x0, .int .u8 x1, .int .u8 x2, .int .u8 x3, .int .u8 x4, .int .u16 x5] 44))
  go_enter Try.func33, Try.ntmps33
  go_wp2_with fail
  go_ret
  exact ⟨ret_b (by first | rfl | (simp; done) | exact beq_eq_decide ..), (Below.refl _ _).alloc (Nat.le_refl _) _⟩
set_option maxHeartbeats 1000000 in
theorem closure34 (bp : Nat) (z : Int) (c : ChanA) (W : World) (hb : W.cell? ⟨bp, 0, none⟩ = some (.int .i64 z)) (hc : byte c.2.1 ∧ byte c.2.2.1) :
    Calls Try.prog 34 (#[cv c] ++ #[.pointer (some ⟨bp, 0, none⟩)]) W fun e w' => e = .returned (.bool (fromB z c)) ∧ Below W.heap.size W w' := by
  obtain ⟨x0, x1, x2, x3, x4, x5⟩ := c
  obtain ⟨⟨f0, f1⟩, t0, t1⟩ := hc
  dsimp only at f0 f1 t0 t1
  simp only [cv, fromB]
  have k0 := kept hb ((Below.refl _ _).alloc (Nat.le_refl _) (.cells #[.int .u8 x0, .int .u8 x1, .int .u8 x2, .int .u8 x3, .int .u8 x4, .int .u16 x5] 44))
  go_enter Try.func34, Try.ntmps34
  go_wp2_with fail
  go_ret
  exact ⟨ret_b (by first | rfl | (simp; done) | exact beq_eq_decide ..), (Below.refl _ _).alloc (Nat.le_refl _) _⟩

def EndsP (N : Nat) (hs : List ChanA) (z : Int) (w : World) (e : Ending) (w' : World) : Prop :=
  ∃ A c B d, e = .returned (.tuple #[.slice A (whL N (toB z) hs hs.length).length c, .slice B (whL N (fromB z) hs hs.length).length d]) ∧ Nums w' A (whL N (toB z) hs hs.length).length (fun i => ((whL N (toB z) hs hs.length).getD i 0 : Nat)) ∧ Nums w' B (whL N (fromB z) hs hs.length).length (fun i => ((whL N (fromB z) hs hs.length).getD i 0 : Nat)) ∧ Below w.heap.size w w'
set_option maxHeartbeats 4000000 in
set_option maxRecDepth 100000 in
theorem ends_any (P : PlanA) (L : PlanL) (z : Int) (w : World) (hP : PlanAt w P L) (hw : WfPlan P) (hl : P.2.2.1.length ≤ 140737488355328) (hl3 : P.2.2.2.1.length ≤ 1000) :
    Calls Try.prog 19 #[planV P L, .int .i64 z] w fun e w' => EndsP P.2.2.1.length P.2.2.2.1 z w e w' := by
  have HWH := Lib.hid (fun K cap f W hP hK hc => where_any P L K cap f W hP hw hl hl3 hK hc)
  have HP := Lib.hid hP
  obtain ⟨fr, cs, ps, hs, rs⟩ := P
  obtain ⟨A1, c1, A2, c2, A3, c3, A4, c4⟩ := L
  simp only [planV] at *
  obtain ⟨w0, hw0⟩ : ∃ w0, w0 = (w.alloc (.cells #[.int .u16 fr, .slice A1 cs.length c1, .slice A2 ps.length c2, .slice A3 hs.length c3, .slice A4 rs.length c4] 28)).alloc (.cells #[.int .i64 z] 3) := ⟨_, rfl⟩
  have hb0 : Below w.heap.size w w0 := by rw [hw0]; exact ((Below.refl _ _).alloc (Nat.le_refl _) _).alloc (by simp) _
  have hpb : PBn w0 w.heap.size fr A1 cs.length c1 A2 ps.length c2 A3 hs.length c3 A4 rs.length c4 := by rw [hw0]; exact (PBn.new w fr A1 cs.length c1 A2 ps.length c2 A3 hs.length c3 A4 rs.length c4).alloc _
  have hz : w0.cell? ⟨w.heap.size + 1, 0, none⟩ = some (.int .i64 z) := by rw [hw0, World.cell?_alloc_at _ _ _ _ (by simp)]; rfl
  have HPB := Lib.hid hpb
  have HB0 := Lib.hid hb0
  have HZ := Lib.hid hz
  have HW0 := Lib.hid hw0
  have H1 := Lib.hid (HWH.out 33 #[.pointer (some ⟨w.heap.size + 1, 0, none⟩)] (toB z) w0 (hP.keep hb0) enters33 fun c W hw hB => closure33 (w.heap.size + 1) z c W (kept hz hB) ⟨hw.2.1, hw.2.2.1⟩)
  clear hP hw hl hl3 hw0 hb0 hpb hz
  go_enter Try.func19, Try.ntmps19
  go_wp2_with fail
  rw [← HW0.out]
  refine H1.out.mono ?_
  rintro e w1 ⟨A, c, rfl, h1, hB⟩
  obtain ⟨k0, k1, k2, k3, k4⟩ := HPB.out.keep hB
  have HB1 := Lib.hid (below_two HB0.out hB)
  have HN1 := Lib.hid h1
  have H2 := Lib.hid (HWH.out 34 #[.pointer (some ⟨w.heap.size + 1, 0, none⟩)] (fromB z) w1 (HP.out.keep HB1.out) enters34 fun c W hw hB2 => closure34 (w.heap.size + 1) z c W (kept HZ.out (below_two hB hB2)) ⟨hw.2.1, hw.2.2.1⟩)
  clear h1 hB
  go_wp2_with fail
  refine H2.out.mono ?_
  rintro e w2 ⟨B, d, rfl, h2, hB⟩
  have HF : Hid (EndsP ps.length hs z w (.returned (.tuple #[.slice A (whL ps.length (toB z) hs hs.length).length c, .slice B (whL ps.length (fromB z) hs hs.length).length d])) w2) := ⟨A, c, B, d, rfl, Arr.keep HN1.out hB, h2, below_two HB1.out hB⟩
  clear h2 hB k0 k1 k2 k3 k4
  go_wp2_with fail
  go_ret2
  exact HF.out

/-! ### pairs -/
def pairB (a b : Int) (r : PairA) : Bool := (decide (r.1 = a) && decide (r.2 = b)) || (decide (r.1 = b) && decide (r.2 = a))
theorem pairB_yes {a b x y : Int} (h : (x = a ∧ y = b) ∨ (x = b ∧ y = a)) : pairB a b (x, y) = true := by unfold pairB; simpa using h
theorem pairB_no {a b x y : Int} (h : ¬ ((x = a ∧ y = b) ∨ (x = b ∧ y = a))) : pairB a b (x, y) = false := by
  have : ¬ pairB a b (x, y) = true := fun e => h (by unfold pairB at e; simpa using e)
  simpa using this
set_option maxHeartbeats 4000000 in
theorem closure36 (pa pb : Nat) (a b : Int) (r : PairA) (W : World) (ha : W.cell? ⟨pa, 0, none⟩ = some (.int .i64 a)) (hb : W.cell? ⟨pb, 0, none⟩ = some (.int .i64 b)) (hr : WfPair r) :
    Calls Try.prog 36 (#[sv r] ++ #[.pointer (some ⟨pa, 0, none⟩), .pointer (some ⟨pb, 0, none⟩)]) W fun e w' => e = .returned (.bool (pairB a b r)) ∧ Below W.heap.size W w' := by
  obtain ⟨x, y⟩ := r
  obtain ⟨⟨f0, f1⟩, t0, t1⟩ := hr
  dsimp only at f0 f1 t0 t1
  simp only [sv]
  have hba : Below W.heap.size W (W.alloc (.cells #[.int .u8 x, .int .u8 y] 70)) := (Below.refl _ _).alloc (Nat.le_refl _) _
  have k0 := kept ha hba
  have k1 := kept hb hba
  have HBA := Lib.hid hba
  have m0 : (W.alloc (.cells #[.int .u8 x, .int .u8 y] 70)).cell? ⟨W.heap.size, 0, none⟩ = some (.int .u8 x) := by simp
  have m1 : (W.alloc (.cells #[.int .u8 x, .int .u8 y] 70)).cell? ⟨W.heap.size, 1, none⟩ = some (.int .u8 y) := by simp
  obtain ⟨q, hq⟩ : ∃ q, q = pairB a b (x, y) := ⟨_, rfl⟩
  rw [← hq]
  have HQ := Lib.hid hq
  clear hba hq
  by_cases h1 : x = a
  · subst h1
    by_cases h2 : y = b
    · subst h2
      rw [pairB_yes (by simp)] at HQ
      go_enter Try.func36, Try.ntmps36
      go_wp2_with fail
      go_quiet (fail)
      go_wp2_with fail
      go_ret
      exact ⟨ret_b (by rw [HQ.out]), below_drewN HBA.out _⟩
    · by_cases h3 : x = b
      · subst h3
        have n2 : (y == x) = false := by simpa using h2
        have HH := Lib.hid h2
        clear h2
        rw [pairB_no (by simpa using HH.out)] at HQ
        go_enter Try.func36, Try.ntmps36
        go_wp2_with fail
        go_quiet (fail)
        go_wp2_with fail
        go_ret
        exact ⟨ret_b (by rw [HQ.out]), below_drewN HBA.out _⟩
      · have n2 : (y == b) = false := by simpa using h2
        have n3 : (x == b) = false := by simpa using h3
        rw [pairB_no (by simp [h2, h3])] at HQ
        clear h2 h3
        go_enter Try.func36, Try.ntmps36
        go_wp2_with fail
        go_quiet (fail)
        go_wp2_with fail
        go_ret
        exact ⟨ret_b (by rw [HQ.out]), below_drewN HBA.out _⟩
  · by_cases h3 : x = b
    · subst h3
      have n1 : (x == a) = false := by simpa using h1
      by_cases h4 : y = a
      · subst h4
        rw [pairB_yes (by simp)] at HQ
        clear h1
        go_enter Try.func36, Try.ntmps36
        go_wp2_with fail
        go_quiet (fail)
        go_wp2_with fail
        go_ret
        exact ⟨ret_b (by rw [HQ.out]), below_drewN HBA.out _⟩
      · have n4 : (y == a) = false := by simpa using h4
        rw [pairB_no (by simp [h1, h4])] at HQ
        clear h1 h4
        go_enter Try.func36, Try.ntmps36
        go_wp2_with fail
        go_quiet (fail)
        go_wp2_with fail
        go_ret
        exact ⟨ret_b (by rw [HQ.out]), below_drewN HBA.out _⟩
    · have n1 : (x == a) = false := by simpa using h1
      have n3 : (x == b) = false := by simpa using h3
      rw [pairB_no (by simp [h1, h3])] at HQ
      clear h1 h3
      go_enter Try.func36, Try.ntmps36
      go_wp2_with fail
      go_quiet (fail)
      go_wp2_with fail
      go_ret
      exact ⟨ret_b (by rw [HQ.out]), below_drewN HBA.out _⟩
end Go.Proofs.Ytjiikhfeacgjjaa
