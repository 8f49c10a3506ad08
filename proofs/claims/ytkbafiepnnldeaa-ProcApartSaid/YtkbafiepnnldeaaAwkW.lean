/-
  What the chapter's examples fix.
-/
import Derived.Test.YtkbafiepnnldeaaDoW
namespace Go.Proofs.Ytkbafiepnnldeaa
open Go.RowKit

def S0 : Tb := Tb.new [5, 5, 9]
theorem e_new : newE [5, 5, 9] = 0 := by decide
theorem ok_S0 : TOk S0 := new_ok e_new
def S1 : Tb := S0.step 0 0 0
theorem e_S0 : S0.stepE 0 0 0 = 0 := by decide +kernel
theorem ok_S1 : TOk S1 := step_ok ok_S0 _ _ _
def S2 : Tb := S1.step 0 1 0
theorem e_S1 : S1.stepE 0 1 0 = 0 := by decide +kernel
theorem ok_S2 : TOk S2 := step_ok ok_S1 _ _ _
theorem w_S2 : whoOf S2.q = 0 := by decide +kernel
def S3 : Tb := S2.step 0 2 0
theorem e_S2 : S2.stepE 0 2 0 = 0 := by decide +kernel
theorem ok_S3 : TOk S3 := step_ok ok_S2 _ _ _
theorem w_S3 : whoOf S3.q = 2 := by decide +kernel
def S4 : Tb := S3.step 2 2 0
theorem e_S3 : S3.stepE 2 2 0 = 0 := by decide +kernel
theorem ok_S4 : TOk S4 := step_ok ok_S3 _ _ _
theorem w_S4 : whoOf S4.q = 0 := by decide +kernel
def S5 : Tb := S4.step 7 0 0
theorem e_S4 : S4.stepE 7 0 0 = 0 := by decide +kernel
theorem ok_S5 : TOk S5 := step_ok ok_S4 _ _ _
theorem w_S5 : whoOf S5.q = 1 := by decide +kernel
def S6 : Tb := S5.step 3 2 0
theorem e_S5 : S5.stepE 3 2 0 = 0 := by decide +kernel
theorem ok_S6 : TOk S6 := step_ok ok_S5 _ _ _
theorem w_S6 : whoOf S6.q = 2 := by decide +kernel
def S7 : Tb := S6.step 1 2 0
theorem e_S6 : S6.stepE 1 2 0 = 0 := by decide +kernel
theorem ok_S7 : TOk S7 := step_ok ok_S6 _ _ _
theorem w_S7 : whoOf S7.q = 1 := by decide +kernel
def S8 : Tb := S7.step 4 1 0
theorem e_S7 : S7.stepE 4 1 0 = 0 := by decide +kernel
theorem ok_S8 : TOk S8 := step_ok ok_S7 _ _ _
theorem w_S8 : whoOf S8.q = 0 := by decide +kernel
theorem e_S8 : S8.stepE 3 0 0 = 171 := by decide +kernel
theorem s_S8 : S8.step 3 0 0 = S8 := by unfold Tb.step; rw [if_neg (by decide), if_neg (by rw [e_S8]; decide)]
theorem l_S8 : (S8.l.length : Int) = 3 := by decide +kernel
theorem u_arg (w : World) : UAt (w.alloc (.cells #[.int .u8 5, .int .u8 5, .int .u8 9] 5)) (some ⟨w.heap.size, 0, none⟩) [5, 5, 9] := fun i hi => by
  have hi : i < 3 := hi
  refine ⟨_, _, rfl, ?_⟩
  rw [Nat.zero_add]
  match i, hi with
  | 0, _ => exact al_new _ _ _ 0 _ rfl rfl
  | 1, _ => exact al_new _ _ _ 1 _ rfl rfl
  | 2, _ => exact al_new _ _ _ 2 _ rfl rfl
def AwkP (w : World) (e : Ending) (w' : World) : Prop := e = .returned (.bool true) ∧ Below w.heap.size w w'
set_option maxHeartbeats 4000000 in
set_option maxRecDepth 100000 in
theorem awake_any (w : World) : Calls Try.prog 10 #[] w fun e w' => AwkP w e w' := by
  have hB0 : Below w.heap.size w (w.alloc (.cells #[.int .u8 5, .int .u8 5, .int .u8 9] 5)) := (Below.refl _ _).alloc (Nat.le_refl _) _
  have HN : Hid (Calls Try.prog 8 #[.slice (some ⟨w.heap.size, 0, none⟩) 3 3] (w.alloc (.cells #[.int .u8 5, .int .u8 5, .int .u8 9] 5)) fun e w' => NewP [5, 5, 9] (w.alloc (.cells #[.int .u8 5, .int .u8 5, .int .u8 9] 5)) e w') := new_any (some ⟨w.heap.size, 0, none⟩) 3 [5, 5, 9] _ (u_arg w) (by decide)
  have HB0 := Lib.hid hB0
  clear hB0
  go_enter Try.func10, Try.ntmps10
  go_wp2_with fail
  with_reducible refine HN.out.mono ?_
  rintro e w1 hP
  rcases hP with ⟨h, _, _⟩ | ⟨_, g, bi, ba, ci, v0, rfl, hT, hblk, hB⟩
  · exact absurd e_new h
  have HT0 : Hid (TB w.heap.size w w1 g bi ba ci v0 S0) := ⟨hT, ok_S0, fun k hk => Nat.le_trans HB0.out.size (hblk k hk), HB0.out.trans (hB.mono HB0.out.size), Nat.le_trans HB0.out.size hB.size⟩
  clear hT hblk hB HN HB0
  have HC := Lib.hid (start_any 0 w1 HT0.out.tb HT0.out.ok)
  go_wp2_with fail
  with_reducible refine HC.out.mono ?_
  rintro e w2 ⟨rfl, hP⟩
  rw [show S0.stepE 0 0 0 = 0 from e_S0]
  obtain ⟨v1, hT, _, _⟩ := HT0.out.step (step_ok ok_S0 0 0 0) hP
  have HT1 : Hid (TB w.heap.size w w2 g bi ba ci v1 S1) := hT
  clear hP hT HC HT0
  have HC := Lib.hid (start_any 1 w2 HT1.out.tb HT1.out.ok)
  go_wp2_with fail
  with_reducible refine HC.out.mono ?_
  rintro e w3 ⟨rfl, hP⟩
  rw [show S1.stepE 0 1 0 = 0 from e_S1]
  obtain ⟨v2, hT, _, _⟩ := HT1.out.step (step_ok ok_S1 0 1 0) hP
  have HT2 : Hid (TB w.heap.size w w3 g bi ba ci v2 S2) := hT
  clear hP hT HC HT1
  have HC := Lib.hid (who_any w3 HT2.out.tb)
  go_wp2_with fail
  with_reducible refine HC.out.mono ?_
  rintro e wx ⟨rfl, hwx⟩
  rw [show whoOf S2.q = 0 from w_S2]
  subst hwx
  clear HC
  have HC := Lib.hid (start_any 2 w3 HT2.out.tb HT2.out.ok)
  go_wp2_with fail
  with_reducible refine HC.out.mono ?_
  rintro e w4 ⟨rfl, hP⟩
  rw [show S2.stepE 0 2 0 = 0 from e_S2]
  obtain ⟨v3, hT, _, _⟩ := HT2.out.step (step_ok ok_S2 0 2 0) hP
  have HT3 : Hid (TB w.heap.size w w4 g bi ba ci v3 S3) := hT
  clear hP hT HC HT2
  have HC := Lib.hid (who_any w4 HT3.out.tb)
  go_wp2_with fail
  with_reducible refine HC.out.mono ?_
  rintro e wx ⟨rfl, hwx⟩
  rw [show whoOf S3.q = 2 from w_S3]
  subst hwx
  clear HC
  have HC := Lib.hid (block_any 2 w4 HT3.out.tb HT3.out.ok)
  go_wp2_with fail
  with_reducible refine HC.out.mono ?_
  rintro e w5 ⟨rfl, hP⟩
  rw [show S3.stepE 2 2 0 = 0 from e_S3]
  obtain ⟨v4, hT, _, _⟩ := HT3.out.step (step_ok ok_S3 2 2 0) hP
  have HT4 : Hid (TB w.heap.size w w5 g bi ba ci v4 S4) := hT
  clear hP hT HC HT3
  have HC := Lib.hid (who_any w5 HT4.out.tb)
  go_wp2_with fail
  with_reducible refine HC.out.mono ?_
  rintro e wx ⟨rfl, hwx⟩
  rw [show whoOf S4.q = 0 from w_S4]
  subst hwx
  clear HC
  have HC := Lib.hid (yield_any 0 w5 HT4.out.tb HT4.out.ok)
  go_wp2_with fail
  with_reducible refine HC.out.mono ?_
  rintro e w6 ⟨rfl, hP⟩
  rw [show S4.stepE 7 0 0 = 0 from e_S4]
  obtain ⟨v5, hT, _, _⟩ := HT4.out.step (step_ok ok_S4 7 0 0) hP
  have HT5 : Hid (TB w.heap.size w w6 g bi ba ci v5 S5) := hT
  clear hP hT HC HT4
  have HC := Lib.hid (who_any w6 HT5.out.tb)
  go_wp2_with fail
  with_reducible refine HC.out.mono ?_
  rintro e wx ⟨rfl, hwx⟩
  rw [show whoOf S5.q = 1 from w_S5]
  subst hwx
  clear HC
  have HC := Lib.hid (wake_any 2 w6 HT5.out.tb HT5.out.ok)
  go_wp2_with fail
  with_reducible refine HC.out.mono ?_
  rintro e w7 ⟨rfl, hP⟩
  rw [show S5.stepE 3 2 0 = 0 from e_S5]
  obtain ⟨v6, hT, _, _⟩ := HT5.out.step (step_ok ok_S5 3 2 0) hP
  have HT6 : Hid (TB w.heap.size w w7 g bi ba ci v6 S6) := hT
  clear hP hT HC HT5
  have HC := Lib.hid (who_any w7 HT6.out.tb)
  go_wp2_with fail
  with_reducible refine HC.out.mono ?_
  rintro e wx ⟨rfl, hwx⟩
  rw [show whoOf S6.q = 2 from w_S6]
  subst hwx
  clear HC
  have HC := Lib.hid (stop_any 2 w7 HT6.out.tb HT6.out.ok)
  go_wp2_with fail
  with_reducible refine HC.out.mono ?_
  rintro e w8 ⟨rfl, hP⟩
  rw [show S6.stepE 1 2 0 = 0 from e_S6]
  obtain ⟨v7, hT, _, _⟩ := HT6.out.step (step_ok ok_S6 1 2 0) hP
  have HT7 : Hid (TB w.heap.size w w8 g bi ba ci v7 S7) := hT
  clear hP hT HC HT6
  have HC := Lib.hid (who_any w8 HT7.out.tb)
  go_wp2_with fail
  with_reducible refine HC.out.mono ?_
  rintro e wx ⟨rfl, hwx⟩
  rw [show whoOf S7.q = 1 from w_S7]
  subst hwx
  clear HC
  have HC := Lib.hid (suspend_any 1 w8 HT7.out.tb HT7.out.ok)
  go_wp2_with fail
  with_reducible refine HC.out.mono ?_
  rintro e w9 ⟨rfl, hP⟩
  rw [show S7.stepE 4 1 0 = 0 from e_S7]
  obtain ⟨v8, hT, _, _⟩ := HT7.out.step (step_ok ok_S7 4 1 0) hP
  have HT8 : Hid (TB w.heap.size w w9 g bi ba ci v8 S8) := hT
  clear hP hT HC HT7
  have HC := Lib.hid (who_any w9 HT8.out.tb)
  have HC2 := Lib.hid (wake_any 0 w9 HT8.out.tb HT8.out.ok)
  go_wp2_with fail
  with_reducible refine HC.out.mono ?_
  rintro e wx ⟨rfl, hwx⟩
  rw [show whoOf S8.q = 0 from w_S8]
  subst hwx
  clear HC
  go_wp2_with fail
  with_reducible refine HC2.out.mono ?_
  rintro e w10 ⟨rfl, hP⟩
  rw [show S8.stepE 3 0 0 = 171 from e_S8]
  rw [s_S8] at hP
  obtain ⟨vx, hT, _, _⟩ := HT8.out.step ok_S8 hP
  have HL := Lib.hid (len_any w10 hT.tb)
  have HBE := Lib.hid hT.bel
  clear hP hT HC2 HT8
  go_wp2_with fail
  with_reducible refine HL.out.mono ?_
  rintro e wx ⟨rfl, hwx⟩
  rw [show (S8.l.length : Int) = 3 from l_S8]
  subst hwx
  go_wp2_with fail
  go_ret
  exact ⟨rfl, HBE.out⟩
end Go.Proofs.Ytkbafiepnnldeaa
