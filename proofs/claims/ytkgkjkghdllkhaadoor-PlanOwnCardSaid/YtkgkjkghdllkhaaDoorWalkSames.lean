/-
  PlanSames, walked: plans are the same just where they are equal; a copy is.
-/
import Derived.Test.YtkgkjkghdllkhaaDoorSameG
import Derived.Test.YtkgkjkghdllkhaaDoorCopyW
import Derived.Test.YtkgkjkghdllkhaaDoorFew
import Derived.Test.YtkgkjkghdllkhaaDoorAwake
import Derived.Deep.RegionHeld3
namespace Go.Proofs.YtkgkjkghdllkhaaDoor
open Go.RowKit

theorem sum_ge (f : Nat → Nat) : ∀ k j, j < k → f j ≤ sumN f k := by
  intro k
  induction k with
  | zero => intro j hj; omega
  | succ k ih =>
    intro j hj
    show f j ≤ sumN f k + f k
    rcases Nat.lt_or_ge j k with h | h
    · have := ih j h; omega
    · obtain rfl : j = k := by omega
      omega
/-- What few tells of each list. -/
theorem few_lists {P : PlanA} (h : allN P ≤ 2000) : cp.Few P := by
  unfold allN at h
  refine ⟨by omega, by omega, by omega, by omega, fun ws hw => ?_, fun q hq => ?_⟩
  · obtain ⟨j, hj, rfl⟩ := List.getElem_of_mem hw
    have := sum_ge (fun j => (P.2.1.getD j []).length) P.2.1.length j hj
    simp only [List.getD_eq_getElem?_getD, List.getElem?_eq_getElem hj, Option.getD_some] at this h
    omega
  · obtain ⟨j, hj, rfl⟩ := List.getElem_of_mem hq
    have := sum_ge (fun j => (P.2.2.1.getD j dQ).1.length + (P.2.2.1.getD j dQ).2.2.1.length) P.2.2.1.length j hj
    simp only [List.getD_eq_getElem?_getD, List.getElem?_eq_getElem hj, Option.getD_some] at this h
    omega
theorem few_same {P Q : PlanA} {L M : PlanL} {w : World} (h : cp.Few P) (hP : PlanAt w P L) (hQ : PlanAt w Q M) :
    Calls Tryd.prog 19 #[planV P L, planV Q M] w fun e w' => e = .returned (.bool (sameB P Q)) ∧ Below w.heap.size w w' :=
  same_any P Q L M w hP hQ (by have := h.l1; omega) (by have := h.l2; omega) (by have := h.l3; omega) (by have := h.l4; omega) (fun ws hw => by have := h.li ws hw; omega) (fun q hq => by have := h.lp q hq; omega)
theorem few_given {P Q : PlanA} {L M : PlanL} {w : World} (h : cp.Few P) (hP : PlanAt w P L) (hQ : PlanAt w Q M) :
    Calls Tryd.prog 17 #[planV P L, planV Q M] w fun e w' => e = .returned (.bool (sameB P Q)) ∧ Below w.heap.size w w' :=
  given_same P Q L M w hP hQ (by have := h.l1; omega) (by have := h.l2; omega) (by have := h.l3; omega) (by have := h.l4; omega) (fun ws hw => by have := h.li ws hw; omega) (fun q hq => by have := h.lp q hq; omega)

set_option maxHeartbeats 8000000 in
set_option maxRecDepth 100000 in
theorem walk_sames (P Q : PlanA) (L M : PlanL) (w : World) (hG : GOk w) (hP : PlanAt w P L) (hQ : PlanAt w Q M) (h1 : P.2.1.length ≤ 140737488355328) (h2 : P.2.2.1.length ≤ 140737488355328) (h3 : P.2.2.2.1.length ≤ 140737488355328) (h4 : P.2.2.2.2.length ≤ 140737488355328)
    (h5 : ∀ ws ∈ P.2.1, ws.length ≤ 140737488355328) (h6 : ∀ q ∈ P.2.2.1, q.1.length ≤ 140737488355328 ∧ q.2.2.1.length ≤ 140737488355328) (g1 : Q.2.1.length ≤ 140737488355328) (g2 : Q.2.2.1.length ≤ 140737488355328) (g3 : Q.2.2.2.1.length ≤ 140737488355328) (g4 : Q.2.2.2.2.length ≤ 140737488355328)
    (g5 : ∀ ws ∈ Q.2.1, ws.length ≤ 140737488355328) (g6 : ∀ q ∈ Q.2.2.1, q.1.length ≤ 140737488355328 ∧ q.2.2.1.length ≤ 140737488355328) :
    Calls Tryd.prog 8 #[planV P L, planV Q M] w fun e w' => e = .returned (.bool true) ∧ Below w.heap.size w w' := by
  have h0 := hG.lt
  have HAW := Lib.hid (fun W (hB : Below w.heap.size w W) => awake_any W (hG.below hB h0))
  have HF := Lib.hid (fun W (hB : Below w.heap.size w W) => few_any P L W (hP.keep hB) h1 h2 h3 h4 h5 h6)
  have HFQ := Lib.hid (fun W (hB : Below w.heap.size w W) => few_any Q M W (hQ.keep hB) g1 g2 g3 g4 g5 g6)
  have HC := Lib.hid (fun W (hB : Below w.heap.size w W) hf => cp.copy_any P L W (hP.keep hB) hf)
  have HS1 := Lib.hid (fun W (hB : Below w.heap.size w W) hf => few_same (Q := Q) (M := M) hf (hP.keep hB) (hQ.keep hB))
  have HS2 := Lib.hid (fun W (hB : Below w.heap.size w W) hf => few_given (Q := Q) (M := M) hf (hP.keep hB) (hQ.keep hB))
  have HS3 := Lib.hid (fun W K (hB : Below w.heap.size w W) hf (hK : PlanAt W P K) => few_same hf (hP.keep hB) hK)
  have HS4 := Lib.hid (fun W K (hB : Below w.heap.size w W) hf (hK : PlanAt W P K) => few_same hf hK (hP.keep hB))
  have HS5 := Lib.hid (fun W K (hB : Below w.heap.size w W) hf (hK : PlanAt W P K) => few_given hf (hP.keep hB) hK)
  have hyy := same_yes (rfl : P = P)
  rw [hyy] at HS3 HS4 HS5
  obtain ⟨b, hb⟩ : ∃ b, b = sameB P Q := ⟨_, rfl⟩
  rw [← hb] at HS1 HS2
  have hbb : (b == b) = true := by simp
  have hpv : ∀ (P : PlanA) (L : PlanL), planV P L = .agg #[.int .u16 P.1, .slice L.a1 P.2.1.length L.c1, .slice L.a2 P.2.2.1.length L.c2, .slice L.a3 P.2.2.2.1.length L.c3, .slice L.a4 P.2.2.2.2.length L.c4] := fun _ _ => rfl
  have HPV := Lib.hid hpv
  simp only [hpv] at HF HFQ HC HS1 HS2 HS3 HS4 HS5 ⊢
  have hB0 : Below w.heap.size w ((w.alloc (.cells #[.int .u16 P.1, .slice L.a1 P.2.1.length L.c1, .slice L.a2 P.2.2.1.length L.c2, .slice L.a3 P.2.2.2.1.length L.c3, .slice L.a4 P.2.2.2.2.length L.c4] 28)).alloc (.cells #[.int .u16 Q.1, .slice M.a1 Q.2.1.length M.c1, .slice M.a2 Q.2.2.1.length M.c2, .slice M.a3 Q.2.2.2.1.length M.c3, .slice M.a4 Q.2.2.2.2.length M.c4] 28)) := ((Below.refl _ _).alloc (Nat.le_refl _) _).alloc (by simp) _
  have hT : TwoG w P Q L M ((w.alloc (.cells #[.int .u16 P.1, .slice L.a1 P.2.1.length L.c1, .slice L.a2 P.2.2.1.length L.c2, .slice L.a3 P.2.2.2.1.length L.c3, .slice L.a4 P.2.2.2.2.length L.c4] 28)).alloc (.cells #[.int .u16 Q.1, .slice M.a1 Q.2.1.length M.c1, .slice M.a2 Q.2.2.1.length M.c2, .slice M.a3 Q.2.2.2.1.length M.c3, .slice M.a4 Q.2.2.2.2.length M.c4] 28)) := by
    refine ⟨PB.keep (W := w.alloc _) ⟨by simp, by simp, by simp, by simp, by simp⟩ ((Below.refl _ _).alloc (Nat.le_refl _) _), ⟨?_, ?_, ?_, ?_, ?_⟩, hB0⟩
    all_goals (rw [World.cell?_alloc_at _ _ _ _ (by simp)]; rfl)
  have HT0 := Lib.hid hT
  clear hpv hB0 hT hP hQ hG h5 h6 g5 g6 hb hyy
  go_enter Tryd.func8, Tryd.ntmps8
  go_wp2_with fail
  refine (HF.out _ HT0.out.2.2).mono ?_
  rintro e w1 ⟨hB, bb, rfl, hall⟩
  have HT1 := Lib.hid (HT0.out.keep hB)
  have HALL := Lib.hid hall
  clear hB hall
  cases bb
  · go_wp2_with fail
    refine (HAW.out _ HT1.out.2.2).mono ?_
    rintro e w2 ⟨rfl, hB⟩
    have HB2 := Lib.hid hB
    clear hB
    go_wp2_with fail
    go_ret
    exact ⟨rfl, below_two HT1.out.2.2 HB2.out⟩
  have HFW := Lib.hid (few_lists (HALL.out rfl))
  obtain ⟨⟨k0, k1, k2, k3, k4⟩, ⟨m0, m1, m2, m3, m4⟩, -⟩ := HT1.out
  go_wp2_with fail
  clear k0 k1 k2 k3 k4 m0 m1 m2 m3 m4
  refine (HFQ.out _ HT1.out.2.2).mono ?_
  rintro e w2 ⟨hB, bb, rfl, hallQ⟩
  have HT2 := Lib.hid (HT1.out.keep hB)
  clear hB hallQ
  cases bb
  · go_wp2_with fail
    refine (HAW.out _ HT2.out.2.2).mono ?_
    rintro e w2 ⟨rfl, hB⟩
    have HB2 := Lib.hid hB
    clear hB
    go_wp2_with fail
    go_ret
    exact ⟨rfl, below_two HT2.out.2.2 HB2.out⟩
  obtain ⟨⟨k0, k1, k2, k3, k4⟩, ⟨m0, m1, m2, m3, m4⟩, -⟩ := HT2.out
  go_wp2_with fail
  clear k0 k1 k2 k3 k4 m0 m1 m2 m3 m4
  refine (HC.out _ HT2.out.2.2 HFW.out).mono ?_
  rintro e w4 ⟨K, rfl, hC, hB⟩
  rw [HPV.out]
  obtain ⟨W, hWd⟩ : ∃ W, W = w4.alloc (.cells #[.int .u16 P.1, .slice K.a1 P.2.1.length K.c1, .slice K.a2 P.2.2.1.length K.c2, .slice K.a3 P.2.2.2.1.length K.c3, .slice K.a4 P.2.2.2.2.length K.c4] 28) := ⟨_, rfl⟩
  have hbW : Below w4.heap.size w4 W := by rw [hWd]; exact (Below.refl _ _).alloc (Nat.le_refl _) _
  have hpb : PB W w4.heap.size P K := by rw [hWd]; exact ⟨by simp, by simp, by simp, by simp, by simp⟩
  have HPK := Lib.hid (hC.at'.keep hbW)
  have HTW := Lib.hid ((HT2.out.keep hB).keep hbW)
  have HWD := Lib.hid hWd
  have HBR := Lib.hid (Below.refl W.heap.size W)
  obtain ⟨⟨k0, k1, k2, k3, k4⟩, ⟨m0, m1, m2, m3, m4⟩, -⟩ := HTW.out
  obtain ⟨q0, q1, q2, q3, q4⟩ := hpb
  clear hC hB hbW hWd
  go_wp2_with fail
  rw [← HWD.out]
  go_region_held3 (fun w' => w'.cell? ⟨w.heap.size, 0, none⟩ = some (.int .u16 P.1) ∧ w'.cell? ⟨w.heap.size, 1, none⟩ = some (.slice L.a1 P.2.1.length L.c1) ∧ w'.cell? ⟨w.heap.size, 2, none⟩ = some (.slice L.a2 P.2.2.1.length L.c2) ∧ w'.cell? ⟨w.heap.size, 3, none⟩ = some (.slice L.a3 P.2.2.2.1.length L.c3) ∧ w'.cell? ⟨w.heap.size, 4, none⟩ = some (.slice L.a4 P.2.2.2.2.length L.c4) ∧ w'.cell? ⟨w.heap.size + 1, 0, none⟩ = some (.int .u16 Q.1) ∧ w'.cell? ⟨w.heap.size + 1, 1, none⟩ = some (.slice M.a1 Q.2.1.length M.c1) ∧ w'.cell? ⟨w.heap.size + 1, 2, none⟩ = some (.slice M.a2 Q.2.2.1.length M.c2) ∧ w'.cell? ⟨w.heap.size + 1, 3, none⟩ = some (.slice M.a3 Q.2.2.2.1.length M.c3) ∧ w'.cell? ⟨w.heap.size + 1, 4, none⟩ = some (.slice M.a4 Q.2.2.2.2.length M.c4) ∧ w'.cell? ⟨w4.heap.size, 0, none⟩ = some (.int .u16 P.1) ∧ w'.cell? ⟨w4.heap.size, 1, none⟩ = some (.slice K.a1 P.2.1.length K.c1) ∧ w'.cell? ⟨w4.heap.size, 2, none⟩ = some (.slice K.a2 P.2.2.1.length K.c2) ∧ w'.cell? ⟨w4.heap.size, 3, none⟩ = some (.slice K.a3 P.2.2.2.1.length K.c3) ∧ w'.cell? ⟨w4.heap.size, 4, none⟩ = some (.slice K.a4 P.2.2.2.2.length K.c4)) (go_keep)
    (first
      | (go_at_call 11
         (with_reducible refine (HAW.out _ ?hb).mono ?_)
         case hb => exact below_two HTW.out.2.2 (by repeat (first | exact HBR.out | refine Below.drew ?_))
         rintro e wx ⟨rfl, hB⟩
         have hB2 : Below W.heap.size W wx := below_two (by repeat (first | exact HBR.out | refine Below.drew ?_)) hB
         clear HBR
         have k0 := kept k0 hB2
         have k1 := kept k1 hB2
         have k2 := kept k2 hB2
         have k3 := kept k3 hB2
         have k4 := kept k4 hB2
         have m0 := kept m0 hB2
         have m1 := kept m1 hB2
         have m2 := kept m2 hB2
         have m3 := kept m3 hB2
         have m4 := kept m4 hB2
         have q0 := kept q0 hB2
         have q1 := kept q1 hB2
         have q2 := kept q2 hB2
         have q3 := kept q3 hB2
         have q4 := kept q4 hB2
         have HBR := Lib.hid hB2
         clear hB hB2)
      | ((first
           | (go_at_call 19; first | (with_reducible refine (HS1.out _ ?hb HFW.out).mono ?_) | (with_reducible refine (HS3.out _ K ?hb HFW.out ?hk).mono ?_) | (with_reducible refine (HS4.out _ K ?hb HFW.out ?hk).mono ?_))
           | (go_at_call 17; first | (with_reducible refine (HS2.out _ ?hb HFW.out).mono ?_) | (with_reducible refine (HS5.out _ K ?hb HFW.out ?hk).mono ?_)))
         case hb => exact below_two HTW.out.2.2 (by repeat (first | exact HBR.out | refine Below.drew ?_))
         try (case hk => exact HPK.out.keep (by repeat (first | exact HBR.out | refine Below.drew ?_)))
         rintro e wx ⟨rfl, hB⟩
         replace k0 := kept k0 hB
         replace k1 := kept k1 hB
         replace k2 := kept k2 hB
         replace k3 := kept k3 hB
         replace k4 := kept k4 hB
         replace m0 := kept m0 hB
         replace m1 := kept m1 hB
         replace m2 := kept m2 hB
         replace m3 := kept m3 hB
         replace m4 := kept m4 hB
         replace q0 := kept q0 hB
         replace q1 := kept q1 hB
         replace q2 := kept q2 hB
         replace q3 := kept q3 hB
         replace q4 := kept q4 hB
         have hB2 := below_two HBR.out hB
         clear HBR
         have HBR := Lib.hid hB2
         clear hB hB2))
  all_goals
    go_wp2_with fail
    go_ret
    exact ⟨rfl, below_two HTW.out.2.2 HBR.out⟩
end Go.Proofs.YtkgkjkghdllkhaaDoor
