/-
  A channel, as the reader of plans reads it: what is read is named step by step.
-/
import Derived.Test.YtkgkjkghdllkhaaDoorDecA
namespace Go.Proofs.YtkgkjkghdllkhaaDoor
open Go.RowKit
section
variable {w : World} {g b cap : Nat} {s : ByteArray} {σ : St}
theorem eight_gen (h : RdS w g b cap s σ) :
    Calls Tryd.prog 61 #[gp g] w fun e w' => ∃ x σ', d8 s σ = (x, σ') ∧ (0 ≤ x ∧ x ≤ 255) ∧ e = .returned (.int .u8 x) ∧ RdS w' g b cap s σ' ∧ w.grownBy w' (some g) :=
  (eight_all h).mono fun _ _ ⟨a, b, c⟩ => ⟨_, _, rfl, d8_bounds s σ, a, b, c⟩
theorem sixteen_gen (h : RdS w g b cap s σ) :
    Calls Tryd.prog 60 #[gp g] w fun e w' => ∃ x σ', d16 s σ = (x, σ') ∧ (0 ≤ x ∧ x ≤ 65535) ∧ e = .returned (.int .u16 x) ∧ RdS w' g b cap s σ' ∧ w.grownBy w' (some g) :=
  (sixteen_all h).mono fun _ _ ⟨a, b, c⟩ => ⟨_, _, rfl, d16_bounds s σ, a, b, c⟩
theorem step_eq {α β : Type} {f : St → α × St} {F : α → St → β × St} {r : β × St} {σ' : St} {x : α} (h : r = bnd f F σ) (hd : f σ = (x, σ')) : r = F x σ' := by
  rw [h]; unfold bnd; rw [hd]

set_option maxHeartbeats 4000000 in
set_option maxRecDepth 100000 in
theorem chan_any (h : RdS w g b cap s σ) :
    Calls Tryd.prog 67 #[.agg #[gp g]] w fun e w' => e = .returned (.agg (chanV (dChan s σ).1).toArray) ∧ RdS w' g b cap s (dChan s σ).2 ∧ w.grownBy w' (some g) := by
  have HM := Lib.hid (Mid.start h #[.int .u8 0, .int .u8 0, .int .u8 0, .int .u8 0, .int .u8 0, .int .u16 0] 60)
  have HG := Lib.hid h.glt
  have HB := Lib.hid (Rd.lt h)
  obtain ⟨r, hr⟩ : ∃ r, r = dChan s σ := ⟨_, rfl⟩
  have HC := Lib.hid hr
  rw [← hr]
  clear h hr
  unfold dChan at HC
  go_enter Tryd.func67, Tryd.ntmps67
  go_wp2_with fail
  go_region_held3 (fun w' => w'.cell? ⟨w.heap.size, 0, none⟩ = some (gp g)) (go_keep)
    (first
      | (go_at_call 60; refine (sixteen_gen HM.out.rd).mono ?_; rintro e w1 ⟨x, σ', hd, _, rfl, hR, hO⟩; have hM := HM.out.step hR hO; have hC := step_eq HC.out hd; clear HM HC hR hO hd; have HM := Lib.hid hM; have HC := Lib.hid hC; have cc := (box1 hM.row).2; obtain ⟨d0, d1, d2, d3, d4, d5⟩ := (box6'' hM.res).2; have fz := frozen_of hM.res; clear hM hC)
      | (go_at_call 61; refine (eight_gen HM.out.rd).mono ?_; rintro e w1 ⟨x, σ', hd, _, rfl, hR, hO⟩; have hM := HM.out.step hR hO; have hC := step_eq HC.out hd; clear HM HC hR hO hd; have HM := Lib.hid hM; have HC := Lib.hid hC; have cc := (box1 hM.row).2; clear hM hC))
  go_wp2
  refine bodyPost_ret (v := .agg (chanV r.1).toArray) (by rw [HC.out]; simp [results, Tryd.results67, go_sem, d0, d1, d2, d3, d4, d5, ret, chanV]) rfl ?_
  rw [HC.out]
  exact ⟨rfl, ((((((((HM.out.fin HB.out HG.out).set (Nat.le_succ _) _ _).set (Nat.le_succ _) _ _).set (Nat.le_succ _) _ _).set (Nat.le_succ _) _ _).set (Nat.le_succ _) _ _).set (Nat.le_succ _) _ _)).1, ((((((((HM.out.fin HB.out HG.out).set (Nat.le_succ _) _ _).set (Nat.le_succ _) _ _).set (Nat.le_succ _) _ _).set (Nat.le_succ _) _ _).set (Nat.le_succ _) _ _).set (Nat.le_succ _) _ _)).2.1⟩
end
end Go.Proofs.YtkgkjkghdllkhaaDoor
