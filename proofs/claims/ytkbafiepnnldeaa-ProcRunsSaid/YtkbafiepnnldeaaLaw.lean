/-
  What all laws begin with: the arguments; a new table; its first calls. Who runs, and the greatest priority.
-/
import Derived.Test.YtkbafiepnnldeaaAwkW
import Derived.Test.YtkbafiepnnldeaaOpenX
import Derived.Test.YtkbafiepnnldeaaOpenY
import Derived.Deep.CutBlock
import Derived.Deep.LoopGhost
namespace Go.Proofs.Ytkbafiepnnldeaa
open Go.RowKit

def natsOf (l : List Int) : List Nat := l.map Int.toNat
theorem natsOf_len (l : List Int) : (natsOf l).length = l.length := List.length_map _
theorem u_of_bytes {w : World} {A : Option Addr} {l : List Int} (h : BytesAt w A l) (hp : ∀ y ∈ l, 0 ≤ y ∧ y ≤ 255) : UAt w A (natsOf l) := fun i hi => by
  rw [natsOf_len] at hi
  obtain ⟨b, o, e, hc⟩ := h.get hi
  refine ⟨b, o, e, ?_⟩
  rw [hc]
  have hm : l.getD i 0 ∈ l := by
    rw [List.getD_eq_getElem?_getD, List.getElem?_eq_getElem hi]
    exact List.getElem_mem hi
  have h0 := hp _ hm
  have e2 : (natsOf l).getD i 0 = (l.getD i 0).toNat := by
    unfold natsOf
    rw [List.getD_eq_getElem?_getD, List.getElem?_map, List.getD_eq_getElem?_getD, List.getElem?_eq_getElem hi]
    rfl
  rw [e2]
  show some (Value.int .u8 _) = some (Value.int .u8 _)
  congr 2
  omega
/-- Behind some calls. -/
def TbK (first : List Nat) (H : Nat) (w0 w : World) (g bi ba ci : Nat) : Prop := ∃ v T, TB H w0 w g bi ba ci v T ∧ T.first = first
theorem TbK.step {first : List Nat} {H : Nat} {w0 w w' : World} {g bi ba ci : Nat} {v : Value} {T : Tb} {k i pr : Int} {e : Ending} (h : TB H w0 w g bi ba ci v T) (hf : T.first = first) (hP : StepP g bi ba ci v T k i pr w e w') : e = .returned (nV (T.stepE k i pr)) ∧ ∃ v', TB H w0 w' g bi ba ci v' (T.step k i pr) ∧ (T.step k i pr).first = first := by
  obtain ⟨v', h1, _, _⟩ := h.step (step_ok h.ok k i pr) hP.2
  exact ⟨hP.1, v', h1, by rw [step_first, hf]⟩
theorem TB.len {H : Nat} {w0 w : World} {g bi ba ci : Nat} {v : Value} {T : Tb} {first : List Nat} (h : TB H w0 w g bi ba ci v T) (hf : T.first = first) : T.l.length = first.length := by rw [← h.ok.len, hf]
/-- One call of the list. -/
theorem call_cells {w : World} {A : Option Addr} {cs : List CallA} (h : CallsAt w A cs) {k : Nat} (hk : k < cs.length) : ∃ bb oo y0 y1 y2, A = some ⟨bb, oo, none⟩ ∧ ∀ W, Below w.heap.size w W → W.cell? ⟨bb, oo + k * 3, none⟩ = some (nV y0) ∧ W.cell? ⟨bb, oo + k * 3 + 1, none⟩ = some (nV y1) ∧ W.cell? ⟨bb, oo + k * 3 + 2, none⟩ = some (nV y2) := by
  obtain ⟨bb, oo, e⟩ := Arr.head h hk
  subst e
  exact ⟨bb, oo, _, _, _, rfl, fun W hW => ⟨Arr.at (Arr.keep h hW) (j := 0) hk rfl, Arr.at (Arr.keep h hW) (j := 1) hk rfl, Arr.at (Arr.keep h hW) (j := 2) hk rfl⟩⟩

/-- The greatest priority among the first k. -/
structure MostK (T : Tb) (k : Nat) (m : Int) : Prop where
  lo : -1 ≤ m
  le : ∀ x : Nat, x < k → (T.l.getD x Pr.nil).run = true → (T.l.getD x Pr.nil).pr ≤ m
  is : m = -1 ∨ ∃ x : Nat, x < k ∧ (T.l.getD x Pr.nil).run = true ∧ (T.l.getD x Pr.nil).pr = m
theorem MostK.zero (T : Tb) : MostK T 0 (-1) := ⟨Int.le_refl _, fun _ hx => absurd hx (Nat.not_lt_zero _), .inl rfl⟩
theorem MostK.skip {T : Tb} {k : Nat} {m : Int} (h : MostK T k m) (hs : ¬ ((T.l.getD k Pr.nil).run = true ∧ m < (T.l.getD k Pr.nil).pr)) : MostK T (k + 1) m := by
  refine ⟨h.lo, fun x hx hr => ?_, h.is.imp id fun ⟨x, h1, h2⟩ => ⟨x, Nat.lt_succ_of_lt h1, h2⟩⟩
  rcases Nat.lt_or_ge x k with h1 | h1
  · exact h.le x h1 hr
  · obtain rfl : x = k := by omega
    exact Int.le_of_not_gt fun c => hs ⟨hr, c⟩
theorem MostK.take {T : Tb} {k : Nat} {m : Int} (h : MostK T k m) (hr : (T.l.getD k Pr.nil).run = true) (hm : m < (T.l.getD k Pr.nil).pr) : MostK T (k + 1) (T.l.getD k Pr.nil).pr := by
  refine ⟨by have := h.lo; omega, fun x hx hx2 => ?_, .inr ⟨k, Nat.lt_succ_self _, hr, rfl⟩⟩
  rcases Nat.lt_or_ge x k with h1 | h1
  · have := h.le x h1 hx2; omega
  · obtain rfl : x = k := by omega
    exact Int.le_refl _
theorem state_nat {T : Tb} {k : Nat} (hk : k < T.l.length) : stateOf T (k : Int) = T.l.getD k Pr.nil := by
  unfold stateOf
  rw [if_pos ⟨Int.natCast_nonneg _, by omega⟩, atP_nat]
theorem runs_fin {T : Tb} {m : Int} (ok : TOk T) (h : MostK T T.l.length m) : (headOf T.q = (0, false) ∧ m = -1) ∨ (∃ a, headOf T.q = (a, true) ∧ 0 ≤ m ∧ stateOf T a = ⟨1, false, m⟩) := by
  cases hq : T.q with
  | nil =>
    refine .inl ⟨rfl, h.is.resolve_right ?_⟩
    rintro ⟨x, h1, h2, _⟩
    have := nobody ok hq (x := (x : Int)) ⟨Int.natCast_nonneg _, by omega⟩
    rw [atP_nat, h2] at this
    cases this
  | cons a r =>
    obtain ⟨h1, h2, h3⟩ := head_top ok hq
    have ha : a = ((a.toNat : Nat) : Int) := by have := h1.1; omega
    have hal : a.toNat < T.l.length := by have := h1.1; have := h1.2; omega
    have hok := ok.at h1
    have hat : atP T.l a = T.l.getD a.toNat Pr.nil := rfl
    have hle := h.le a.toNat hal (by rw [← hat]; exact h2)
    rw [← hat] at hle
    have hlo := hok.lo
    have hm : m = (atP T.l a).pr := by
      rcases h.is with e | ⟨x, x1, x2, x3⟩
      · omega
      · have := h3 (x : Int) ⟨Int.natCast_nonneg _, by omega⟩ (by rw [atP_nat]; exact x2)
        rw [atP_nat, x3] at this
        omega
    refine .inr ⟨a, rfl, by omega, ?_⟩
    unfold stateOf
    rw [if_pos h1]
    have hr := run_iff.1 h2
    rw [hm, ← hr.1, ← hr.2]
end Go.Proofs.Ytkbafiepnnldeaa
