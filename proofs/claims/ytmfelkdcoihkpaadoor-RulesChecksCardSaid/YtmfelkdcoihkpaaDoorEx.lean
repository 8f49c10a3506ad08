/-
  The chapter's example plans, in memory.
-/
import Derived.Test.YtmfelkdcoihkpaaDoorCheck
import Derived.Lib.SmallJoins
namespace Go.Proofs.YtmfelkdcoihkpaaDoor
open Go.RowKit

theorem wins_one {W : World} {b : Nat} {x : WinA} (h : WB W b x) : WinsAt W (some ⟨b, 0, none⟩) [x] := by
  intro i hi
  refine ⟨b, 0, rfl, fun j u hu => ?_⟩
  match i, hi, j, hu with
  | 0, _, 0, hu => simp [winV] at hu; subst hu; exact h.1
  | 0, _, 1, hu => simp [winV] at hu; subst hu; exact h.2.1
  | 0, _, 2, hu => simp [winV] at hu; subst hu; exact h.2.2.1
  | 0, _, 3, hu => simp [winV] at hu; subst hu; exact h.2.2.2
  | 0, _, j + 4, hu => simp [winV] at hu
theorem cores_one {W : World} {b b1 : Nat} {x : WinA} (c0 : W.cell? ⟨b, 0, none⟩ = some (.slice (some ⟨b1, 0, none⟩) 1 1)) (h : WB W b1 x) : CoresAt W (some ⟨b, 0, none⟩) [[x]] := by
  refine ⟨fun _ => (some ⟨b1, 0, none⟩, 1), fun i hi => ⟨b, 0, rfl, fun j u hu => ?_⟩, fun i hi => ?_⟩
  · match i, hi, j, hu with
    | 0, _, 0, hu => simp [slV] at hu; subst hu; exact c0
    | 0, _, j + 1, hu => simp at hu
  · match i, hi with
    | 0, _ => exact ⟨wins_one h, Nat.le_refl _⟩
theorem cores_two {W : World} {b b1 b2 : Nat} {x y : WinA} (c0 : W.cell? ⟨b, 0, none⟩ = some (.slice (some ⟨b1, 0, none⟩) 1 1)) (c1 : W.cell? ⟨b, 1, none⟩ = some (.slice (some ⟨b2, 0, none⟩) 1 1)) (h : WB W b1 x) (h2 : WB W b2 y) : CoresAt W (some ⟨b, 0, none⟩) [[x], [y]] := by
  refine ⟨fun i => if i = 0 then (some ⟨b1, 0, none⟩, 1) else (some ⟨b2, 0, none⟩, 1), fun i hi => ⟨b, 0, rfl, fun j u hu => ?_⟩, fun i hi => ?_⟩
  · match i, hi, j, hu with
    | 0, _, 0, hu => simp [slV] at hu; subst hu; exact c0
    | 1, _, 0, hu => simp [slV] at hu; subst hu; exact c1
    | 0, _, j + 1, hu => simp at hu
    | 1, _, j + 1, hu => simp at hu
  · match i, hi with
    | 0, _ => exact ⟨wins_one h, Nat.le_refl _⟩
    | 1, _ => exact ⟨wins_one h2, Nat.le_refl _⟩
def qA : PartA := ([], 0, [1], 0, 0, 0)
theorem parts_one {W : World} {b b1 : Nat} (h : QB W b (none, 0) 0 0 (some ⟨b1, 0, none⟩, 1) 1 0 0 0) (h1 : W.cell? ⟨b1, 0, none⟩ = some (.int .u8 1)) : PartsAt W (some ⟨b, 0, none⟩) [qA] := by
  refine ⟨fun _ => (none, 0), fun _ => (some ⟨b1, 0, none⟩, 1), fun i hi => ⟨b, 0, rfl, fun j u hu => ?_⟩, fun i hi => ?_⟩
  · match i, hi, j, hu with
    | 0, _, 0, hu => simp [partV, slV, qA] at hu; subst hu; exact h.1
    | 0, _, 1, hu => simp [partV, qA] at hu; subst hu; exact h.2.1
    | 0, _, 2, hu => simp [partV, slV, qA] at hu; subst hu; exact h.2.2.1
    | 0, _, 3, hu => simp [partV, qA] at hu; subst hu; exact h.2.2.2.1
    | 0, _, 4, hu => simp [partV, qA] at hu; subst hu; exact h.2.2.2.2.1
    | 0, _, 5, hu => simp [partV, qA] at hu; subst hu; exact h.2.2.2.2.2
    | 0, _, j + 6, hu => simp [partV] at hu
  · match i, hi with
    | 0, _ =>
      refine ⟨fun i hi => by simp [qA] at hi, fun i hi => ⟨b1, 0, rfl, fun j u hu => ?_⟩, fun e => by cases e⟩
      match i, hi, j, hu with
      | 0, _, 0, hu => simp [qA, bV] at hu; subst hu; exact h1
      | 0, _, j + 1, hu => simp at hu
theorem no_arr {W : World} {C : Nat} {F : Nat → List Value} : Arr W none C 0 F := fun i hi => by omega

def exP (x y : WinA) : PlanA := (10, [[x], [y]], [qA], [], [])
def exL (b5 b7 : Nat) : PlanL := ⟨some ⟨b5, 0, none⟩, 2, some ⟨b7, 0, none⟩, 1, none, 0, none, 0⟩
/-- The world that the example leaves. -/
def exW (w : World) (x y : WinA) (z : WinA) : World :=
  (((((((w.alloc (.cells #[.int .u16 10, .slice (some ⟨w.heap.size + 1 + 1 + 1 + 1 + 1, 0, none⟩) 2 2, .slice (some ⟨w.heap.size + 1 + 1 + 1 + 1 + 1 + 1 + 1, 0, none⟩) 1 1, .slice none 0 0, .slice none 0 0] 28)).alloc
    (.cells #[.int .u16 x.1, .int .u16 x.2.1, .int .u8 x.2.2.1, .int .u8 x.2.2.2] 39)).alloc (.cells #[.int .u16 z.1, .int .u16 z.2.1, .int .u8 z.2.2.1, .int .u8 z.2.2.2] 39)).alloc
    (.cells #[.int .u16 x.1, .int .u16 x.2.1, .int .u8 x.2.2.1, .int .u8 x.2.2.2] 39)).alloc (.cells #[.int .u16 y.1, .int .u16 y.2.1, .int .u8 y.2.2.1, .int .u8 y.2.2.2] 39)).alloc
    (.cells #[.slice (some ⟨w.heap.size + 1 + 1 + 1, 0, none⟩) 1 1, .slice (some ⟨w.heap.size + 1 + 1 + 1 + 1, 0, none⟩) 1 1] 43)).alloc (.cells #[.int .u8 1] 5)).alloc
    (.cells #[.slice none 0 0, .int .u8 0, .slice (some ⟨w.heap.size + 1 + 1 + 1 + 1 + 1 + 1, 0, none⟩) 1 1, .int .u8 0, .int .u8 0, .int .u8 0] 54)
set_option maxHeartbeats 4000000 in
set_option maxRecDepth 100000 in
theorem ex_at (w : World) (x y z : WinA) : PlanAt (exW w x y z) (exP x y) (exL (w.heap.size + 1 + 1 + 1 + 1 + 1) (w.heap.size + 1 + 1 + 1 + 1 + 1 + 1 + 1)) := by
  refine ⟨cores_two (b1 := w.heap.size + 1 + 1 + 1) (b2 := w.heap.size + 1 + 1 + 1 + 1) ?_ ?_ ⟨?_, ?_, ?_, ?_⟩ ⟨?_, ?_, ?_, ?_⟩, parts_one (b1 := w.heap.size + 1 + 1 + 1 + 1 + 1 + 1) ⟨?_, ?_, ?_, ?_, ?_, ?_⟩ ?_, no_arr, no_arr⟩
  all_goals
    unfold exW
    repeat (first
      | (refine (World.cell?_alloc_at _ _ _ _ ?_).trans ?_
         · (simp; done)
         · rfl)
      | (refine (World.cell?_alloc_lt _ _ _ ?_).trans ?_
         · first | (simp; done) | (simp; omega)))
theorem ex_below (w : World) (x y z : WinA) : Below w.heap.size w (exW w x y z) :=
  ((((((((Below.refl _ _).alloc (Nat.le_refl _) _).alloc (by simp) _).alloc (by simp; omega) _).alloc (by simp; omega) _).alloc (by simp; omega) _).alloc (by simp; omega) _).alloc (by simp; omega) _).alloc (by simp; omega) _
def ExPost (x y : WinA) (w : World) (e : Ending) (w' : World) : Prop :=
  ∃ b5 b7, e = .returned (planV (exP x y) (exL b5 b7)) ∧ PlanAt w' (exP x y) (exL b5 b7) ∧ Below w.heap.size w w'

set_option maxHeartbeats 4000000 in
set_option maxRecDepth 100000 in
theorem example0 (w : World) : Calls Tryd.prog 19 #[.int .u8 0] w fun e w' => ExPost (0, 4, 0, 0) (2, 4, 0, 0) w e w' := by
  go_enter Tryd.func19, Tryd.ntmps19
  go_wp2_with fail
  exact bodyPost_ret (v := planV (exP (0, 4, 0, 0) (2, 4, 0, 0)) (exL (w.heap.size + 1 + 1 + 1 + 1 + 1) (w.heap.size + 1 + 1 + 1 + 1 + 1 + 1 + 1))) (by simp [results, Tryd.results19, go_sem, planV, exP, exL]) rfl
    ⟨_, _, rfl, ex_at w (0, 4, 0, 0) (2, 4, 0, 0) (2, 4, 0, 0), ex_below w (0, 4, 0, 0) (2, 4, 0, 0) (2, 4, 0, 0)⟩
set_option maxHeartbeats 4000000 in
set_option maxRecDepth 100000 in
theorem example1 (w : World) : Calls Tryd.prog 19 #[.int .u8 1] w fun e w' => ExPost (0, 4, 0, 1) (0, 4, 0, 1) w e w' := by
  go_enter Tryd.func19, Tryd.ntmps19
  go_wp2_with fail
  exact bodyPost_ret (v := planV (exP (0, 4, 0, 1) (0, 4, 0, 1)) (exL (w.heap.size + 1 + 1 + 1 + 1 + 1) (w.heap.size + 1 + 1 + 1 + 1 + 1 + 1 + 1))) (by simp [results, Tryd.results19, go_sem, planV, exP, exL]) rfl
    ⟨_, _, rfl, ex_at w (0, 4, 0, 1) (0, 4, 0, 1) (0, 4, 0, 1), ex_below w (0, 4, 0, 1) (0, 4, 0, 1) (0, 4, 0, 1)⟩
end Go.Proofs.YtmfelkdcoihkpaaDoor
