/-
  The chapter's plan.
-/
import Derived.Test.YtkgkjkghdllkhaaDoorMem
import Derived.Test.YtkgkjkghdllkhaaDoorPutB
import Derived.Outline
namespace Go.Proofs.YtkgkjkghdllkhaaDoor
open Go.RowKit

def leastA : PlanA := (10, [[(0, 10, 0, 0)]], [([], 0, [], 0, 0, 0)], [], [])
def exS : ByteArray := ⟨#[80, 85, 82, 49, 0, 10, 1, 1, 0, 0, 0, 1, 0, 0, 0, 10, 0, 0, 0, 0, 0, 0, 0, 0]⟩
def exC : ByteArray := ⟨#[80, 85, 82, 49, 0, 10, 1, 1, 0, 0, 0, 1]⟩
def exX : ByteArray := ⟨#[80, 85, 82, 49, 0, 10, 1, 1, 0, 0, 0, 1, 0, 0, 0, 10, 0, 0, 0, 0, 0, 0, 0, 0, 120]⟩
theorem ex_plan : dPlan exS (4, false) = (leastA, (24, false)) := by rfl
theorem ex_magic : magicB exS = true ∧ magicB exC = true ∧ magicB exX = true := ⟨by rfl, by rfl, by rfl⟩
theorem ex_cut : (dPlan exC (4, false)).2 = (12, true) := by rfl
theorem ex_more : (dPlan exX (4, false)).2 = (24, false) := by rfl
theorem ex_enc : bytesL (enc leastA) = exS := by rfl

theorem row_new {w : World} {g : Nat} {o : Obj} (h : g = w.heap.size) : (w.alloc o).heap[g]? = some o := by
  subst h; exact heap_alloc_new _ _
theorem arr1 {w : World} {b C : Nat} {F : Nat → List Value} (h : ∀ j u, (F 0)[j]? = some u → w.cell? ⟨b, j, none⟩ = some u) : Arr w (some ⟨b, 0, none⟩) C 1 F := fun i hi => by
  obtain rfl : i = 0 := by omega
  exact ⟨b, 0, rfl, fun j u hu => by rw [Nat.zero_mul, Nat.zero_add]; simpa using h j u hu⟩
theorem arr0 {w : World} {A : Option Addr} {C : Nat} {F : Nat → List Value} : Arr w A C 0 F := fun i hi => by omega
theorem least_at {w : World} {h1 h2 h3 : Nat} (r1 : w.heap[h1]? = some (.cells #[.int .u16 0, .int .u16 10, .int .u8 0, .int .u8 0] 51 (0, 0))) (r2 : w.heap[h2]? = some (.cells #[.slice (some ⟨h1, 0, none⟩) 1 1] 49 (0, 0)))
    (r3 : w.heap[h3]? = some (.cells #[.slice none 0 0, .int .u8 0, .slice none 0 0, .int .u8 0, .int .u8 0, .int .u8 0] 56 (0, 0))) : PlanAt w leastA ⟨some ⟨h2, 0, none⟩, 1, some ⟨h3, 0, none⟩, 1, none, 0, none, 0⟩ := by
  obtain ⟨_, a0, a1, a2, a3⟩ := box4 r1
  obtain ⟨_, c0, c1, c2, c3, c4, c5⟩ := box6 r3
  have b0 : w.cell? ⟨h2, 0, none⟩ = some (.slice (some ⟨h1, 0, none⟩) 1 1) := by rw [cell_of_row w h2 0 _ 49 (0, 0) r2]; rfl
  refine ⟨⟨fun _ => (some ⟨h1, 0, none⟩, 1), arr1 fun j u hu => ?_, fun i hi => ?_⟩, ⟨fun _ => (none, 0), fun _ => (none, 0), arr1 fun j u hu => ?_, fun i hi => ?_⟩, arr0, arr0⟩
  · match j, hu with
    | 0, hu => exact b0.trans hu
  · obtain rfl : i = 0 := by have : i < 1 := hi; omega
    exact arr1 fun j u hu => (match j, hu with
      | 0, hu => a0.trans hu
      | 1, hu => a1.trans hu
      | 2, hu => a2.trans hu
      | 3, hu => a3.trans hu)
  · match j, hu with
    | 0, hu => exact c0.trans hu
    | 1, hu => exact c1.trans hu
    | 2, hu => exact c2.trans hu
    | 3, hu => exact c3.trans hu
    | 4, hu => exact c4.trans hu
    | 5, hu => exact c5.trans hu
  · obtain rfl : i = 0 := by have : i < 1 := hi; omega
    exact ⟨arr0, arr0, fun _ => rfl⟩

set_option maxHeartbeats 1000000 in
set_option maxRecDepth 100000 in
theorem least_any (w : World) : Calls Tryd.prog 20 #[] w fun e w' => ∃ L, e = .returned (planV leastA L) ∧ PlanAt w' leastA L ∧ Below w.heap.size w w' := by
  go_enter Tryd.func20, Tryd.ntmps20
  go_wp2
  refine bodyPost_ret (v := planV leastA ⟨some ⟨w.heap.size + 2, 0, none⟩, 1, some ⟨w.heap.size + 3, 0, none⟩, 1, none, 0, none, 0⟩) (by simp [results, Tryd.results20, go_sem, planV, leastA]) rfl ?_
  refine ⟨_, rfl, least_at (h1 := w.heap.size + 1) (row_alloc (row_alloc (row_new (by simp)) _) _) (row_alloc (row_new (by simp)) _) (row_new (by simp)), ?_⟩
  exact ((((Below.refl _ w).alloc (Nat.le_refl _) _).alloc (by simp) _).alloc (by simp; omega) _).alloc (by simp; omega) _
end Go.Proofs.YtkgkjkghdllkhaaDoor
