/-
  The chapter's example, in memory.
-/
import Derived.Test.YtjiikhfeacgjjaaWoutW
import Derived.Laws.MakeOwn
namespace Go.Proofs.Ytjiikhfeacgjjaa
open Go.RowKit

def zPart : Array Value := #[.slice none 0 0, .int .u8 0, .slice none 0 0, .int .u8 0, .int .u8 0, .int .u8 0]
theorem run_make_parts (W : World) : (Instr.makeSlice 24 (.int .i64 4) (.int .i64 4)).run Try.prog W = .ok (.slice (some ⟨W.heap.size, 0, none⟩) 4 4) (W.alloc (.cells (madeCells zPart 24) 60)) := by
  obtain ⟨i0, hi, hz0, hz1, hz2⟩ := info_parts info60
  have hr := run_make (P := Try.prog) W 24 60 i0 _ Try.underlying24 hi hz0 .i64 .i64 4 4 (by omega) (Int.le_refl _) (by rw [hz2]; decide) (by decide)
  rw [hz1] at hr
  exact hr
theorem arr_blk {α : Type} {w : World} {b C : Nat} {cs : Array Value} {t : TypeId} {fr : Nat × Nat} {l : List α} {f : α → List Value} (d : α) (h : w.heap[b]? = some (.cells cs t fr)) (hl : cs.toList = l.flatMap f) (hf : ∀ x, (f x).length = C) : Arr w (some ⟨b, 0, none⟩) C l.length fun i => f (l.getD i d) := fun i hi => by
  refine ⟨b, 0, rfl, fun j u hu => ?_⟩
  have hj : j < C := by
    have := (List.getElem?_eq_some_iff.1 hu).1
    rw [hf] at this
    exact this
  rw [cell_of_row _ _ _ _ _ _ h, show 0 + i * C + j = i * C + j by omega, ← Array.getElem?_toList, hl, flat_get f C d l (fun x _ => hf x) i j hi hj]
  exact hu
def partZ (q : PartA) : List Value := partV q (none, 0) (none, 0)
theorem made24 : (madeCells zPart 24).toList = [dQ, dQ, dQ, dQ].flatMap partZ := by kernel_rfl
def eC0 : ChanA := (1, 0, 1, 0, 0, 0)
def eC1 : ChanA := (1, 1, 2, 0, 0, 0)
def exP : PlanA := (0, [], [dQ, dQ, dQ, dQ], [eC0, eC1], [(0, 3)])
def exL (n : Nat) : PlanL := ⟨none, 0, some ⟨n + 1, 0, none⟩, 4, some ⟨n + 1 + 1, 0, none⟩, 2, some ⟨n + 1 + 1 + 1, 0, none⟩, 1⟩
def ExP (w : World) (e : Ending) (w' : World) : Prop := ∃ L, e = .returned (planV exP L) ∧ PlanAt w' exP L ∧ Below w.heap.size w w'
/-- The world that the example leaves. -/
def exW (w : World) (C : Array Value) : World :=
  (((w.alloc (.cells #[.int .u16 0, .slice none 0 0, .slice (some ⟨w.heap.size + 1, 0, none⟩) 4 4, .slice (some ⟨w.heap.size + 1 + 1, 0, none⟩) 2 2, .slice (some ⟨w.heap.size + 1 + 1 + 1, 0, none⟩) 1 1] 28)).alloc (.cells C 60)).alloc
    (.cells #[.int .u8 1, .int .u8 0, .int .u8 1, .int .u8 0, .int .u8 0, .int .u16 0, .int .u8 1, .int .u8 1, .int .u8 2, .int .u8 0, .int .u8 0, .int .u16 0] 44)).alloc (.cells #[.int .u8 0, .int .u8 3] 70)
theorem ex_at (w : World) : PlanAt (exW w (madeCells zPart 24)) exP (exL w.heap.size) := by
  have s1 : ∀ o1, (w.alloc o1).heap.size = w.heap.size + 1 := fun o1 => by simp
  have s2 : ∀ o1 o2, ((w.alloc o1).alloc o2).heap.size = w.heap.size + 1 + 1 := fun o1 o2 => by simp
  have s3 : ∀ o1 o2 o3, (((w.alloc o1).alloc o2).alloc o3).heap.size = w.heap.size + 1 + 1 + 1 := fun o1 o2 o3 => by simp
  have h1 : ∀ o1 o2 o3 o4, ((((w.alloc o1).alloc o2).alloc o3).alloc o4).heap[w.heap.size + 1]? = some o2 := fun o1 o2 o3 o4 => by
    rw [Below.heap_alloc _ _ _ (by rw [s3]; omega), Below.heap_alloc _ _ _ (by rw [s2]; omega), ← s1 o1]
    exact heap_alloc_new _ _
  have h2 : ∀ o1 o2 o3 o4, ((((w.alloc o1).alloc o2).alloc o3).alloc o4).heap[w.heap.size + 1 + 1]? = some o3 := fun o1 o2 o3 o4 => by
    rw [Below.heap_alloc _ _ _ (by rw [s3]; omega), ← s2 o1 o2]
    exact heap_alloc_new _ _
  have h3 : ∀ o1 o2 o3 o4, ((((w.alloc o1).alloc o2).alloc o3).alloc o4).heap[w.heap.size + 1 + 1 + 1]? = some o4 := fun o1 o2 o3 o4 => by
    rw [← s3 o1 o2 o3]
    exact heap_alloc_new _ _
  refine ⟨⟨fun _ => (none, 0), fun i hi => by simp [exP] at hi, fun i hi => by simp [exP] at hi⟩, ⟨fun _ => (none, 0), fun _ => (none, 0), ?_, fun i hi => ?_⟩, ?_, ?_⟩
  · exact arr_blk (f := partZ) dQ (h1 _ _ _ _) made24 (fun _ => rfl)
  · have hq : exP.2.2.1.getD i dQ = dQ := by
      match i, hi with
      | 0, _ => rfl
      | 1, _ => rfl
      | 2, _ => rfl
      | 3, _ => rfl
      | i + 4, hi => simp [exP] at hi; omega
    rw [hq]
    exact ⟨fun i hi => by simp [dQ] at hi, fun i hi => by simp [dQ] at hi, fun _ => rfl⟩
  · exact arr_blk (f := chanV) dC (h2 _ _ _ _) rfl (fun _ => rfl)
  · exact arr_blk (f := semV) dS (h3 _ _ _ _) rfl (fun _ => rfl)
theorem ex_below (w : World) (C : Array Value) : Below w.heap.size w (exW w C) := ((((Below.refl _ _).alloc (Nat.le_refl _) _).alloc (by simp) _).alloc (by simp; omega) _).alloc (by simp; omega) _
set_option maxHeartbeats 4000000 in
set_option maxRecDepth 100000 in
theorem example_any (w : World) : Calls Try.prog 26 #[] w fun e w' => ExP w e w' := by
  have hmk := run_make_parts
  obtain ⟨C24, hC⟩ : ∃ c, c = madeCells zPart 24 := ⟨_, rfl⟩
  rw [← hC] at hmk
  have HC := Lib.hid hC
  clear hC
  go_enter Try.func26, Try.ntmps26
  go_wp2_with fail
  have hat := ex_at w
  rw [← HC.out] at hat
  exact bodyPost_ret (v := planV exP (exL w.heap.size)) (by simp [results, Try.results26, go_sem, planV, exP, exL]) rfl ⟨_, rfl, hat, ex_below w C24⟩
end Go.Proofs.Ytjiikhfeacgjjaa
