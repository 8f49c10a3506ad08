/-
  A machine out of its parts; the task of raw numbers, and the document's.
-/
import Derived.Test.YtdhanenbcjmfkaaDoorNewM
namespace Go.Proofs.YtdhanenbcjmfkaaDoor
open Go.RowKit

theorem sys_new {g b n N : Nat} {p : Nat → Value} {K B : Nat → Nat} {t : Nat → Tk} {f : Nat → Int} {c : Int} {w : World} (hM : MemAt w g b n f c) (hn : n ≤ 4096) (hN : N ≤ 1000) (hG : GOk w) (h6 : 6 ≤ g ∧ 6 ≤ b) (hp : ∀ i, i < N → p i = tv (K i) (B i))
    (hT : ∀ i, i < N → TaskAt w (B i) (t i)) (hK : ∀ i, i < N → (t i).kind = K i) (hD : ∀ i, i < N → (t i).done = false) (hB : ∀ i, i < N → g < B i ∧ b < B i)
    (hsep : ∀ i j, i < N → j < N → i ≠ j → B i + szT (K i) ≤ B j ∨ B j + szT (K j) ≤ B i) {e : Ending} {w' : World} (h : NewM g N p w e w') :
    ∃ m : Mc, e = .returned (.pointer (some ⟨m.X, 0, none⟩)) ∧ m.g = g ∧ m.b = b ∧ m.n = n ∧ m.N = N ∧ m.B = B ∧ m.K = K ∧ w.heap.size ≤ m.X ∧ w.heap.size ≤ m.TB ∧ w.heap.size ≤ m.D ∧ m.X < w'.heap.size ∧ m.TB < w'.heap.size ∧ m.D < w'.heap.size ∧ Sys w' m ⟨t, f⟩ c ∧ Below w.heap.size w w' := by
  obtain ⟨X, A, TB, cap, D, rfl, hMa, h1, h2, h3, h4, h5, hBl⟩ := h
  have hg := hM.ltg
  have hb := hM.row.lt
  have hs := hBl.size
  refine ⟨⟨X, g, b, n, A, TB, N, cap, D, B, K⟩, rfl, rfl, rfl, rfl, rfl, rfl, rfl, h1, h2, h3, h4, h5, hMa.dn.lt, ⟨⟨hn, hN, fun i hi => ?_, hsep, fun i hi => ?_, ?_, ?_⟩, hM.keep hBl, ?_, fun i hi _ => (hT i hi).keep hBl, hK, hG.keep hBl, ?_, ?_⟩, hBl⟩
  · have := hB i hi; show g < B i ∧ b < B i ∧ 6 ≤ B i; omega
  · have := (hT i hi).lt
    rw [hK i hi] at this
    show B i + szT (K i) ≤ X ∧ B i + szT (K i) ≤ TB ∧ B i + szT (K i) ≤ D
    omega
  · show g < X ∧ g < TB ∧ g < D; omega
  · show b < X ∧ b < TB ∧ b < D; omega
  · have hq : MachAt w' X g A TB N cap D (fun i => tv (K i) (B i)) (fun _ => false) := ⟨hMa.x0, hMa.x1, hMa.x2, fun i hi => ⟨(hMa.tk i hi).1, by rw [← hp i hi]; exact (hMa.tk i hi).2⟩, hMa.dn, hMa.xd, hMa.td⟩
    exact hq.congr fun i hi => (hD i hi).symm
  · show 6 ≤ g ∧ 6 ≤ b ∧ 6 ≤ D ∧ 6 ≤ X ∧ 6 ≤ TB; omega
  · exact ⟨h4, h5⟩
/-- The kind of a raw number. -/
def kindT (k : Int) : Nat := (k % 3).toNat
/-- Twenty times at most. -/
def capT (x : Int) : Int := if 20 < x then 20 else x
theorem capT_le (x : Int) : capT x ≤ 20 := by unfold capT; split <;> omega
/-- A document's task as a value. -/
def dV (t : Tk) : Value := .agg #[.int .i64 t.kind, .int .i64 t.at', .int .i64 t.left, .bool t.has, .int .u32 t.v, .bool t.done]
/-- What the call makes: a task, and the document's. -/
def MadeP (K : Nat) (a times : Int) (w : World) (e : Ending) (w' : World) : Prop :=
  ∃ B, e = .returned (.tuple #[tv K B, dV (tk0 K a times)]) ∧ w.heap.size ≤ B ∧ TaskAt w' B (tk0 K a times) ∧ Below w.heap.size w w'
/-- The world in which the task is made: the argument, the result's variable, the document's task. -/
noncomputable def W3 (w : World) (k a x K : Int) : World := ((w.alloc (.cells #[.int .u8 k, .int .i64 a, .int .i64 x] 39)).alloc (.cells #[.int .i64 0, .int .i64 0, .int .i64 0, .bool false, .int .u32 0, .bool false] 35)).alloc (.cells #[.int .i64 K, .int .i64 a, .int .i64 x, .bool false, .int .u32 0, .bool false] 35)
def Three (w' w : World) (a x K : Int) : Prop := w'.cell? ⟨w.heap.size, 1, none⟩ = some (.int .i64 a) ∧ w'.cell? ⟨w.heap.size, 2, none⟩ = some (.int .i64 x) ∧ w'.cell? ⟨w.heap.size + 1 + 1, 0, none⟩ = some (.int .i64 K) ∧ w'.cell? ⟨w.heap.size + 1 + 1, 1, none⟩ = some (.int .i64 a) ∧ w'.cell? ⟨w.heap.size + 1 + 1, 2, none⟩ = some (.int .i64 x) ∧ w'.cell? ⟨w.heap.size + 1 + 1, 3, none⟩ = some (.bool false) ∧ w'.cell? ⟨w.heap.size + 1 + 1, 4, none⟩ = some (.int .u32 0) ∧ w'.cell? ⟨w.heap.size + 1 + 1, 5, none⟩ = some (.bool false)
def SixZ (w' w : World) : Prop := w'.cell? ⟨w.heap.size + 1, 0, none⟩ = some (.int .i64 0) ∧ w'.cell? ⟨w.heap.size + 1, 1, none⟩ = some (.int .i64 0) ∧ w'.cell? ⟨w.heap.size + 1, 2, none⟩ = some (.int .i64 0) ∧ w'.cell? ⟨w.heap.size + 1, 3, none⟩ = some (.bool false) ∧ w'.cell? ⟨w.heap.size + 1, 4, none⟩ = some (.int .u32 0) ∧ w'.cell? ⟨w.heap.size + 1, 5, none⟩ = some (.bool false)
theorem three_blocks (w : World) (k a x K : Int) : Three (W3 w k a x K) w a x K ∧ SixZ (W3 w k a x K) w ∧ (∀ j, (W3 w k a x K).frozen? ⟨w.heap.size + 1, j, none⟩ = false) ∧ Below w.heap.size w (W3 w k a x K) ∧ (W3 w k a x K).heap.size = w.heap.size + 3 := by
  refine ⟨⟨?_, ?_, ?_, ?_, ?_, ?_, ?_, ?_⟩, ⟨?_, ?_, ?_, ?_, ?_, ?_⟩, fun j => ?_, ?_, ?_⟩
  · exact al_cell (al_cell (al_new _ _ _ 1 _ rfl rfl))
  · exact al_cell (al_cell (al_new _ _ _ 2 _ rfl rfl))
  · exact al_new _ _ _ 0 _ (by simp) rfl
  · exact al_new _ _ _ 1 _ (by simp) rfl
  · exact al_new _ _ _ 2 _ (by simp) rfl
  · exact al_new _ _ _ 3 _ (by simp) rfl
  · exact al_new _ _ _ 4 _ (by simp) rfl
  · exact al_new _ _ _ 5 _ (by simp) rfl
  · exact al_cell (al_new _ _ _ 0 _ (by simp) rfl)
  · exact al_cell (al_new _ _ _ 1 _ (by simp) rfl)
  · exact al_cell (al_new _ _ _ 2 _ (by simp) rfl)
  · exact al_cell (al_new _ _ _ 3 _ (by simp) rfl)
  · exact al_cell (al_new _ _ _ 4 _ (by simp) rfl)
  · exact al_cell (al_new _ _ _ 5 _ (by simp) rfl)
  · unfold W3; rw [frozen_old _ _ _ (by simp)]; exact frozen_at _ _ _ j _ (by simp)
  · exact (((Below.refl _ _).alloc (Nat.le_refl _) _).alloc (by simp) _).alloc (by simp; omega) _
  · simp [W3]
theorem keptd {w w' : World} {a : Addr} {v : Value} (hc : w.cell? a = some v) (h : Below w.heap.size w.drew w') : w'.cell? a = some v := kept (w := w.drew) hc h
theorem threeKept {W w1 w : World} {a x K : Int} (h : Three W w a x K) (hB : Below W.heap.size W.drew w1) : Three w1 w a x K :=
  ⟨keptd h.1 hB, keptd h.2.1 hB, keptd h.2.2.1 hB, keptd h.2.2.2.1 hB, keptd h.2.2.2.2.1 hB, keptd h.2.2.2.2.2.1 hB, keptd h.2.2.2.2.2.2.1 hB, keptd h.2.2.2.2.2.2.2 hB⟩
theorem sixKept {W w1 w : World} (h : SixZ W w) (hB : Below W.heap.size W.drew w1) : SixZ w1 w :=
  ⟨keptd h.1 hB, keptd h.2.1 hB, keptd h.2.2.1 hB, keptd h.2.2.2.1 hB, keptd h.2.2.2.2.1 hB, keptd h.2.2.2.2.2 hB⟩
theorem frKept {W w1 : World} {b : Nat} (h : ∀ j, W.frozen? ⟨b, j, none⟩ = false) (hb : b < W.heap.size) (hB : Below W.heap.size W.drew w1) : ∀ j, w1.frozen? ⟨b, j, none⟩ = false := fun j => by rw [hB.frozen (p := ⟨b, j, none⟩) hb]; exact h j
theorem made_of {K : Nat} {a x : Int} {w W w1 : World} (hs : W.heap.size = w.heap.size + 3) (hbW : Below w.heap.size w W) (hT : TaskAt w1 W.heap.size (tk0 K a x)) (hB : Below W.heap.size W w1) (v0 v1 v2 v3 v4 v5 : Value) :
    MadeP K a x w (.returned (.tuple #[tv K (w.heap.size + 3), dV (tk0 K a x)])) ((((((w1.setCell ⟨w.heap.size + 1, 0, none⟩ v0).setCell ⟨w.heap.size + 1, 1, none⟩ v1).setCell ⟨w.heap.size + 1, 2, none⟩ v2).setCell ⟨w.heap.size + 1, 3, none⟩ v3).setCell ⟨w.heap.size + 1, 4, none⟩ v4).setCell ⟨w.heap.size + 1, 5, none⟩ v5) := by
  rw [hs] at hT
  refine ⟨w.heap.size + 3, rfl, by omega, hT.same (fun k h1 _ => ?_) (by simp), ?_⟩
  · rw [Below.heap_setCell _ _ _ _ (by simp; omega), Below.heap_setCell _ _ _ _ (by simp; omega), Below.heap_setCell _ _ _ _ (by simp; omega), Below.heap_setCell _ _ _ _ (by simp; omega), Below.heap_setCell _ _ _ _ (by simp; omega), Below.heap_setCell _ _ _ _ (by simp; omega)]
  · exact (((((((hbW.trans (hB.mono (by omega))).setCell (by simp) _).setCell (by simp) _).setCell (by simp) _).setCell (by simp) _).setCell (by simp) _).setCell (by simp) _)
set_option maxHeartbeats 4000000 in
set_option maxRecDepth 100000 in
theorem task_0 (k a times : Int) (w : World) (hk : 0 ≤ k ∧ k < 256) (h0 : k % 3 = 0) :
    Calls Tryd.prog 11 #[.agg #[.int .u8 k, .int .i64 a, .int .i64 times]] w fun e w' => MadeP 0 a (capT times) w e w' := by
  obtain ⟨hk0, hk1⟩ := hk
  unfold capT
  by_cases ht : 20 < times
  · rw [if_pos ht]
    have HN := Lib.hid (fun W => adds_new a 20 W (by omega))
    have HW := three_blocks w k a 20 0
    simp only [W3, Three, SixZ] at HW
    have HW := Lib.hid HW
    go_enter Tryd.func11, Tryd.ntmps11
    go_wp2_with fail
    obtain ⟨g0, g1, g2, g3, g4, g5, g6, g7⟩ := HW.out.1
    go_region_held3 (fun w' => w'.cell? ⟨w.heap.size, 1, none⟩ = some (.int .i64 a) ∧ w'.cell? ⟨w.heap.size, 2, none⟩ = some (.int .i64 20) ∧ w'.cell? ⟨w.heap.size + 1 + 1, 0, none⟩ = some (.int .i64 0) ∧ w'.cell? ⟨w.heap.size + 1 + 1, 1, none⟩ = some (.int .i64 a) ∧ w'.cell? ⟨w.heap.size + 1 + 1, 2, none⟩ = some (.int .i64 20) ∧ w'.cell? ⟨w.heap.size + 1 + 1, 3, none⟩ = some (.bool false) ∧ w'.cell? ⟨w.heap.size + 1 + 1, 4, none⟩ = some (.int .u32 0) ∧ w'.cell? ⟨w.heap.size + 1 + 1, 5, none⟩ = some (.bool false))
      (go_keep)
      (first
        | (go_at_call 22
           refine (HN.out _).mono ?_
           rintro e w1 ⟨rfl, hT, hB1, hz⟩
           have HT := Lib.hid hT
           have HB1 := Lib.hid hB1
           have g0 := keptd g0 hB1
           have g1 := keptd g1 hB1
           have g2 := keptd g2 hB1
           have g3 := keptd g3 hB1
           have g4 := keptd g4 hB1
           have g5 := keptd g5 hB1
           have g6 := keptd g6 hB1
           have g7 := keptd g7 hB1
           obtain ⟨q0, q1, q2, q3, q4, q5⟩ := HW.out.2.1
           have q0 := keptd q0 hB1
           have q1 := keptd q1 hB1
           have q2 := keptd q2 hB1
           have q3 := keptd q3 hB1
           have q4 := keptd q4 hB1
           have q5 := keptd q5 hB1
           have qf := frKept HW.out.2.2.1 (by simp) hB1
           have qf0 := qf 0
           have qf1 := qf 1
           have qf2 := qf 2
           have qf3 := qf 3
           have qf4 := qf 4
           have qf5 := qf 5
           clear qf hT hB1 hz))
    go_wp2_with fail
    exact bodyPost_ret (v := .tuple #[tv 0 (w.heap.size + 3), .agg #[.int .i64 0, .int .i64 a, .int .i64 20, .bool false, .int .u32 0, .bool false]]) (by simp [results, Tryd.results11, go_sem, q0, q1, q2, q3, q4, q5]) rfl
      (made_of (W := (W3 w k a 20 0).drew) (by simp [W3]) HW.out.2.2.2.1.drew HT.out HB1.out _ _ _ _ _ _)
  · rw [if_neg ht]
    have HN := Lib.hid (fun W => adds_new a times W (by omega))
    have HW := three_blocks w k a times 0
    simp only [W3, Three, SixZ] at HW
    have HW := Lib.hid HW
    go_enter Tryd.func11, Tryd.ntmps11
    go_wp2_with fail
    obtain ⟨g0, g1, g2, g3, g4, g5, g6, g7⟩ := HW.out.1
    go_region_held3 (fun w' => w'.cell? ⟨w.heap.size, 1, none⟩ = some (.int .i64 a) ∧ w'.cell? ⟨w.heap.size, 2, none⟩ = some (.int .i64 times) ∧ w'.cell? ⟨w.heap.size + 1 + 1, 0, none⟩ = some (.int .i64 0) ∧ w'.cell? ⟨w.heap.size + 1 + 1, 1, none⟩ = some (.int .i64 a) ∧ w'.cell? ⟨w.heap.size + 1 + 1, 2, none⟩ = some (.int .i64 times) ∧ w'.cell? ⟨w.heap.size + 1 + 1, 3, none⟩ = some (.bool false) ∧ w'.cell? ⟨w.heap.size + 1 + 1, 4, none⟩ = some (.int .u32 0) ∧ w'.cell? ⟨w.heap.size + 1 + 1, 5, none⟩ = some (.bool false))
      (go_keep)
      (first
        | (go_at_call 22
           refine (HN.out _).mono ?_
           rintro e w1 ⟨rfl, hT, hB1, hz⟩
           have HT := Lib.hid hT
           have HB1 := Lib.hid hB1
           have g0 := keptd g0 hB1
           have g1 := keptd g1 hB1
           have g2 := keptd g2 hB1
           have g3 := keptd g3 hB1
           have g4 := keptd g4 hB1
           have g5 := keptd g5 hB1
           have g6 := keptd g6 hB1
           have g7 := keptd g7 hB1
           obtain ⟨q0, q1, q2, q3, q4, q5⟩ := HW.out.2.1
           have q0 := keptd q0 hB1
           have q1 := keptd q1 hB1
           have q2 := keptd q2 hB1
           have q3 := keptd q3 hB1
           have q4 := keptd q4 hB1
           have q5 := keptd q5 hB1
           have qf := frKept HW.out.2.2.1 (by simp) hB1
           have qf0 := qf 0
           have qf1 := qf 1
           have qf2 := qf 2
           have qf3 := qf 3
           have qf4 := qf 4
           have qf5 := qf 5
           clear qf hT hB1 hz))
    go_wp2_with fail
    exact bodyPost_ret (v := .tuple #[tv 0 (w.heap.size + 3), .agg #[.int .i64 0, .int .i64 a, .int .i64 times, .bool false, .int .u32 0, .bool false]]) (by simp [results, Tryd.results11, go_sem, q0, q1, q2, q3, q4, q5]) rfl
      (made_of (W := (W3 w k a times 0).drew) (by simp [W3]) HW.out.2.2.2.1.drew HT.out HB1.out _ _ _ _ _ _)
set_option maxHeartbeats 4000000 in
set_option maxRecDepth 100000 in
theorem task_1 (k a times : Int) (w : World) (hk : 0 ≤ k ∧ k < 256) (h0 : k % 3 = 1) :
    Calls Tryd.prog 11 #[.agg #[.int .u8 k, .int .i64 a, .int .i64 times]] w fun e w' => MadeP 1 a (capT times) w e w' := by
  obtain ⟨hk0, hk1⟩ := hk
  unfold capT
  by_cases ht : 20 < times
  · rw [if_pos ht]
    have HN := Lib.hid (fun W => bumps_new a 20 W (by omega))
    have HW := three_blocks w k a 20 1
    simp only [W3, Three, SixZ] at HW
    have HW := Lib.hid HW
    go_enter Tryd.func11, Tryd.ntmps11
    go_wp2_with fail
    obtain ⟨g0, g1, g2, g3, g4, g5, g6, g7⟩ := HW.out.1
    go_region_held3 (fun w' => w'.cell? ⟨w.heap.size, 1, none⟩ = some (.int .i64 a) ∧ w'.cell? ⟨w.heap.size, 2, none⟩ = some (.int .i64 20) ∧ w'.cell? ⟨w.heap.size + 1 + 1, 0, none⟩ = some (.int .i64 1) ∧ w'.cell? ⟨w.heap.size + 1 + 1, 1, none⟩ = some (.int .i64 a) ∧ w'.cell? ⟨w.heap.size + 1 + 1, 2, none⟩ = some (.int .i64 20) ∧ w'.cell? ⟨w.heap.size + 1 + 1, 3, none⟩ = some (.bool false) ∧ w'.cell? ⟨w.heap.size + 1 + 1, 4, none⟩ = some (.int .u32 0) ∧ w'.cell? ⟨w.heap.size + 1 + 1, 5, none⟩ = some (.bool false))
      (go_keep)
      (first
        | (go_at_call 24
           refine (HN.out _).mono ?_
           rintro e w1 ⟨rfl, hT, hB1, hz⟩
           have HT := Lib.hid hT
           have HB1 := Lib.hid hB1
           have g0 := keptd g0 hB1
           have g1 := keptd g1 hB1
           have g2 := keptd g2 hB1
           have g3 := keptd g3 hB1
           have g4 := keptd g4 hB1
           have g5 := keptd g5 hB1
           have g6 := keptd g6 hB1
           have g7 := keptd g7 hB1
           obtain ⟨q0, q1, q2, q3, q4, q5⟩ := HW.out.2.1
           have q0 := keptd q0 hB1
           have q1 := keptd q1 hB1
           have q2 := keptd q2 hB1
           have q3 := keptd q3 hB1
           have q4 := keptd q4 hB1
           have q5 := keptd q5 hB1
           have qf := frKept HW.out.2.2.1 (by simp) hB1
           have qf0 := qf 0
           have qf1 := qf 1
           have qf2 := qf 2
           have qf3 := qf 3
           have qf4 := qf 4
           have qf5 := qf 5
           clear qf hT hB1 hz))
    go_wp2_with fail
    exact bodyPost_ret (v := .tuple #[tv 1 (w.heap.size + 3), .agg #[.int .i64 1, .int .i64 a, .int .i64 20, .bool false, .int .u32 0, .bool false]]) (by simp [results, Tryd.results11, go_sem, q0, q1, q2, q3, q4, q5]) rfl
      (made_of (W := (W3 w k a 20 1).drew) (by simp [W3]) HW.out.2.2.2.1.drew HT.out HB1.out _ _ _ _ _ _)
  · rw [if_neg ht]
    have HN := Lib.hid (fun W => bumps_new a times W (by omega))
    have HW := three_blocks w k a times 1
    simp only [W3, Three, SixZ] at HW
    have HW := Lib.hid HW
    go_enter Tryd.func11, Tryd.ntmps11
    go_wp2_with fail
    obtain ⟨g0, g1, g2, g3, g4, g5, g6, g7⟩ := HW.out.1
    go_region_held3 (fun w' => w'.cell? ⟨w.heap.size, 1, none⟩ = some (.int .i64 a) ∧ w'.cell? ⟨w.heap.size, 2, none⟩ = some (.int .i64 times) ∧ w'.cell? ⟨w.heap.size + 1 + 1, 0, none⟩ = some (.int .i64 1) ∧ w'.cell? ⟨w.heap.size + 1 + 1, 1, none⟩ = some (.int .i64 a) ∧ w'.cell? ⟨w.heap.size + 1 + 1, 2, none⟩ = some (.int .i64 times) ∧ w'.cell? ⟨w.heap.size + 1 + 1, 3, none⟩ = some (.bool false) ∧ w'.cell? ⟨w.heap.size + 1 + 1, 4, none⟩ = some (.int .u32 0) ∧ w'.cell? ⟨w.heap.size + 1 + 1, 5, none⟩ = some (.bool false))
      (go_keep)
      (first
        | (go_at_call 24
           refine (HN.out _).mono ?_
           rintro e w1 ⟨rfl, hT, hB1, hz⟩
           have HT := Lib.hid hT
           have HB1 := Lib.hid hB1
           have g0 := keptd g0 hB1
           have g1 := keptd g1 hB1
           have g2 := keptd g2 hB1
           have g3 := keptd g3 hB1
           have g4 := keptd g4 hB1
           have g5 := keptd g5 hB1
           have g6 := keptd g6 hB1
           have g7 := keptd g7 hB1
           obtain ⟨q0, q1, q2, q3, q4, q5⟩ := HW.out.2.1
           have q0 := keptd q0 hB1
           have q1 := keptd q1 hB1
           have q2 := keptd q2 hB1
           have q3 := keptd q3 hB1
           have q4 := keptd q4 hB1
           have q5 := keptd q5 hB1
           have qf := frKept HW.out.2.2.1 (by simp) hB1
           have qf0 := qf 0
           have qf1 := qf 1
           have qf2 := qf 2
           have qf3 := qf 3
           have qf4 := qf 4
           have qf5 := qf 5
           clear qf hT hB1 hz))
    go_wp2_with fail
    exact bodyPost_ret (v := .tuple #[tv 1 (w.heap.size + 3), .agg #[.int .i64 1, .int .i64 a, .int .i64 times, .bool false, .int .u32 0, .bool false]]) (by simp [results, Tryd.results11, go_sem, q0, q1, q2, q3, q4, q5]) rfl
      (made_of (W := (W3 w k a times 1).drew) (by simp [W3]) HW.out.2.2.2.1.drew HT.out HB1.out _ _ _ _ _ _)
set_option maxHeartbeats 4000000 in
set_option maxRecDepth 100000 in
theorem task_2 (k a times : Int) (w : World) (hk : 0 ≤ k ∧ k < 256) (h0 : k % 3 = 2) :
    Calls Tryd.prog 11 #[.agg #[.int .u8 k, .int .i64 a, .int .i64 times]] w fun e w' => MadeP 2 a (capT times) w e w' := by
  obtain ⟨hk0, hk1⟩ := hk
  unfold capT
  by_cases ht : 20 < times
  · rw [if_pos ht]
    have HN := Lib.hid (fun W => swaps_new a 20 W (by omega))
    have HW := three_blocks w k a 20 2
    simp only [W3, Three, SixZ] at HW
    have HW := Lib.hid HW
    go_enter Tryd.func11, Tryd.ntmps11
    go_wp2_with fail
    obtain ⟨g0, g1, g2, g3, g4, g5, g6, g7⟩ := HW.out.1
    go_region_held3 (fun w' => w'.cell? ⟨w.heap.size, 1, none⟩ = some (.int .i64 a) ∧ w'.cell? ⟨w.heap.size, 2, none⟩ = some (.int .i64 20) ∧ w'.cell? ⟨w.heap.size + 1 + 1, 0, none⟩ = some (.int .i64 2) ∧ w'.cell? ⟨w.heap.size + 1 + 1, 1, none⟩ = some (.int .i64 a) ∧ w'.cell? ⟨w.heap.size + 1 + 1, 2, none⟩ = some (.int .i64 20) ∧ w'.cell? ⟨w.heap.size + 1 + 1, 3, none⟩ = some (.bool false) ∧ w'.cell? ⟨w.heap.size + 1 + 1, 4, none⟩ = some (.int .u32 0) ∧ w'.cell? ⟨w.heap.size + 1 + 1, 5, none⟩ = some (.bool false))
      (go_keep)
      (first
        | (go_at_call 21
           refine (HN.out _).mono ?_
           rintro e w1 ⟨rfl, hT, hB1, hz⟩
           have HT := Lib.hid hT
           have HB1 := Lib.hid hB1
           have g0 := keptd g0 hB1
           have g1 := keptd g1 hB1
           have g2 := keptd g2 hB1
           have g3 := keptd g3 hB1
           have g4 := keptd g4 hB1
           have g5 := keptd g5 hB1
           have g6 := keptd g6 hB1
           have g7 := keptd g7 hB1
           obtain ⟨q0, q1, q2, q3, q4, q5⟩ := HW.out.2.1
           have q0 := keptd q0 hB1
           have q1 := keptd q1 hB1
           have q2 := keptd q2 hB1
           have q3 := keptd q3 hB1
           have q4 := keptd q4 hB1
           have q5 := keptd q5 hB1
           have qf := frKept HW.out.2.2.1 (by simp) hB1
           have qf0 := qf 0
           have qf1 := qf 1
           have qf2 := qf 2
           have qf3 := qf 3
           have qf4 := qf 4
           have qf5 := qf 5
           clear qf hT hB1 hz))
    go_wp2_with fail
    exact bodyPost_ret (v := .tuple #[tv 2 (w.heap.size + 3), .agg #[.int .i64 2, .int .i64 a, .int .i64 20, .bool false, .int .u32 0, .bool false]]) (by simp [results, Tryd.results11, go_sem, q0, q1, q2, q3, q4, q5]) rfl
      (made_of (W := (W3 w k a 20 2).drew) (by simp [W3]) HW.out.2.2.2.1.drew HT.out HB1.out _ _ _ _ _ _)
  · rw [if_neg ht]
    have HN := Lib.hid (fun W => swaps_new a times W (by omega))
    have HW := three_blocks w k a times 2
    simp only [W3, Three, SixZ] at HW
    have HW := Lib.hid HW
    go_enter Tryd.func11, Tryd.ntmps11
    go_wp2_with fail
    obtain ⟨g0, g1, g2, g3, g4, g5, g6, g7⟩ := HW.out.1
    go_region_held3 (fun w' => w'.cell? ⟨w.heap.size, 1, none⟩ = some (.int .i64 a) ∧ w'.cell? ⟨w.heap.size, 2, none⟩ = some (.int .i64 times) ∧ w'.cell? ⟨w.heap.size + 1 + 1, 0, none⟩ = some (.int .i64 2) ∧ w'.cell? ⟨w.heap.size + 1 + 1, 1, none⟩ = some (.int .i64 a) ∧ w'.cell? ⟨w.heap.size + 1 + 1, 2, none⟩ = some (.int .i64 times) ∧ w'.cell? ⟨w.heap.size + 1 + 1, 3, none⟩ = some (.bool false) ∧ w'.cell? ⟨w.heap.size + 1 + 1, 4, none⟩ = some (.int .u32 0) ∧ w'.cell? ⟨w.heap.size + 1 + 1, 5, none⟩ = some (.bool false))
      (go_keep)
      (first
        | (go_at_call 21
           refine (HN.out _).mono ?_
           rintro e w1 ⟨rfl, hT, hB1, hz⟩
           have HT := Lib.hid hT
           have HB1 := Lib.hid hB1
           have g0 := keptd g0 hB1
           have g1 := keptd g1 hB1
           have g2 := keptd g2 hB1
           have g3 := keptd g3 hB1
           have g4 := keptd g4 hB1
           have g5 := keptd g5 hB1
           have g6 := keptd g6 hB1
           have g7 := keptd g7 hB1
           obtain ⟨q0, q1, q2, q3, q4, q5⟩ := HW.out.2.1
           have q0 := keptd q0 hB1
           have q1 := keptd q1 hB1
           have q2 := keptd q2 hB1
           have q3 := keptd q3 hB1
           have q4 := keptd q4 hB1
           have q5 := keptd q5 hB1
           have qf := frKept HW.out.2.2.1 (by simp) hB1
           have qf0 := qf 0
           have qf1 := qf 1
           have qf2 := qf 2
           have qf3 := qf 3
           have qf4 := qf 4
           have qf5 := qf 5
           clear qf hT hB1 hz))
    go_wp2_with fail
    exact bodyPost_ret (v := .tuple #[tv 2 (w.heap.size + 3), .agg #[.int .i64 2, .int .i64 a, .int .i64 times, .bool false, .int .u32 0, .bool false]]) (by simp [results, Tryd.results11, go_sem, q0, q1, q2, q3, q4, q5]) rfl
      (made_of (W := (W3 w k a times 2).drew) (by simp [W3]) HW.out.2.2.2.1.drew HT.out HB1.out _ _ _ _ _ _)
theorem task_any (k a times : Int) (w : World) (hk : 0 ≤ k ∧ k < 256) :
    Calls Tryd.prog 11 #[.agg #[.int .u8 k, .int .i64 a, .int .i64 times]] w fun e w' => MadeP (kindT k) a (capT times) w e w' := by
  unfold kindT
  have h : k % 3 = 0 ∨ k % 3 = 1 ∨ k % 3 = 2 := by omega
  rcases h with h | h | h
  · rw [h]; exact task_0 k a times w hk h
  · rw [h]; exact task_1 k a times w hk h
  · rw [h]; exact task_2 k a times w hk h
end Go.Proofs.YtdhanenbcjmfkaaDoor
