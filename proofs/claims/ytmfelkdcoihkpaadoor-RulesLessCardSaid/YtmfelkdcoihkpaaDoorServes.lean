/-
  serves: which partition a core serves at a tick, where at most one of its windows has the tick.
-/
import Derived.Test.YtmfelkdcoihkpaaDoorRefW
import Derived.Test.YtmfelkdcoihkpaaDoorBeside
import Derived.RegionTactic
import Derived.BigRegion
import Derived.LoopTactic
import Derived.Laws.Rows
namespace Go.Proofs.YtmfelkdcoihkpaaDoor
open Go.RowKit

/-- The window that has the tick. -/
def servesV (ws : List WinA) (t : Int) : Int × WinA := match ws.find? (fun w => hasB w t) with
  | some x => (x.2.2.1, x)
  | none => (-1, dW)
/-- At most one window has the tick. -/
def Uniq (ws : List WinA) (t : Int) : Prop := ∀ i j, i < ws.length → j < ws.length → hasB (ws.getD i dW) t = true → hasB (ws.getD j dW) t = true → i = j
theorem find_take_snoc {ws : List WinA} {t : Int} {k : Nat} (hk : k < ws.length) : (ws.take (k + 1)).find? (fun w => hasB w t) = ((ws.take k).find? (fun w => hasB w t)).or (if hasB (ws.getD k dW) t then some (ws.getD k dW) else none) := by
  have e : ws.take (k + 1) = ws.take k ++ [ws.getD k dW] := by
    rw [List.take_succ_eq_append_getElem hk, List.getD_eq_getElem?_getD, List.getElem?_eq_getElem hk]
    rfl
  rw [e, List.find?_append]
  congr 1
  generalize ws.getD k dW = y
  cases h : hasB y t <;> simp [h]
theorem serves_miss {ws : List WinA} {t : Int} {k : Nat} (hk : k < ws.length) (h : hasB (ws.getD k dW) t = false) : servesV (ws.take (k + 1)) t = servesV (ws.take k) t := by
  unfold servesV
  rw [find_take_snoc hk, h]
  simp
theorem serves_none {ws : List WinA} {t : Int} {k : Nat} (hk : k < ws.length) (hU : Uniq ws t) (h : hasB (ws.getD k dW) t = true) : (ws.take k).find? (fun w => hasB w t) = none := by
  rw [List.find?_eq_none]
  intro x hx hb
  obtain ⟨j, hj, rfl⟩ := mem_at dW hx
  rw [List.length_take] at hj
  rw [take_getD dW (by omega)] at hb
  have := hU j k (by omega) hk hb h
  omega
theorem serves_hit {ws : List WinA} {t : Int} {k : Nat} (hk : k < ws.length) (hU : Uniq ws t) (h : hasB (ws.getD k dW) t = true) : servesV (ws.take k) t = (-1, dW) ∧ servesV (ws.take (k + 1)) t = ((ws.getD k dW).2.2.1, ws.getD k dW) := by
  have hn := serves_none hk hU h
  unfold servesV
  rw [find_take_snoc hk, hn, h]
  simp
theorem serves_lo (ws : List WinA) (t : Int) (h : ∀ w ∈ ws, WfWin w) : -1 ≤ (servesV ws t).1 ∧ (servesV ws t).1 ≤ 255 ∧ WfWin (servesV ws t).2 := by
  unfold servesV
  cases hf : ws.find? (fun w => hasB w t) with
  | none =>
    refine ⟨by dsimp only; omega, by dsimp only; omega, ?_⟩
    refine ⟨?_, ?_, ?_, ?_⟩ <;> first | (unfold wide; decide) | (unfold byte; decide)
  | some x =>
    have hx := h x (List.mem_of_find?_eq_some hf)
    have := hx.2.2.1
    unfold byte at this
    exact ⟨by dsimp only; omega, by dsimp only; omega, hx⟩

/-- A window in a block that may be written. -/
def WRow (W : World) (b : Nat) (v : WinA) : Prop := W.heap[b]? = some (.cells #[.int .u16 v.1, .int .u16 v.2.1, .int .u8 v.2.2.1, .int .u8 v.2.2.2] 39 (0, 0))
theorem WRow.keep {W W' : World} {b : Nat} {v : WinA} (h : WRow W b v) (hB : Below W.heap.size W W') : WRow W' b v := (hB.block b (Array.getElem?_eq_some_iff.1 h).1).trans h
theorem WRow.wb {W : World} {b : Nat} {v : WinA} (h : WRow W b v) : WB W b v := ⟨by rw [cell_of_row _ _ _ _ _ _ h]; rfl, by rw [cell_of_row _ _ _ _ _ _ h]; rfl, by rw [cell_of_row _ _ _ _ _ _ h]; rfl, by rw [cell_of_row _ _ _ _ _ _ h]; rfl⟩
theorem WRow.fz {W : World} {b : Nat} {v : WinA} (h : WRow W b v) (j : Nat) : W.frozen? ⟨b, j, none⟩ = false := frozen_of_row _ _ _ _ _ h
theorem WRow.set4 {W : World} {b : Nat} {v : WinA} (h : WRow W b v) (y : WinA) : WRow ((((W.setCell ⟨b, 0, none⟩ (.int .u16 y.1)).setCell ⟨b, 1, none⟩ (.int .u16 y.2.1)).setCell ⟨b, 2, none⟩ (.int .u8 y.2.2.1)).setCell ⟨b, 3, none⟩ (.int .u8 y.2.2.2)) b y := by
  have h1 := heap_setCell_same W b 0 _ 39 (.int .u16 y.1) h
  have h2 := heap_setCell_same _ b 1 _ 39 (.int .u16 y.2.1) h1
  have h3 := heap_setCell_same _ b 2 _ 39 (.int .u8 y.2.2.1) h2
  exact heap_setCell_same _ b 3 _ 39 (.int .u8 y.2.2.2) h3
theorem WRow.far4 {W : World} {b q : Nat} {v : WinA} (h : WRow W b v) (hq : b ≠ q) (u0 u1 u2 u3 : Value) : WRow ((((W.setCell ⟨q, 0, none⟩ u0).setCell ⟨q, 1, none⟩ u1).setCell ⟨q, 2, none⟩ u2).setCell ⟨q, 3, none⟩ u3) b v := by
  unfold WRow
  rw [Below.heap_setCell _ ⟨q, 3, none⟩ _ _ hq, Below.heap_setCell _ ⟨q, 2, none⟩ _ _ hq, Below.heap_setCell _ ⟨q, 1, none⟩ _ _ hq, Below.heap_setCell _ ⟨q, 0, none⟩ _ _ hq]
  exact h

def SRel (w : World) (ws : List WinA) (t : Int) (s i : Value) (wr : World) : Prop :=
  ∃ k : Nat, k ≤ ws.length ∧ i = .int .i64 k ∧ s = .int .i64 (servesV (ws.take k) t).1 ∧ WRow wr (w.heap.size + 1) (servesV (ws.take k) t).2 ∧ WRow wr w.heap.size dW ∧ Below w.heap.size w wr

set_option maxHeartbeats 8000000 in
set_option maxRecDepth 100000 in
theorem serves_any (A : Option Addr) (c : Nat) (ws : List WinA) (t : Int) (w : World) (hA : WinsAt w A ws) (hW : ∀ x ∈ ws, WfWin x) (hU : Uniq ws t) (hn : ws.length ≤ 1000000) :
    Calls Tryd.prog 18 #[.slice A ws.length c, .int .i64 t] w fun e w' => e = .returned (.tuple #[.int .i64 (servesV ws t).1, wv (servesV ws t).2]) ∧ Below w.heap.size w w' := by
  have HA := Lib.hid hA
  have HW := Lib.hid hW
  have HU := Lib.hid hU
  obtain ⟨n, hnn⟩ : ∃ n, n = ws.length := ⟨_, rfl⟩
  rw [← hnn] at hn ⊢
  have HN := Lib.hid hnn
  obtain ⟨R, hR⟩ : ∃ R, R = servesV ws t := ⟨_, rfl⟩
  rw [← hR]
  have HR := Lib.hid hR
  have HB0 : Hid (Below w.heap.size w ((w.alloc (.cells #[.int .u16 0, .int .u16 0, .int .u8 0, .int .u8 0] 39)).alloc (.cells #[.int .u16 0, .int .u16 0, .int .u8 0, .int .u8 0] 39))) := ((Below.refl _ _).alloc (Nat.le_refl _) _).alloc (by simp) _
  have hr1 : WRow ((w.alloc (.cells #[.int .u16 0, .int .u16 0, .int .u8 0, .int .u8 0] 39)).alloc (.cells #[.int .u16 0, .int .u16 0, .int .u8 0, .int .u8 0] 39)) (w.heap.size + 1) dW := by
    have := heap_alloc_new (w.alloc (.cells #[.int .u16 0, .int .u16 0, .int .u8 0, .int .u8 0] 39)) (.cells #[.int .u16 0, .int .u16 0, .int .u8 0, .int .u8 0] 39)
    rw [show (w.alloc (.cells #[.int .u16 0, .int .u16 0, .int .u8 0, .int .u8 0] 39)).heap.size = w.heap.size + 1 by simp] at this
    exact this
  have hr0 : WRow ((w.alloc (.cells #[.int .u16 0, .int .u16 0, .int .u8 0, .int .u8 0] 39)).alloc (.cells #[.int .u16 0, .int .u16 0, .int .u8 0, .int .u8 0] 39)) w.heap.size dW :=
    WRow.keep (v := dW) (W := w.alloc (.cells #[.int .u16 0, .int .u16 0, .int .u8 0, .int .u8 0] 39)) (heap_alloc_new w (.cells #[.int .u16 0, .int .u16 0, .int .u8 0, .int .u8 0] 39)) ((Below.refl _ _).alloc (Nat.le_refl _) _)
  have HR1 := Lib.hid hr1
  have HR0 := Lib.hid hr0
  clear hA hW hU hnn hR hr1 hr0
  go_enter Tryd.func18, Tryd.ntmps18
  go_wp2_with fail
  go_loopw [6, 8] (fun s i wr => SRel w ws t s i wr) (fun _ i _ => n - (intOf i).toNat)
  case atStart => exact ⟨0, Nat.zero_le _, rfl, rfl, HR1.out, HR0.out, HB0.out⟩
  case round =>
    obtain ⟨k, hk, rfl, rfl, h1, h0, hB⟩ := hrel
    rw [← HN.out] at hk
    have HB := Lib.hid hB
    have H1 := Lib.hid h1
    have H0 := Lib.hid h0
    by_cases hlt : k < n
    · have hlw : k < ws.length := by rw [← HN.out]; exact hlt
      obtain ⟨b, o, rfl⟩ := Arr.head HA.out hlw
      have c0 := kept (Arr.at (j := 0) HA.out hlw rfl) hB
      have c1 := kept (Arr.at (j := 1) HA.out hlw rfl) hB
      have c2 := kept (Arr.at (j := 2) HA.out hlw rfl) hB
      have c3 := kept (Arr.at (j := 3) HA.out hlw rfl) hB
      have wy := HW.out _ (getD_mem dW hlw)
      have HHB := Lib.hid (fun W => has_any (ws.getD k dW) t W wy)
      obtain ⟨q, hq⟩ : ∃ q, q = hasB (ws.getD k dW) t := ⟨_, rfl⟩
      rw [← hq] at HHB
      obtain ⟨⟨y0, y1, y2, y3⟩, hy⟩ : ∃ y, y = ws.getD k dW := ⟨_, rfl⟩
      rw [← hy] at HHB
      simp only [wv] at HHB
      simp only [← hy, Nat.add_zero] at c0 c1 c2 c3
      have HY := Lib.hid hy
      cases q
      · have hm := serves_miss (t := t) hlw hq.symm
        obtain ⟨S, hS⟩ : ∃ S, S = servesV (ws.take k) t := ⟨_, rfl⟩
        rw [← hS]
        rw [← hS] at hm H1
        have HM := Lib.hid hm
        clear hm hS hq hy h1 h0 hB hlw wy
        go_wp2_with fail
        refine (HHB.out _).mono ?_
        rintro e w1 ⟨rfl, hB⟩
        have HB1 := Lib.hid hB
        clear hB
        go_wp2_with fail
        go_roundw
        case rel => exact ⟨k + 1, by rw [← HN.out]; omega, by go_num, by rw [HM.out], by rw [HM.out]; exact H1.out.keep HB1.out, H0.out.keep HB1.out, below_two HB.out HB1.out⟩
        case measure => simp [intOf]; omega
      · obtain ⟨hh1, hh2⟩ := serves_hit hlw HU.out hq.symm
        rw [← hy] at hh2
        have HM := Lib.hid hh2
        rw [hh1]
        rw [hh1] at H1
        obtain ⟨-, -, ⟨wy0, wy1⟩, -⟩ := wy
        rw [← hy] at wy0 wy1
        have hk1 := Int.natCast_nonneg k
        have hk2 : (k : Int) < (n : Int) := by omega
        clear hh1 hh2 hq hy h1 h0 hB hlw
        go_wp2_with fail
        refine (HHB.out _).mono ?_
        rintro e w1 ⟨rfl, hB⟩
        have HB1 := Lib.hid hB
        have hrw := H1.out.keep hB
        have HRW := Lib.hid hrw
        obtain ⟨k0, k1, k2, k3⟩ := hrw.wb
        have f0 := hrw.fz 0
        have f1 := hrw.fz 1
        have f2 := hrw.fz 2
        have f3 := hrw.fz 3
        replace c0 := kept c0 hB
        replace c1 := kept c1 hB
        replace c2 := kept c2 hB
        replace c3 := kept c3 hB
        clear hB hrw
        go_wp2_with fail
        go_region
        go_wp2_with fail
        go_roundw
        case rel => exact ⟨k + 1, by rw [← HN.out]; omega, by go_num, by rw [HM.out], by rw [HM.out]; exact (HRW.out.set4 (y0, y1, y2, y3)).keep ((Below.refl _ _).drew), ((H0.out.keep HB1.out).far4 (by omega) _ _ _ _).keep ((Below.refl _ _).drew),
          (((((below_two HB.out HB1.out).setCell (by show w.heap.size ≤ w.heap.size + 1; omega) _).setCell (by show w.heap.size ≤ w.heap.size + 1; omega) _).setCell (by show w.heap.size ≤ w.heap.size + 1; omega) _).setCell (by show w.heap.size ≤ w.heap.size + 1; omega) _).drew⟩
        case measure => simp [intOf]; omega
    · obtain rfl : k = n := by omega
      have he : servesV (ws.take k) t = R := by rw [HR.out, HN.out, List.take_length]
      rw [he] at h1 ⊢
      obtain ⟨r, y0, y1, y2, y3⟩ := R
      have H1 := Lib.hid h1
      obtain ⟨k0, k1, k2, k3⟩ := h1.wb
      obtain ⟨m0, m1, m2, m3⟩ := h0.wb
      have f0 := h0.fz 0
      have f1 := h0.fz 1
      have f2 := h0.fz 2
      have f3 := h0.fz 3
      clear h1 h0 hB he HR
      go_wp2_with fail
      go_region
      go_wp2_with fail
      refine bodyPost_ret (v := .tuple #[.int .i64 r, .agg #[.int .u16 y0, .int .u16 y1, .int .u8 y2, .int .u8 y3]]) (by simp [results, Tryd.results18, go_sem, m0, m1, m2, m3]) rfl ⟨rfl, ?_⟩
      exact (((((HB.out).setCell (by exact Nat.le_refl _) _).setCell (by exact Nat.le_refl _) _).setCell (by exact Nat.le_refl _) _).setCell (by exact Nat.le_refl _) _).drew
end Go.Proofs.YtmfelkdcoihkpaaDoor
