/-
  What the reader of plans reads: numbers, and elements without lists.
-/
import Derived.Test.YtkgkjkghdllkhaaDoorMem
import Derived.Test.YtkgkjkghdllkhaaDoorPut
import Derived.Test.YtkgkjkghdllkhaaDoorReads
import Derived.Deep.RegionHeld3
import Derived.RegionTactic
import Derived.Outline
namespace Go.Proofs.YtkgkjkghdllkhaaDoor
open Go.RowKit

/-- A reader that stands at σ. -/
def RdS (w : World) (g b cap : Nat) (s : ByteArray) (σ : St) : Prop := Rd w g b cap s σ.1 σ.2
abbrev gp (g : Nat) : Value := .pointer (some ⟨g, 0, none⟩)

section
variable {w : World} {g b cap : Nat} {s : ByteArray} {σ : St}
theorem RdS.alloc (h : RdS w g b cap s σ) (o : Obj) : RdS (w.alloc o) g b cap s σ := Rd.below h ((Below.refl _ _).alloc (Nat.le_refl _) _)
theorem RdS.drew (h : RdS w g b cap s σ) : RdS w.drew g b cap s σ := Rd.drewN h 1
theorem RdS.below {w' : World} (h : RdS w g b cap s σ) (hb : Below w.heap.size w w') : RdS w' g b cap s σ := Rd.below h hb
theorem RdS.glt (h : RdS w g b cap s σ) : g < w.heap.size := Rd.glt h
theorem d8_bounds (s : ByteArray) (σ : St) : 0 ≤ (d8 s σ).1 ∧ (d8 s σ).1 ≤ 255 := by
  unfold d8
  have := byteI_bounds s σ.1
  split <;> simp <;> omega
theorem d16_bounds (s : ByteArray) (σ : St) : 0 ≤ (d16 s σ).1 ∧ (d16 s σ).1 ≤ 65535 := by
  unfold d16
  have := byteI_bounds s σ.1
  have := byteI_bounds s (σ.1 + 1)
  split <;> simp <;> omega

theorem eight_all (h : RdS w g b cap s σ) :
    Calls Tryd.prog 61 #[gp g] w fun e w' => e = .returned (.int .u8 (d8 s σ).1) ∧ RdS w' g b cap s (d8 s σ).2 ∧ w.grownBy w' (some g) := by
  obtain ⟨k, bad⟩ := σ
  cases hl : lacks s k bad 1
  · obtain ⟨rfl, hn⟩ := lacks_no hl
    have e : d8 s (k, false) = (byteI s k, k + 1, false) := by simp [d8, nextAt, hl]
    rw [e]
    exact eight_ok h (by omega)
  · have e : d8 s (k, bad) = (0, k, true) := by simp [d8, nextAt, hl]
    rw [e]
    exact eight_no h hl
theorem sixteen_all (h : RdS w g b cap s σ) :
    Calls Tryd.prog 60 #[gp g] w fun e w' => e = .returned (.int .u16 (d16 s σ).1) ∧ RdS w' g b cap s (d16 s σ).2 ∧ w.grownBy w' (some g) := by
  obtain ⟨k, bad⟩ := σ
  cases hl : lacks s k bad 2
  · obtain ⟨rfl, hn⟩ := lacks_no hl
    have e : d16 s (k, false) = (byteI s k * 256 + byteI s (k + 1), k + 2, false) := by simp [d16, nextAt, hl]
    rw [e]
    exact sixteen_ok h (by omega)
  · have e : d16 s (k, bad) = (0, k, true) := by simp [d16, nextAt, hl]
    rw [e]
    exact sixteen_no h hl
theorem box1 {w : World} {h t : Nat} {a : Value} (hr : w.heap[h]? = some (.cells #[a] t (0, 0))) : w.heap[h]? = some (.cells #[a] t (0, 0)) ∧ w.cell? ⟨h, 0, none⟩ = some a :=
  ⟨hr, by rw [cell_of_row w h 0 _ t (0, 0) hr]; rfl⟩

theorem frozen_of {w : World} {h t : Nat} {cs : Array Value} (hr : w.heap[h]? = some (.cells cs t (0, 0))) (i : Nat) : w.frozen? ⟨h, i, none⟩ = false := by simp [World.frozen?, hr]
/-- What stands while an element is read: the reader, the box that names it, the place of the result. -/
structure Mid (w w' : World) (g b cap : Nat) (s : ByteArray) (σ : St) (h : Nat) (cs : Array Value) (t : Nat) : Prop where
  rd : RdS w' g b cap s σ
  grown : w.grownBy w' (some g)
  ne : g < h
  row : w'.heap[h]? = some (.cells #[gp g] 81 (0, 0))
  res : w'.heap[h + 1]? = some (.cells cs t (0, 0))
theorem Mid.start (h : RdS w g b cap s σ) (cs : Array Value) (t : Nat) : Mid w (((w.alloc (.cells #[gp g] 81)).alloc (.cells cs t)).drew) g b cap s σ w.heap.size cs t :=
  ⟨((h.alloc _).alloc _).drew, only_below (((Below.refl _ _).alloc (Nat.le_refl _) _).alloc (by simp) _).drew _, h.glt, (heap_alloc_old _ _ (by simp)).trans (heap_alloc_new _ _), by
    have := heap_alloc_new (w.alloc (.cells #[gp g] 81)) (.cells cs t)
    rw [show (w.alloc (.cells #[gp g] 81)).heap.size = w.heap.size + 1 by simp] at this
    exact this⟩
theorem Mid.step {w' w2 : World} {h t : Nat} {cs : Array Value} {σ2 : St} (m : Mid w w' g b cap s σ h cs t) (hR : RdS w2 g b cap s σ2) (hO : w'.grownBy w2 (some g)) : Mid w w2 g b cap s σ2 h cs t := by
  have h1 := m.ne
  exact ⟨hR, only_trans m.grown hO, m.ne, (hO.block _ (Array.getElem?_eq_some_iff.1 m.row).1 (by simp; omega)).trans m.row, (hO.block _ (Array.getElem?_eq_some_iff.1 m.res).1 (by simp; omega)).trans m.res⟩

/-- Behind it. -/
def Fin (w w' : World) (g b cap : Nat) (s : ByteArray) (σ : St) : Prop := RdS w' g b cap s σ ∧ w.grownBy w' (some g) ∧ b < w.heap.size ∧ g < w.heap.size
theorem Fin.set {w' : World} (f : Fin w w' g b cap s σ) {h : Nat} (hh : w.heap.size ≤ h) (i : Nat) (u : Value) : Fin w (w'.setCell ⟨h, i, none⟩ u) g b cap s σ := by
  obtain ⟨h1, h2, h3, h4⟩ := f
  refine ⟨Rd.set_far h1 (by show g ≠ h; omega) (by show b ≠ h; omega) u, ⟨h2.os, h2.tape, h2.output, by simpa [World.setCell] using h2.size, fun k hk hne => ?_⟩, h3, h4⟩
  exact (Below.heap_setCell w' ⟨h, i, none⟩ u k (by show k ≠ h; omega)).trans (h2.block k hk hne)
theorem Mid.fin {w' : World} {h t : Nat} {cs : Array Value} (m : Mid w w' g b cap s σ h cs t) (hb : b < w.heap.size) (hg : g < w.heap.size) : Fin w w' g b cap s σ := ⟨m.rd, m.grown, hb, hg⟩
theorem box6'' {w : World} {h t : Nat} {a b c d e f : Value} (hr : w.heap[h]? = some (.cells #[a, b, c, d, e, f] t (0, 0))) :
    w.heap[h]? = some (.cells #[a, b, c, d, e, f] t (0, 0)) ∧ w.cell? ⟨h, 0, none⟩ = some a ∧ w.cell? ⟨h, 1, none⟩ = some b ∧ w.cell? ⟨h, 2, none⟩ = some c ∧ w.cell? ⟨h, 3, none⟩ = some d ∧ w.cell? ⟨h, 4, none⟩ = some e ∧ w.cell? ⟨h, 5, none⟩ = some f :=
  ⟨hr, by rw [cell_of_row w h 0 _ t (0, 0) hr]; rfl, by rw [cell_of_row w h 1 _ t (0, 0) hr]; rfl, by rw [cell_of_row w h 2 _ t (0, 0) hr]; rfl, by rw [cell_of_row w h 3 _ t (0, 0) hr]; rfl, by rw [cell_of_row w h 4 _ t (0, 0) hr]; rfl, by rw [cell_of_row w h 5 _ t (0, 0) hr]; rfl⟩

set_option maxHeartbeats 4000000 in
set_option maxRecDepth 100000 in
theorem win_any (h : RdS w g b cap s σ) :
    Calls Tryd.prog 82 #[.agg #[gp g]] w fun e w' => e = .returned (.agg (winV (dWin s σ).1).toArray) ∧ RdS w' g b cap s (dWin s σ).2 ∧ w.grownBy w' (some g) := by
  have HM := Lib.hid (Mid.start h #[.int .u16 0, .int .u16 0, .int .u8 0, .int .u8 0] 51)
  have HG := Lib.hid h.glt
  have HB := Lib.hid (Rd.lt h)
  clear h
  go_enter Tryd.func82, Tryd.ntmps82
  go_wp2_with fail
  go_region_held3 (fun w' => w'.cell? ⟨w.heap.size, 0, none⟩ = some (gp g)) (first | exact (box1 HM.out.row).2 | go_keep)
    (first
      | (go_at_call 60; refine (sixteen_all HM.out.rd).mono ?_; rintro e w1 ⟨rfl, hR, hO⟩; have hM := HM.out.step hR hO; clear HM hR hO; have HM := Lib.hid hM; clear hM)
      | (go_at_call 61; refine (eight_all HM.out.rd).mono ?_; rintro e w1 ⟨rfl, hR, hO⟩; have hM := HM.out.step hR hO; clear HM hR hO; have HM := Lib.hid hM; obtain ⟨d0, d1, d2, d3⟩ := (box4 hM.res).2; have fz := frozen_of hM.res; clear hM))
  go_wp2
  refine bodyPost_ret (v := .agg #[.int .u16 (d16 s σ).1, .int .u16 (d16 s (d16 s σ).2).1, .int .u8 (d8 s (d16 s (d16 s σ).2).2).1, .int .u8 (d8 s (d8 s (d16 s (d16 s σ).2).2).2).1]) (by simp [results, Tryd.results82, go_sem, d0, d1, d2, d3]) rfl ?_
  exact ⟨rfl, (((((HM.out.fin HB.out HG.out).set (Nat.le_succ _) _ _).set (Nat.le_succ _) _ _).set (Nat.le_succ _) _ _).set (Nat.le_succ _) _ _).1, (((((HM.out.fin HB.out HG.out).set (Nat.le_succ _) _ _).set (Nat.le_succ _) _ _).set (Nat.le_succ _) _ _).set (Nat.le_succ _) _ _).2.1⟩

set_option maxHeartbeats 4000000 in
set_option maxRecDepth 100000 in
theorem sem_any (h : RdS w g b cap s σ) :
    Calls Tryd.prog 85 #[.agg #[gp g]] w fun e w' => e = .returned (.agg (semV (dSem s σ).1).toArray) ∧ RdS w' g b cap s (dSem s σ).2 ∧ w.grownBy w' (some g) := by
  have HM := Lib.hid (Mid.start h #[.int .u8 0, .int .u8 0] 58)
  have HG := Lib.hid h.glt
  have HB := Lib.hid (Rd.lt h)
  clear h
  go_enter Tryd.func85, Tryd.ntmps85
  go_wp2_with fail
  go_region_held3 (fun w' => w'.cell? ⟨w.heap.size, 0, none⟩ = some (gp g)) (first | exact (box1 HM.out.row).2 | go_keep)
    (first
      | (go_at_call 61; refine (eight_all HM.out.rd).mono ?_; rintro e w1 ⟨rfl, hR, hO⟩; have hM := HM.out.step hR hO; clear HM hR hO; have HM := Lib.hid hM; obtain ⟨d0, d1⟩ := (box2 hM.res).2; have fz := frozen_of hM.res; clear hM))
  go_wp2
  refine bodyPost_ret (v := .agg #[.int .u8 (d8 s σ).1, .int .u8 (d8 s (d8 s σ).2).1]) (by simp [results, Tryd.results85, go_sem, d0, d1]) rfl ?_
  exact ⟨rfl, (((HM.out.fin HB.out HG.out).set (Nat.le_succ _) _ _).set (Nat.le_succ _) _ _).1, (((HM.out.fin HB.out HG.out).set (Nat.le_succ _) _ _).set (Nat.le_succ _) _ _).2.1⟩

set_option maxHeartbeats 4000000 in
set_option maxRecDepth 100000 in
theorem pair_any (h : RdS w g b cap s σ) :
    Calls Tryd.prog 69 #[.agg #[gp g]] w fun e w' => e = .returned (.agg (semV (dPair s σ).1).toArray) ∧ RdS w' g b cap s (dPair s σ).2 ∧ w.grownBy w' (some g) := by
  have HM := Lib.hid (Mid.start h #[.int .u8 0, .int .u8 0] 62)
  have HG := Lib.hid h.glt
  have HB := Lib.hid (Rd.lt h)
  clear h
  go_enter Tryd.func69, Tryd.ntmps69
  go_wp2_with fail
  go_region_held3 (fun w' => w'.cell? ⟨w.heap.size, 0, none⟩ = some (gp g)) (first | exact (box1 HM.out.row).2 | go_keep)
    (first
      | (go_at_call 61; refine (eight_all HM.out.rd).mono ?_; rintro e w1 ⟨rfl, hR, hO⟩; have hM := HM.out.step hR hO; clear HM hR hO; have HM := Lib.hid hM; obtain ⟨d0, d1⟩ := (box2 hM.res).2; have fz := frozen_of hM.res; clear hM))
  go_wp2
  refine bodyPost_ret (v := .agg #[.int .u8 (d8 s σ).1, .int .u8 (d8 s (d8 s σ).2).1]) (by simp [results, Tryd.results69, go_sem, d0, d1]) rfl ?_
  exact ⟨rfl, (((HM.out.fin HB.out HG.out).set (Nat.le_succ _) _ _).set (Nat.le_succ _) _ _).1, (((HM.out.fin HB.out HG.out).set (Nat.le_succ _) _ _).set (Nat.le_succ _) _ _).2.1⟩

end
end Go.Proofs.YtkgkjkghdllkhaaDoor
