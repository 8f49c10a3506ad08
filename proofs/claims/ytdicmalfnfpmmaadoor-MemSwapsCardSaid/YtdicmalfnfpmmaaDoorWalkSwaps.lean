/-
  The walk of MemSwaps.
-/
import Derived.Test.YtdicmalfnfpmmaaDoorSt
namespace Go.Proofs.YtdicmalfnfpmmaaDoor
open Go.RowKit

theorem sw_new (w : World) (hG : GOk w) :
    Calls Tryd.prog 8 #[.int .i64 256] w fun e w' => ∃ g b, e = .returned (.tuple #[.pointer (some ⟨g, 0, none⟩), .int .i64 0]) ∧ St w.heap.size w g b 256 (fun _ => 0) 0 w' :=
  Calls.mono (show Calls Tryd.prog 8 #[.int .i64 256] w _ from new_yes 256 w (by omega) (by omega)) fun _ _ ⟨g, b, e, hM, h1, h2, hB⟩ => ⟨g, b, e, St.new hG hM h1 h2 hB⟩
theorem St.from {B B' g b n : Nat} {w0 W w : World} {f : Nat → Int} {c : Int} (h : St B' W g b n f c w) (hB : Below B w0 W) (hle : B ≤ B') (h6 : 6 ≤ B) : St B w0 g b n f c w :=
  ⟨h.mem, hB.trans (h.bel.mono hle), h6, Nat.le_trans hle h.gB, Nat.le_trans hle h.bB, Nat.le_trans hle h.hB, h.gok⟩
/-- One word of 256. -/
def ptA (a : Nat) (v : Int) : Nat → Int := fun j => if j = a then v else 0
theorem ptA_self (a : Nat) (v : Int) : ptA a v a = v := if_pos rfl
theorem ptA_set (a : Nat) (v u : Int) : ∀ i, i < 256 → setF (ptA a v) a u i = ptA a u i := fun i _ => by
  unfold setF ptA
  split <;> rfl
section
variable {B : Nat} {w0 w : World} {g b : Nat} {c : Int}
theorem sw_store (a : Nat) (v : Int) (ha : a < 256) (h : St B w0 g b 256 (fun _ => 0) 0 w) :
    Calls Tryd.prog 17 #[.pointer (some ⟨g, 0, none⟩), .int .i64 a, .int .u32 v] w fun e w' => e = .returned (.int .i64 0) ∧ St B w0 g b 256 (ptA a v) 1 w' :=
  (store_yes v a g b 256 _ 0 w h.gok h.mem (by omega) (by omega) (by omega)).mono fun _ _ ⟨e, hM, hE⟩ => ⟨e, (h.step hM hE).congr fun i _ => rfl⟩
theorem sw_swap (a : Nat) (v old u : Int) (ha : a < 256) (h : St B w0 g b 256 (ptA a v) 1 w) :
    Calls Tryd.prog 18 #[.pointer (some ⟨g, 0, none⟩), .int .i64 a, .int .u32 old, .int .u32 u] w fun e w' => e = .returned (.tuple #[.bool (decide (v = old)), .int .i64 0]) ∧ St B w0 g b 256 (ptA a (if v = old then u else v)) 2 w' :=
  (swap_yes old u a g b 256 _ 1 w h.gok h.mem (by omega) (by omega) (by omega)).mono fun _ _ ⟨e, hM, hE⟩ => ⟨by rw [e, ptA_self], (h.step hM hE).congr (by rw [ptA_self]; exact ptA_set a v _)⟩
theorem sw_load (a : Nat) (v : Int) (ha : a < 256) (h : St B w0 g b 256 (ptA a v) 2 w) :
    Calls Tryd.prog 19 #[.pointer (some ⟨g, 0, none⟩), .int .i64 a] w fun e w' => e = .returned (.tuple #[.int .u32 v, .int .i64 0]) ∧ St B w0 g b 256 (ptA a v) 3 w' :=
  (load_yes a g b 256 _ 2 w h.gok h.mem (by omega) (by omega) (by omega)).mono fun _ _ ⟨e, hM, hE⟩ => ⟨by rw [e, ptA_self], (h.step hM hE).congr (by rw [ptA_self]; exact ptA_set a v _)⟩
end
set_option maxHeartbeats 4000000 in
set_option maxRecDepth 100000 in
theorem walk_swaps (a : Int) (old v u : Int) (w : World) (hG : GOk w) (ha : 0 ≤ a ∧ a < 256) :
    Calls Tryd.prog 5 #[.int .u8 a, .int .u32 old, .agg #[.int .u32 v, .int .u32 u]] w fun e w' => e = .returned (.bool true) ∧ Below w.heap.size w w' := by
  obtain ⟨k, rfl⟩ := Int.eq_ofNat_of_zero_le ha.1
  have hk : k < 256 := by omega
  have hB0 : Below w.heap.size w (w.alloc (.cells #[.int .u32 v, .int .u32 u] 46)) := (Below.refl _ _).alloc (Nat.le_refl _) _
  have HB0 := Lib.hid hB0
  have HG := Lib.hid (hG.keep hB0)
  have H6 := Lib.hid hG.six
  have HK := Lib.hid hk
  have hsw := fun (B : Nat) (w0 w : World) (g b : Nat) h => sw_swap (B := B) (w0 := w0) (w := w) (g := g) (b := b) k old u v hk h
  obtain ⟨t, ht⟩ : ∃ t, t = decide (old = u) := ⟨_, rfl⟩
  obtain ⟨z, hz⟩ : ∃ z, z = if old = u then v else old := ⟨_, rfl⟩
  rw [← ht, ← hz] at hsw
  have HSW := Lib.hid hsw
  have HT := Lib.hid ht
  have HZ := Lib.hid hz
  clear hsw ht hz
  clear hG hB0 ha
  go_enter Tryd.func5, Tryd.ntmps5
  go_wp2_with fail
  go_quiet (fail)
  go_wp2_with fail
  with_reducible refine (sw_new _ (HG.out.keep (below_drewN (Below.refl _ _) _))).mono ?_
  rintro e w1 ⟨g, b, rfl, h⟩
  have H1 := Lib.hid (h.from (below_drewN HB0.out _) (below_drewN HB0.out _).size H6.out)
  clear h
  go_wp2_with fail
  with_reducible refine (awake_any _ H1.out.gok).mono ?_
  rintro e w2 ⟨rfl, h⟩
  have H2 := Lib.hid (H1.out.keep h)
  clear h
  go_wp2_with fail
  with_reducible refine (sw_store k old HK.out H2.out).mono ?_
  rintro e w3 ⟨rfl, h⟩
  have H3 := Lib.hid h
  clear h
  go_wp2_with fail
  with_reducible refine (HSW.out _ _ _ _ _ H3.out).mono ?_
  rintro e w4 ⟨rfl, h⟩
  have H4 := Lib.hid h
  clear h
  go_wp2_with fail
  with_reducible refine (sw_load k z HK.out H4.out).mono ?_
  rintro e w5 ⟨rfl, h⟩
  have H5 := Lib.hid h
  clear h
  by_cases e : old = u
  · obtain rfl : t = true := by rw [HT.out, decide_eq_true e]
    obtain rfl : z = v := by rw [HZ.out, if_pos e]
    go_wp2_with fail
    go_ret
    exact ⟨by first | rfl | simp [e], H5.out.bel⟩
  · obtain rfl : t = false := by rw [HT.out, decide_eq_false e]
    obtain rfl : z = old := by rw [HZ.out, if_neg e]
    go_wp2_with fail
    go_ret
    exact ⟨by first | rfl | simp [e], H5.out.bel⟩
end Go.Proofs.YtdicmalfnfpmmaaDoor
