/-
  The document's Step of a sender: a first load without its word.
-/
import Derived.Test.YtnmobalgghggnaaDoorQRef
import Derived.Deep.RegionHeld3
import Derived.Deep.Cut
namespace Go.Proofs.YtnmobalgghggnaaDoor
open Go.RowKit

set_option maxHeartbeats 8000000 in
set_option maxRecDepth 100000 in
theorem st_sm0 (at' ti hd tl ln : Int) (pl s n n10 c1 c10 cp : Nat) (A1 A10 U : Option Addr) (tx : ByteArray) (A11 : Option Addr) (n11 c11 : Nat) (ov : Bool) (L : List ByteArray) (f : Nat → Int) (w : World) (ha : -1000 ≤ at' ∧ at' ≤ 1000) (hc : capP (pl : Int) = true) (hz : 1 ≤ s ∧ s ≤ 32) (hhd : 0 ≤ hd ∧ hd < 4294967296) (htl : 0 ≤ tl ∧ tl < 4294967296)
    (hS : Strs w.heap.size w A1 L) (hk : n10 < L.length) (_ : L.length ≤ 1000) (hm : ∀ m ∈ L, m.size ≤ 32) (hU : Ws w U n f) (hf : ∀ i, i < n → 0 ≤ f i ∧ f i < 4294967296) (_ : 0 < n) (_ : n ≤ 4096) (hno : ¬ (0 ≤ at' ∧ at' < n)) :
    Calls Tryd.prog 18 #[DS.V ⟨at', pl, s, .slice A1 L.length c1, ti, 0, hd, tl, ln, tx, .slice A10 n10 c10, (.slice A11 n11 c11), ov⟩, .bool true, .slice U n cp] w fun e w' => DGoL U ⟨at', pl, s, .slice A1 L.length c1, ti, 0, hd, tl, ln, tx, .slice A10 n10 c10, (.slice A11 n11 c11), true⟩ n f w e w' := by
  have HFD0 := Lib.hid (fd_new w ⟨at', pl, s, .slice A1 L.length c1, ti, 0, hd, tl, ln, tx, .slice A10 n10 c10, (.slice A11 n11 c11), ov⟩)
  have hov : ((n10 : Int) == (L.length : Nat)) = false := by rw [beq_eq_false_iff_ne]; omega
  have HOV := Lib.hid (fun did hd tl ln tx ov W => over_s at' pl s ti did hd tl ln A1 A10 L.length c1 n10 c10 tx (.slice A11 n11 c11) ov W)
  rw [hov] at HOV
  have HP1 := Lib.hid (fun W => refplace_any at' s ti (0) hd tl ln hd pl s tx (.slice A1 L.length c1) (.slice A10 n10 c10) (.slice A11 n11 c11) ov W ha hc hz rfl hhd)
  have HP2 := Lib.hid (fun W => refplace_any at' s ti (0) hd tl ln tl pl s tx (.slice A1 L.length c1) (.slice A10 n10 c10) (.slice A11 n11 c11) ov W ha hc hz rfl htl)
  have HS := Lib.hid hS
  obtain ⟨bA, oA, rfl⟩ := hS.head hk
  have HU := Lib.hid hU
  have hms : (L.getD n10 ByteArray.empty).size ≤ 32 := by rw [List.getD_eq_getElem?_getD, List.getElem?_eq_getElem hk]; exact hm _ (List.getElem_mem hk)
  have HND := Lib.hid (fun W => needs_any _ (L.getD n10 ByteArray.empty).size W rfl (by omega))
  have hcell := fun (W : World) (h : Below w.heap.size w W) => (hS.keep h).cell hk
  have HCELL := Lib.hid hcell
  obtain ⟨m, hmm⟩ : ∃ m, m = L.getD n10 ByteArray.empty := ⟨_, rfl⟩
  rw [← hmm] at HND HCELL hms
  obtain ⟨q, hq⟩ : ∃ q, q = need m.size := ⟨_, rfl⟩
  rw [← hq] at HND
  have hq8 : q ≤ 8 := by rw [hq]; exact need_le hms
  have hw3 : IntKind.i64.wrap (3 + (q : Int)) = 3 + q := IntWalk.i64_in _ (by omega)
  obtain ⟨y1, hy1⟩ : ∃ y, y = base at' pl s hd := ⟨_, rfl⟩
  obtain ⟨y2, hy2⟩ : ∃ y, y = base at' pl s tl := ⟨_, rfl⟩
  have hr1 := base_rng2 (i := hd) ha hc hz
  have hr2 := base_rng2 (i := tl) ha hc hz
  rw [← hy1] at HP1 hr1
  rw [← hy2] at HP2 hr2
  have wy1 : IntKind.i64.wrap y1 = y1 := IntWalk.i64_in _ (by omega)
  have wy2 : IntKind.i64.wrap y2 = y2 := IntWalk.i64_in _ (by omega)
  have wz1 : IntKind.i64.wrap (y1 - 2) = y1 - 2 := IntWalk.i64_in _ (by omega)
  have wz2 : IntKind.i64.wrap (y2 - 2) = y2 - 2 := IntWalk.i64_in _ (by omega)
  have hk0 : (n10 : Int) < L.length := by omega
  have hlast : ((0 : Int) == 3 + (q : Int)) = false := by rw [beq_eq_false_iff_ne]; omega

  simp only [DS.V, sideC] at HOV HP1 HP2 ⊢
  have HF32 := Lib.hid hf
  clear hS hU hcell hm hov hc hz hf
  clear hq hmm hy1 hy2
  go_enter Tryd.func18, Tryd.ntmps18
  go_wp2_with fail
  obtain ⟨w1, hw1⟩ : ∃ w1, w1 = (w.alloc (.cells #[.int .i64 at', .int .i64 pl, .int .i64 s, .slice (some ⟨bA, oA, none⟩) L.length c1, .int .i64 ti, .int .i64 (0), .int .u32 hd, .int .u32 tl, .int .i64 ln, .string tx, .slice A10 n10 c10, (.slice A11 n11 c11), .bool ov] 50)).alloc (.cells #[.int .i64 0, .int .i64 0, .int .i64 0, .slice none 0 0, .int .i64 0, .int .i64 0, .int .u32 0, .int .u32 0, .int .i64 0, .string ⟨#[]⟩, .slice none 0 0, .slice none 0 0, .bool false] 50) := ⟨_, rfl⟩
  have HFD := Lib.hid (show FD w1 w.heap.size ⟨at', pl, s, .slice (some ⟨bA, oA, none⟩) L.length c1, ti, 0, hd, tl, ln, tx, .slice A10 n10 c10, (.slice A11 n11 c11), ov⟩ from by rw [hw1]; exact HFD0.out)
  have HB1 := Lib.hid (show Below w.heap.size w w1 from by rw [hw1]; exact ((Below.refl _ _).alloc (Nat.le_refl _) _).alloc (by simp) _)
  rw [← hw1]
  clear hw1 HFD0
  with_reducible refine (HOV.out _ _ _ _ _ _ _).mono ?_
  rintro e w2 ⟨rfl, hB2⟩
  have HFD := Lib.hid (HFD.out.keep hB2)
  have HB2 := Lib.hid (HB1.out.trans (hB2.mono HB1.out.size))
  have e1 := HCELL.out w2 HB2.out
  obtain ⟨k0, k1, k2, k3, k4, k5, k6, k7, k8, k9, k10, k11, k12⟩ := HFD.out.b.all
  clear hB2 HB1
  dsimp only at k0 k1 k2 k3 k4 k5 k6 k7 k8 k9 k10 k11 k12
  go_wp2_with fail
  go_quiet ((go_at_call 39; exact Calls.quiet_of_same ((HND.out _).mono fun _ _ ⟨h1, h2⟩ => ⟨h1, h2.symm⟩)))
  go_wp2_with fail
  obtain ⟨w3, hw3'⟩ : ∃ w3, w3 = w2.drewN nq := ⟨_, rfl⟩
  have HFD3 := Lib.hid (show FD w3 w.heap.size _ from by rw [hw3']; exact HFD.out.keep (Qt.below ⟨nq, rfl⟩))
  have HB3 := Lib.hid (show Below w.heap.size w w3 from by rw [hw3']; exact HB2.out.trans (Qt.below ⟨nq, rfl⟩))
  rw [← hw3']
  clear hw3' k0 k1 k2 k3 k4 k5 k6 k7 k8 k9 k10 k11 k12 e1 HFD HB2
  have HNX := Lib.hid (fun W W' (h2 : Below W.heap.size W W') (h : Below w3.heap.size w3 W) => And.intro (HFD3.out.keep (h.trans (h2.mono h.size))) (HB3.out.trans ((h.trans (h2.mono h.size)).mono HB3.out.size)))
  obtain ⟨k0, k1, k2, k3, k4, k5, k6, k7, k8, k9, k10, k11, k12⟩ := HFD3.out.b.all
  dsimp only at k0 k1 k2 k3 k4 k5 k6 k7 k8 k9 k10 k11 k12
  go_region_held3 (fun w' => w'.cell? ⟨w.heap.size, 0, none⟩ = some (.int .i64 at') ∧ w'.cell? ⟨w.heap.size, 1, none⟩ = some (.int .i64 pl) ∧ w'.cell? ⟨w.heap.size, 2, none⟩ = some (.int .i64 s) ∧ w'.cell? ⟨w.heap.size, 3, none⟩ = some (.slice (some ⟨bA, oA, none⟩) L.length c1) ∧ w'.cell? ⟨w.heap.size, 4, none⟩ = some (.int .i64 ti) ∧ w'.cell? ⟨w.heap.size, 5, none⟩ = some (.int .i64 0) ∧ w'.cell? ⟨w.heap.size, 6, none⟩ = some (.int .u32 hd) ∧ w'.cell? ⟨w.heap.size, 7, none⟩ = some (.int .u32 tl) ∧ w'.cell? ⟨w.heap.size, 8, none⟩ = some (.int .i64 ln) ∧ w'.cell? ⟨w.heap.size, 9, none⟩ = some (.string tx) ∧ w'.cell? ⟨w.heap.size, 10, none⟩ = some (.slice A10 n10 c10) ∧ w'.cell? ⟨w.heap.size, 11, none⟩ = some (.slice A11 n11 c11) ∧ w'.cell? ⟨w.heap.size, 12, none⟩ = some (.bool ov))
    (go_keep)
    (first
      | (go_at_call 40
         refine (HP1.out _).mono ?_
         rintro e w4 ⟨rfl, hB4⟩
         have hnx := HNX.out _ _ hB4 (by repeat (first | exact Below.refl _ _ | refine Below.drew ?_))
         have HFD4 := Lib.hid hnx.1
         have HB4 := Lib.hid hnx.2
         obtain ⟨r0, r1, r2, r3, r4, r5, r6, r7, r8, r9, r10, r11, r12⟩ := hnx.1.b.all
         dsimp only at r0 r1 r2 r3 r4 r5 r6 r7 r8 r9 r10 r11 r12
         clear hB4 hnx))
  clear k0 k1 k2 k3 k4 k5 k6 k7 k8 k9 k10 k11 k12 HNX
  go_wp2_with fail
  have HNX := Lib.hid (fun W W' (h2 : Below W.heap.size W W') (h : Below w4.heap.size w4 W) => And.intro (HFD4.out.keep (h.trans (h2.mono h.size))) (HB4.out.trans ((h.trans (h2.mono h.size)).mono HB4.out.size)))
  go_region_held3 (fun w' => w'.cell? ⟨w.heap.size, 0, none⟩ = some (.int .i64 at') ∧ w'.cell? ⟨w.heap.size, 1, none⟩ = some (.int .i64 pl) ∧ w'.cell? ⟨w.heap.size, 2, none⟩ = some (.int .i64 s) ∧ w'.cell? ⟨w.heap.size, 3, none⟩ = some (.slice (some ⟨bA, oA, none⟩) L.length c1) ∧ w'.cell? ⟨w.heap.size, 4, none⟩ = some (.int .i64 ti) ∧ w'.cell? ⟨w.heap.size, 5, none⟩ = some (.int .i64 0) ∧ w'.cell? ⟨w.heap.size, 6, none⟩ = some (.int .u32 hd) ∧ w'.cell? ⟨w.heap.size, 7, none⟩ = some (.int .u32 tl) ∧ w'.cell? ⟨w.heap.size, 8, none⟩ = some (.int .i64 ln) ∧ w'.cell? ⟨w.heap.size, 9, none⟩ = some (.string tx) ∧ w'.cell? ⟨w.heap.size, 10, none⟩ = some (.slice A10 n10 c10) ∧ w'.cell? ⟨w.heap.size, 11, none⟩ = some (.slice A11 n11 c11) ∧ w'.cell? ⟨w.heap.size, 12, none⟩ = some (.bool ov))
    (go_keep)
    (first
      | (go_at_call 40
         refine (HP2.out _).mono ?_
         rintro e w5 ⟨rfl, hB4⟩
         have hnx := HNX.out _ _ hB4 (by repeat (first | exact Below.refl _ _ | refine Below.drew ?_))
         have HFD5 := Lib.hid hnx.1
         have HB5 := Lib.hid hnx.2
         obtain ⟨p0, p1, p2, p3, p4, p5, p6, p7, p8, p9, p10, p11, p12⟩ := hnx.1.b.all
         dsimp only at p0 p1 p2 p3 p4 p5 p6 p7 p8 p9 p10 p11 p12
         clear hB4 hnx))
  clear r0 r1 r2 r3 r4 r5 r6 r7 r8 r9 r10 r11 r12 HNX
  obtain ⟨z0, z1, z2, z3, z4, z5, z6, z7, z8, z9, z10, z11, z12⟩ := HFD5.out.z.all
  dsimp only [dZ] at z0 z1 z2 z3 z4 z5 z6 z7 z8 z9 z10 z11 z12
  have f12 := HFD5.out.fb 12
  have g0z := HFD5.out.fz 0
  have g1z := HFD5.out.fz 1
  have g2z := HFD5.out.fz 2
  have g3z := HFD5.out.fz 3
  have g4z := HFD5.out.fz 4
  have g5z := HFD5.out.fz 5
  have g6z := HFD5.out.fz 6
  have g7z := HFD5.out.fz 7
  have g8z := HFD5.out.fz 8
  have g9z := HFD5.out.fz 9
  have g10z := HFD5.out.fz 10
  have g11z := HFD5.out.fz 11
  have g12z := HFD5.out.fz 12
  by_cases hneg : at' < 0
  all_goals
    first | (have hge : (n : Int) ≤ at' := by omega) | skip
    go_wp2_with fail
    refine bodyPost_ret (v := .tuple #[.agg #[.int .i64 at', .int .i64 pl, .int .i64 s, .slice (some ⟨bA, oA, none⟩) L.length c1, .int .i64 ti, .int .i64 0, .int .u32 hd, .int .u32 tl, .int .i64 ln, .string tx, .slice A10 n10 c10, (.slice A11 n11 c11), .bool true], .slice U n cp]) (by simp [results, Tryd.results18, go_sem, same_some, z0, z1, z2, z3, z4, z5, z6, z7, z8, z9, z10, z11, z12]) rfl ⟨U, cp, by simp [DS.V], ?_, ?_, .inl rfl⟩
    · exact HU.out.keep (tail_be (bset HB5.out (Nat.le_refl _)) (by omega) _ _ _ _ _ _ _ _ _ _ _ _ _)
    · exact tail_be (bset HB5.out (Nat.le_refl _)) (by omega) _ _ _ _ _ _ _ _ _ _ _ _ _
end Go.Proofs.YtnmobalgghggnaaDoor
/-
  The document's Step of a sender: a second load without its word.
-/
namespace Go.Proofs.YtnmobalgghggnaaDoor
open Go.RowKit

set_option maxHeartbeats 8000000 in
set_option maxRecDepth 100000 in
theorem st_sm1 (at' ti hd tl ln : Int) (pl s n n10 c1 c10 cp : Nat) (A1 A10 U : Option Addr) (tx : ByteArray) (A11 : Option Addr) (n11 c11 : Nat) (ov : Bool) (L : List ByteArray) (f : Nat → Int) (w : World) (ha : -1000 ≤ at' ∧ at' ≤ 1000) (hc : capP (pl : Int) = true) (hz : 1 ≤ s ∧ s ≤ 32) (hhd : 0 ≤ hd ∧ hd < 4294967296) (htl : 0 ≤ tl ∧ tl < 4294967296)
    (hS : Strs w.heap.size w A1 L) (hk : n10 < L.length) (_ : L.length ≤ 1000) (hm : ∀ m ∈ L, m.size ≤ 32) (hU : Ws w U n f) (hf : ∀ i, i < n → 0 ≤ f i ∧ f i < 4294967296) (_ : 0 < n) (_ : n ≤ 4096) (wv : Int) (hwh : at' + 1 = wv) (hno : ¬ (0 ≤ wv ∧ wv < n)) :
    Calls Tryd.prog 18 #[DS.V ⟨at', pl, s, .slice A1 L.length c1, ti, 1, hd, tl, ln, tx, .slice A10 n10 c10, (.slice A11 n11 c11), ov⟩, .bool true, .slice U n cp] w fun e w' => DGoL U ⟨at', pl, s, .slice A1 L.length c1, ti, 1, hd, tl, ln, tx, .slice A10 n10 c10, (.slice A11 n11 c11), true⟩ n f w e w' := by
  have HFD0 := Lib.hid (fd_new w ⟨at', pl, s, .slice A1 L.length c1, ti, 1, hd, tl, ln, tx, .slice A10 n10 c10, (.slice A11 n11 c11), ov⟩)
  have hov : ((n10 : Int) == (L.length : Nat)) = false := by rw [beq_eq_false_iff_ne]; omega
  have HOV := Lib.hid (fun did hd tl ln tx ov W => over_s at' pl s ti did hd tl ln A1 A10 L.length c1 n10 c10 tx (.slice A11 n11 c11) ov W)
  rw [hov] at HOV
  have HP1 := Lib.hid (fun W => refplace_any at' s ti (1) hd tl ln hd pl s tx (.slice A1 L.length c1) (.slice A10 n10 c10) (.slice A11 n11 c11) ov W ha hc hz rfl hhd)
  have HP2 := Lib.hid (fun W => refplace_any at' s ti (1) hd tl ln tl pl s tx (.slice A1 L.length c1) (.slice A10 n10 c10) (.slice A11 n11 c11) ov W ha hc hz rfl htl)
  have HS := Lib.hid hS
  obtain ⟨bA, oA, rfl⟩ := hS.head hk
  have HU := Lib.hid hU
  have hms : (L.getD n10 ByteArray.empty).size ≤ 32 := by rw [List.getD_eq_getElem?_getD, List.getElem?_eq_getElem hk]; exact hm _ (List.getElem_mem hk)
  have HND := Lib.hid (fun W => needs_any _ (L.getD n10 ByteArray.empty).size W rfl (by omega))
  have hcell := fun (W : World) (h : Below w.heap.size w W) => (hS.keep h).cell hk
  have HCELL := Lib.hid hcell
  obtain ⟨m, hmm⟩ : ∃ m, m = L.getD n10 ByteArray.empty := ⟨_, rfl⟩
  rw [← hmm] at HND HCELL hms
  obtain ⟨q, hq⟩ : ∃ q, q = need m.size := ⟨_, rfl⟩
  rw [← hq] at HND
  have hq8 : q ≤ 8 := by rw [hq]; exact need_le hms
  have hw3 : IntKind.i64.wrap (3 + (q : Int)) = 3 + q := IntWalk.i64_in _ (by omega)
  obtain ⟨y1, hy1⟩ : ∃ y, y = base at' pl s hd := ⟨_, rfl⟩
  obtain ⟨y2, hy2⟩ : ∃ y, y = base at' pl s tl := ⟨_, rfl⟩
  have hr1 := base_rng2 (i := hd) ha hc hz
  have hr2 := base_rng2 (i := tl) ha hc hz
  rw [← hy1] at HP1 hr1
  rw [← hy2] at HP2 hr2
  have wy1 : IntKind.i64.wrap y1 = y1 := IntWalk.i64_in _ (by omega)
  have wy2 : IntKind.i64.wrap y2 = y2 := IntWalk.i64_in _ (by omega)
  have wz1 : IntKind.i64.wrap (y1 - 2) = y1 - 2 := IntWalk.i64_in _ (by omega)
  have wz2 : IntKind.i64.wrap (y2 - 2) = y2 - 2 := IntWalk.i64_in _ (by omega)
  have hk0 : (n10 : Int) < L.length := by omega
  have hlast : ((1 : Int) == 3 + (q : Int)) = false := by rw [beq_eq_false_iff_ne]; omega
  have wa : IntKind.i64.wrap (at' + 1) = wv := by rw [hwh]; exact IntWalk.i64_in _ (by omega)
  have wy3 : IntKind.i64.wrap (y1 + 1) = y1 + 1 := IntWalk.i64_in _ (by omega)
  have wy4 : IntKind.i64.wrap (y2 + 1) = y2 + 1 := IntWalk.i64_in _ (by omega)
  have wz3 : IntKind.i64.wrap (y1 + 1 - 2) = y1 + 1 - 2 := IntWalk.i64_in _ (by omega)
  have wz4 : IntKind.i64.wrap (y2 + 1 - 2) = y2 + 1 - 2 := IntWalk.i64_in _ (by omega)

  simp only [DS.V, sideC] at HOV HP1 HP2 ⊢
  have HF32 := Lib.hid hf
  clear hS hU hcell hm hov hc hz hf
  clear hq hmm hy1 hy2
  go_enter Tryd.func18, Tryd.ntmps18
  go_wp2_with fail
  obtain ⟨w1, hw1⟩ : ∃ w1, w1 = (w.alloc (.cells #[.int .i64 at', .int .i64 pl, .int .i64 s, .slice (some ⟨bA, oA, none⟩) L.length c1, .int .i64 ti, .int .i64 (1), .int .u32 hd, .int .u32 tl, .int .i64 ln, .string tx, .slice A10 n10 c10, (.slice A11 n11 c11), .bool ov] 50)).alloc (.cells #[.int .i64 0, .int .i64 0, .int .i64 0, .slice none 0 0, .int .i64 0, .int .i64 0, .int .u32 0, .int .u32 0, .int .i64 0, .string ⟨#[]⟩, .slice none 0 0, .slice none 0 0, .bool false] 50) := ⟨_, rfl⟩
  have HFD := Lib.hid (show FD w1 w.heap.size ⟨at', pl, s, .slice (some ⟨bA, oA, none⟩) L.length c1, ti, 1, hd, tl, ln, tx, .slice A10 n10 c10, (.slice A11 n11 c11), ov⟩ from by rw [hw1]; exact HFD0.out)
  have HB1 := Lib.hid (show Below w.heap.size w w1 from by rw [hw1]; exact ((Below.refl _ _).alloc (Nat.le_refl _) _).alloc (by simp) _)
  rw [← hw1]
  clear hw1 HFD0
  with_reducible refine (HOV.out _ _ _ _ _ _ _).mono ?_
  rintro e w2 ⟨rfl, hB2⟩
  have HFD := Lib.hid (HFD.out.keep hB2)
  have HB2 := Lib.hid (HB1.out.trans (hB2.mono HB1.out.size))
  have e1 := HCELL.out w2 HB2.out
  obtain ⟨k0, k1, k2, k3, k4, k5, k6, k7, k8, k9, k10, k11, k12⟩ := HFD.out.b.all
  clear hB2 HB1
  dsimp only at k0 k1 k2 k3 k4 k5 k6 k7 k8 k9 k10 k11 k12
  go_wp2_with fail
  go_quiet ((go_at_call 39; exact Calls.quiet_of_same ((HND.out _).mono fun _ _ ⟨h1, h2⟩ => ⟨h1, h2.symm⟩)))
  go_wp2_with fail
  obtain ⟨w3, hw3'⟩ : ∃ w3, w3 = w2.drewN nq := ⟨_, rfl⟩
  have HFD3 := Lib.hid (show FD w3 w.heap.size _ from by rw [hw3']; exact HFD.out.keep (Qt.below ⟨nq, rfl⟩))
  have HB3 := Lib.hid (show Below w.heap.size w w3 from by rw [hw3']; exact HB2.out.trans (Qt.below ⟨nq, rfl⟩))
  rw [← hw3']
  clear hw3' k0 k1 k2 k3 k4 k5 k6 k7 k8 k9 k10 k11 k12 e1 HFD HB2
  have HNX := Lib.hid (fun W W' (h2 : Below W.heap.size W W') (h : Below w3.heap.size w3 W) => And.intro (HFD3.out.keep (h.trans (h2.mono h.size))) (HB3.out.trans ((h.trans (h2.mono h.size)).mono HB3.out.size)))
  obtain ⟨k0, k1, k2, k3, k4, k5, k6, k7, k8, k9, k10, k11, k12⟩ := HFD3.out.b.all
  dsimp only at k0 k1 k2 k3 k4 k5 k6 k7 k8 k9 k10 k11 k12
  go_region_held3 (fun w' => w'.cell? ⟨w.heap.size, 0, none⟩ = some (.int .i64 at') ∧ w'.cell? ⟨w.heap.size, 1, none⟩ = some (.int .i64 pl) ∧ w'.cell? ⟨w.heap.size, 2, none⟩ = some (.int .i64 s) ∧ w'.cell? ⟨w.heap.size, 3, none⟩ = some (.slice (some ⟨bA, oA, none⟩) L.length c1) ∧ w'.cell? ⟨w.heap.size, 4, none⟩ = some (.int .i64 ti) ∧ w'.cell? ⟨w.heap.size, 5, none⟩ = some (.int .i64 1) ∧ w'.cell? ⟨w.heap.size, 6, none⟩ = some (.int .u32 hd) ∧ w'.cell? ⟨w.heap.size, 7, none⟩ = some (.int .u32 tl) ∧ w'.cell? ⟨w.heap.size, 8, none⟩ = some (.int .i64 ln) ∧ w'.cell? ⟨w.heap.size, 9, none⟩ = some (.string tx) ∧ w'.cell? ⟨w.heap.size, 10, none⟩ = some (.slice A10 n10 c10) ∧ w'.cell? ⟨w.heap.size, 11, none⟩ = some (.slice A11 n11 c11) ∧ w'.cell? ⟨w.heap.size, 12, none⟩ = some (.bool ov))
    (go_keep)
    (first
      | (go_at_call 40
         refine (HP1.out _).mono ?_
         rintro e w4 ⟨rfl, hB4⟩
         have hnx := HNX.out _ _ hB4 (by repeat (first | exact Below.refl _ _ | refine Below.drew ?_))
         have HFD4 := Lib.hid hnx.1
         have HB4 := Lib.hid hnx.2
         obtain ⟨r0, r1, r2, r3, r4, r5, r6, r7, r8, r9, r10, r11, r12⟩ := hnx.1.b.all
         dsimp only at r0 r1 r2 r3 r4 r5 r6 r7 r8 r9 r10 r11 r12
         clear hB4 hnx))
  clear k0 k1 k2 k3 k4 k5 k6 k7 k8 k9 k10 k11 k12 HNX
  go_wp2_with fail
  have HNX := Lib.hid (fun W W' (h2 : Below W.heap.size W W') (h : Below w4.heap.size w4 W) => And.intro (HFD4.out.keep (h.trans (h2.mono h.size))) (HB4.out.trans ((h.trans (h2.mono h.size)).mono HB4.out.size)))
  go_region_held3 (fun w' => w'.cell? ⟨w.heap.size, 0, none⟩ = some (.int .i64 at') ∧ w'.cell? ⟨w.heap.size, 1, none⟩ = some (.int .i64 pl) ∧ w'.cell? ⟨w.heap.size, 2, none⟩ = some (.int .i64 s) ∧ w'.cell? ⟨w.heap.size, 3, none⟩ = some (.slice (some ⟨bA, oA, none⟩) L.length c1) ∧ w'.cell? ⟨w.heap.size, 4, none⟩ = some (.int .i64 ti) ∧ w'.cell? ⟨w.heap.size, 5, none⟩ = some (.int .i64 1) ∧ w'.cell? ⟨w.heap.size, 6, none⟩ = some (.int .u32 hd) ∧ w'.cell? ⟨w.heap.size, 7, none⟩ = some (.int .u32 tl) ∧ w'.cell? ⟨w.heap.size, 8, none⟩ = some (.int .i64 ln) ∧ w'.cell? ⟨w.heap.size, 9, none⟩ = some (.string tx) ∧ w'.cell? ⟨w.heap.size, 10, none⟩ = some (.slice A10 n10 c10) ∧ w'.cell? ⟨w.heap.size, 11, none⟩ = some (.slice A11 n11 c11) ∧ w'.cell? ⟨w.heap.size, 12, none⟩ = some (.bool ov))
    (go_keep)
    (first
      | (go_at_call 40
         refine (HP2.out _).mono ?_
         rintro e w5 ⟨rfl, hB4⟩
         have hnx := HNX.out _ _ hB4 (by repeat (first | exact Below.refl _ _ | refine Below.drew ?_))
         have HFD5 := Lib.hid hnx.1
         have HB5 := Lib.hid hnx.2
         obtain ⟨p0, p1, p2, p3, p4, p5, p6, p7, p8, p9, p10, p11, p12⟩ := hnx.1.b.all
         dsimp only at p0 p1 p2 p3 p4 p5 p6 p7 p8 p9 p10 p11 p12
         clear hB4 hnx))
  clear r0 r1 r2 r3 r4 r5 r6 r7 r8 r9 r10 r11 r12 HNX
  obtain ⟨z0, z1, z2, z3, z4, z5, z6, z7, z8, z9, z10, z11, z12⟩ := HFD5.out.z.all
  dsimp only [dZ] at z0 z1 z2 z3 z4 z5 z6 z7 z8 z9 z10 z11 z12
  have f12 := HFD5.out.fb 12
  have g0z := HFD5.out.fz 0
  have g1z := HFD5.out.fz 1
  have g2z := HFD5.out.fz 2
  have g3z := HFD5.out.fz 3
  have g4z := HFD5.out.fz 4
  have g5z := HFD5.out.fz 5
  have g6z := HFD5.out.fz 6
  have g7z := HFD5.out.fz 7
  have g8z := HFD5.out.fz 8
  have g9z := HFD5.out.fz 9
  have g10z := HFD5.out.fz 10
  have g11z := HFD5.out.fz 11
  have g12z := HFD5.out.fz 12
  by_cases hneg : wv < 0
  all_goals
    first | (have hge : (n : Int) ≤ wv := by omega) | skip
    go_wp2_with fail
    refine bodyPost_ret (v := .tuple #[.agg #[.int .i64 at', .int .i64 pl, .int .i64 s, .slice (some ⟨bA, oA, none⟩) L.length c1, .int .i64 ti, .int .i64 1, .int .u32 hd, .int .u32 tl, .int .i64 ln, .string tx, .slice A10 n10 c10, (.slice A11 n11 c11), .bool true], .slice U n cp]) (by simp [results, Tryd.results18, go_sem, same_some, z0, z1, z2, z3, z4, z5, z6, z7, z8, z9, z10, z11, z12]) rfl ⟨U, cp, by simp [DS.V], ?_, ?_, .inl rfl⟩
    · exact HU.out.keep (tail_be (bset HB5.out (Nat.le_refl _)) (by omega) _ _ _ _ _ _ _ _ _ _ _ _ _)
    · exact tail_be (bset HB5.out (Nat.le_refl _)) (by omega) _ _ _ _ _ _ _ _ _ _ _ _ _
end Go.Proofs.YtnmobalgghggnaaDoor
/-
  The document's Step of a sender: a length without its word.
-/
namespace Go.Proofs.YtnmobalgghggnaaDoor
open Go.RowKit

set_option maxHeartbeats 8000000 in
set_option maxRecDepth 100000 in
theorem st_sm2 (at' ti hd tl ln : Int) (pl s n n10 c1 c10 cp : Nat) (A1 A10 U : Option Addr) (tx : ByteArray) (A11 : Option Addr) (n11 c11 : Nat) (ov : Bool) (L : List ByteArray) (f : Nat → Int) (w : World) (ha : -1000 ≤ at' ∧ at' ≤ 1000) (hc : capP (pl : Int) = true) (hz : 1 ≤ s ∧ s ≤ 32) (hhd : 0 ≤ hd ∧ hd < 4294967296) (htl : 0 ≤ tl ∧ tl < 4294967296)
    (hS : Strs w.heap.size w A1 L) (hk : n10 < L.length) (_ : L.length ≤ 1000) (hm : ∀ m ∈ L, m.size ≤ 32) (hU : Ws w U n f) (hf : ∀ i, i < n → 0 ≤ f i ∧ f i < 4294967296) (_ : 0 < n) (_ : n ≤ 4096) (hno : ¬ (0 ≤ base at' pl s tl ∧ base at' pl s tl < n)) :
    Calls Tryd.prog 18 #[DS.V ⟨at', pl, s, .slice A1 L.length c1, ti, 2, hd, tl, ln, tx, .slice A10 n10 c10, (.slice A11 n11 c11), ov⟩, .bool true, .slice U n cp] w fun e w' => DGoL U ⟨at', pl, s, .slice A1 L.length c1, ti, 2, hd, tl, ln, tx, .slice A10 n10 c10, (.slice A11 n11 c11), true⟩ n f w e w' := by
  have HFD0 := Lib.hid (fd_new w ⟨at', pl, s, .slice A1 L.length c1, ti, 2, hd, tl, ln, tx, .slice A10 n10 c10, (.slice A11 n11 c11), ov⟩)
  have hov : ((n10 : Int) == (L.length : Nat)) = false := by rw [beq_eq_false_iff_ne]; omega
  have HOV := Lib.hid (fun did hd tl ln tx ov W => over_s at' pl s ti did hd tl ln A1 A10 L.length c1 n10 c10 tx (.slice A11 n11 c11) ov W)
  rw [hov] at HOV
  have HP1 := Lib.hid (fun W => refplace_any at' s ti (2) hd tl ln hd pl s tx (.slice A1 L.length c1) (.slice A10 n10 c10) (.slice A11 n11 c11) ov W ha hc hz rfl hhd)
  have HP2 := Lib.hid (fun W => refplace_any at' s ti (2) hd tl ln tl pl s tx (.slice A1 L.length c1) (.slice A10 n10 c10) (.slice A11 n11 c11) ov W ha hc hz rfl htl)
  have HS := Lib.hid hS
  obtain ⟨bA, oA, rfl⟩ := hS.head hk
  have HU := Lib.hid hU
  have hms : (L.getD n10 ByteArray.empty).size ≤ 32 := by rw [List.getD_eq_getElem?_getD, List.getElem?_eq_getElem hk]; exact hm _ (List.getElem_mem hk)
  have HND := Lib.hid (fun W => needs_any _ (L.getD n10 ByteArray.empty).size W rfl (by omega))
  have hcell := fun (W : World) (h : Below w.heap.size w W) => (hS.keep h).cell hk
  have HCELL := Lib.hid hcell
  obtain ⟨m, hmm⟩ : ∃ m, m = L.getD n10 ByteArray.empty := ⟨_, rfl⟩
  rw [← hmm] at HND HCELL hms
  obtain ⟨q, hq⟩ : ∃ q, q = need m.size := ⟨_, rfl⟩
  rw [← hq] at HND
  have hq8 : q ≤ 8 := by rw [hq]; exact need_le hms
  have hw3 : IntKind.i64.wrap (3 + (q : Int)) = 3 + q := IntWalk.i64_in _ (by omega)
  obtain ⟨y1, hy1⟩ : ∃ y, y = base at' pl s hd := ⟨_, rfl⟩
  obtain ⟨y2, hy2⟩ : ∃ y, y = base at' pl s tl := ⟨_, rfl⟩
  have hr1 := base_rng2 (i := hd) ha hc hz
  have hr2 := base_rng2 (i := tl) ha hc hz
  rw [← hy1] at HP1 hr1
  rw [← hy2] at HP2 hr2
  have wy1 : IntKind.i64.wrap y1 = y1 := IntWalk.i64_in _ (by omega)
  have wy2 : IntKind.i64.wrap y2 = y2 := IntWalk.i64_in _ (by omega)
  have wz1 : IntKind.i64.wrap (y1 - 2) = y1 - 2 := IntWalk.i64_in _ (by omega)
  have wz2 : IntKind.i64.wrap (y2 - 2) = y2 - 2 := IntWalk.i64_in _ (by omega)
  have hk0 : (n10 : Int) < L.length := by omega
  have hlast : ((2 : Int) == 3 + (q : Int)) = false := by rw [beq_eq_false_iff_ne]; omega
  rw [← hy2] at hno
  have wy3 : IntKind.i64.wrap (y1 + 2) = y1 + 2 := IntWalk.i64_in _ (by omega)
  have wy4 : IntKind.i64.wrap (y2 + 2) = y2 + 2 := IntWalk.i64_in _ (by omega)
  have wz3 : IntKind.i64.wrap (y1 + 2 - 2) = y1 := by rw [IntWalk.i64_in _ (by omega)]; omega
  have wz4 : IntKind.i64.wrap (y2 + 2 - 2) = y2 := by rw [IntWalk.i64_in _ (by omega)]; omega

  simp only [DS.V, sideC] at HOV HP1 HP2 ⊢
  have HF32 := Lib.hid hf
  clear hS hU hcell hm hov hc hz hf
  clear hq hmm hy1 hy2
  go_enter Tryd.func18, Tryd.ntmps18
  go_wp2_with fail
  obtain ⟨w1, hw1⟩ : ∃ w1, w1 = (w.alloc (.cells #[.int .i64 at', .int .i64 pl, .int .i64 s, .slice (some ⟨bA, oA, none⟩) L.length c1, .int .i64 ti, .int .i64 (2), .int .u32 hd, .int .u32 tl, .int .i64 ln, .string tx, .slice A10 n10 c10, (.slice A11 n11 c11), .bool ov] 50)).alloc (.cells #[.int .i64 0, .int .i64 0, .int .i64 0, .slice none 0 0, .int .i64 0, .int .i64 0, .int .u32 0, .int .u32 0, .int .i64 0, .string ⟨#[]⟩, .slice none 0 0, .slice none 0 0, .bool false] 50) := ⟨_, rfl⟩
  have HFD := Lib.hid (show FD w1 w.heap.size ⟨at', pl, s, .slice (some ⟨bA, oA, none⟩) L.length c1, ti, 2, hd, tl, ln, tx, .slice A10 n10 c10, (.slice A11 n11 c11), ov⟩ from by rw [hw1]; exact HFD0.out)
  have HB1 := Lib.hid (show Below w.heap.size w w1 from by rw [hw1]; exact ((Below.refl _ _).alloc (Nat.le_refl _) _).alloc (by simp) _)
  rw [← hw1]
  clear hw1 HFD0
  with_reducible refine (HOV.out _ _ _ _ _ _ _).mono ?_
  rintro e w2 ⟨rfl, hB2⟩
  have HFD := Lib.hid (HFD.out.keep hB2)
  have HB2 := Lib.hid (HB1.out.trans (hB2.mono HB1.out.size))
  have e1 := HCELL.out w2 HB2.out
  obtain ⟨k0, k1, k2, k3, k4, k5, k6, k7, k8, k9, k10, k11, k12⟩ := HFD.out.b.all
  clear hB2 HB1
  dsimp only at k0 k1 k2 k3 k4 k5 k6 k7 k8 k9 k10 k11 k12
  go_wp2_with fail
  go_quiet ((go_at_call 39; exact Calls.quiet_of_same ((HND.out _).mono fun _ _ ⟨h1, h2⟩ => ⟨h1, h2.symm⟩)))
  go_wp2_with fail
  obtain ⟨w3, hw3'⟩ : ∃ w3, w3 = w2.drewN nq := ⟨_, rfl⟩
  have HFD3 := Lib.hid (show FD w3 w.heap.size _ from by rw [hw3']; exact HFD.out.keep (Qt.below ⟨nq, rfl⟩))
  have HB3 := Lib.hid (show Below w.heap.size w w3 from by rw [hw3']; exact HB2.out.trans (Qt.below ⟨nq, rfl⟩))
  rw [← hw3']
  clear hw3' k0 k1 k2 k3 k4 k5 k6 k7 k8 k9 k10 k11 k12 e1 HFD HB2
  have HNX := Lib.hid (fun W W' (h2 : Below W.heap.size W W') (h : Below w3.heap.size w3 W) => And.intro (HFD3.out.keep (h.trans (h2.mono h.size))) (HB3.out.trans ((h.trans (h2.mono h.size)).mono HB3.out.size)))
  obtain ⟨k0, k1, k2, k3, k4, k5, k6, k7, k8, k9, k10, k11, k12⟩ := HFD3.out.b.all
  dsimp only at k0 k1 k2 k3 k4 k5 k6 k7 k8 k9 k10 k11 k12
  go_region_held3 (fun w' => w'.cell? ⟨w.heap.size, 0, none⟩ = some (.int .i64 at') ∧ w'.cell? ⟨w.heap.size, 1, none⟩ = some (.int .i64 pl) ∧ w'.cell? ⟨w.heap.size, 2, none⟩ = some (.int .i64 s) ∧ w'.cell? ⟨w.heap.size, 3, none⟩ = some (.slice (some ⟨bA, oA, none⟩) L.length c1) ∧ w'.cell? ⟨w.heap.size, 4, none⟩ = some (.int .i64 ti) ∧ w'.cell? ⟨w.heap.size, 5, none⟩ = some (.int .i64 2) ∧ w'.cell? ⟨w.heap.size, 6, none⟩ = some (.int .u32 hd) ∧ w'.cell? ⟨w.heap.size, 7, none⟩ = some (.int .u32 tl) ∧ w'.cell? ⟨w.heap.size, 8, none⟩ = some (.int .i64 ln) ∧ w'.cell? ⟨w.heap.size, 9, none⟩ = some (.string tx) ∧ w'.cell? ⟨w.heap.size, 10, none⟩ = some (.slice A10 n10 c10) ∧ w'.cell? ⟨w.heap.size, 11, none⟩ = some (.slice A11 n11 c11) ∧ w'.cell? ⟨w.heap.size, 12, none⟩ = some (.bool ov))
    (go_keep)
    (first
      | (go_at_call 40
         refine (HP1.out _).mono ?_
         rintro e w4 ⟨rfl, hB4⟩
         have hnx := HNX.out _ _ hB4 (by repeat (first | exact Below.refl _ _ | refine Below.drew ?_))
         have HFD4 := Lib.hid hnx.1
         have HB4 := Lib.hid hnx.2
         obtain ⟨r0, r1, r2, r3, r4, r5, r6, r7, r8, r9, r10, r11, r12⟩ := hnx.1.b.all
         dsimp only at r0 r1 r2 r3 r4 r5 r6 r7 r8 r9 r10 r11 r12
         clear hB4 hnx))
  clear k0 k1 k2 k3 k4 k5 k6 k7 k8 k9 k10 k11 k12 HNX
  go_wp2_with fail
  have HNX := Lib.hid (fun W W' (h2 : Below W.heap.size W W') (h : Below w4.heap.size w4 W) => And.intro (HFD4.out.keep (h.trans (h2.mono h.size))) (HB4.out.trans ((h.trans (h2.mono h.size)).mono HB4.out.size)))
  go_region_held3 (fun w' => w'.cell? ⟨w.heap.size, 0, none⟩ = some (.int .i64 at') ∧ w'.cell? ⟨w.heap.size, 1, none⟩ = some (.int .i64 pl) ∧ w'.cell? ⟨w.heap.size, 2, none⟩ = some (.int .i64 s) ∧ w'.cell? ⟨w.heap.size, 3, none⟩ = some (.slice (some ⟨bA, oA, none⟩) L.length c1) ∧ w'.cell? ⟨w.heap.size, 4, none⟩ = some (.int .i64 ti) ∧ w'.cell? ⟨w.heap.size, 5, none⟩ = some (.int .i64 2) ∧ w'.cell? ⟨w.heap.size, 6, none⟩ = some (.int .u32 hd) ∧ w'.cell? ⟨w.heap.size, 7, none⟩ = some (.int .u32 tl) ∧ w'.cell? ⟨w.heap.size, 8, none⟩ = some (.int .i64 ln) ∧ w'.cell? ⟨w.heap.size, 9, none⟩ = some (.string tx) ∧ w'.cell? ⟨w.heap.size, 10, none⟩ = some (.slice A10 n10 c10) ∧ w'.cell? ⟨w.heap.size, 11, none⟩ = some (.slice A11 n11 c11) ∧ w'.cell? ⟨w.heap.size, 12, none⟩ = some (.bool ov))
    (go_keep)
    (first
      | (go_at_call 40
         refine (HP2.out _).mono ?_
         rintro e w5 ⟨rfl, hB4⟩
         have hnx := HNX.out _ _ hB4 (by repeat (first | exact Below.refl _ _ | refine Below.drew ?_))
         have HFD5 := Lib.hid hnx.1
         have HB5 := Lib.hid hnx.2
         obtain ⟨p0, p1, p2, p3, p4, p5, p6, p7, p8, p9, p10, p11, p12⟩ := hnx.1.b.all
         dsimp only at p0 p1 p2 p3 p4 p5 p6 p7 p8 p9 p10 p11 p12
         clear hB4 hnx))
  clear r0 r1 r2 r3 r4 r5 r6 r7 r8 r9 r10 r11 r12 HNX
  obtain ⟨z0, z1, z2, z3, z4, z5, z6, z7, z8, z9, z10, z11, z12⟩ := HFD5.out.z.all
  dsimp only [dZ] at z0 z1 z2 z3 z4 z5 z6 z7 z8 z9 z10 z11 z12
  have f12 := HFD5.out.fb 12
  have g0z := HFD5.out.fz 0
  have g1z := HFD5.out.fz 1
  have g2z := HFD5.out.fz 2
  have g3z := HFD5.out.fz 3
  have g4z := HFD5.out.fz 4
  have g5z := HFD5.out.fz 5
  have g6z := HFD5.out.fz 6
  have g7z := HFD5.out.fz 7
  have g8z := HFD5.out.fz 8
  have g9z := HFD5.out.fz 9
  have g10z := HFD5.out.fz 10
  have g11z := HFD5.out.fz 11
  have g12z := HFD5.out.fz 12
  by_cases hneg : y2 < 0
  all_goals
    first | (have hge : (n : Int) ≤ y2 := by omega) | skip
    go_wp2_with fail
    refine bodyPost_ret (v := .tuple #[.agg #[.int .i64 at', .int .i64 pl, .int .i64 s, .slice (some ⟨bA, oA, none⟩) L.length c1, .int .i64 ti, .int .i64 2, .int .u32 hd, .int .u32 tl, .int .i64 ln, .string tx, .slice A10 n10 c10, (.slice A11 n11 c11), .bool true], .slice U n cp]) (by simp [results, Tryd.results18, go_sem, same_some, z0, z1, z2, z3, z4, z5, z6, z7, z8, z9, z10, z11, z12]) rfl ⟨U, cp, by simp [DS.V], ?_, ?_, .inl rfl⟩
    · exact HU.out.keep (tail_be (bset HB5.out (Nat.le_refl _)) (by omega) _ _ _ _ _ _ _ _ _ _ _ _ _)
    · exact tail_be (bset HB5.out (Nat.le_refl _)) (by omega) _ _ _ _ _ _ _ _ _ _ _ _ _
end Go.Proofs.YtnmobalgghggnaaDoor
/-
  The document's Step of a sender: a message's word without its place.
-/
namespace Go.Proofs.YtnmobalgghggnaaDoor
open Go.RowKit

set_option maxHeartbeats 8000000 in
set_option maxRecDepth 100000 in
theorem st_sm3 (at' ti hd tl ln : Int) (pl s n n10 c1 c10 cp : Nat) (A1 A10 U : Option Addr) (tx : ByteArray) (A11 : Option Addr) (n11 c11 : Nat) (ov : Bool) (L : List ByteArray) (f : Nat → Int) (w : World) (ha : -1000 ≤ at' ∧ at' ≤ 1000) (hc : capP (pl : Int) = true) (hz : 1 ≤ s ∧ s ≤ 32) (hhd : 0 ≤ hd ∧ hd < 4294967296) (htl : 0 ≤ tl ∧ tl < 4294967296)
    (hS : Strs w.heap.size w A1 L) (hk : n10 < L.length) (_ : L.length ≤ 1000) (hm : ∀ m ∈ L, m.size ≤ 32) (hU : Ws w U n f) (hf : ∀ i, i < n → 0 ≤ f i ∧ f i < 4294967296) (_ : 0 < n) (_ : n ≤ 4096) (dd wv : Int) (pa : Nat) (hdd : dd = 3 + pa) (hpa : pa < need (L.getD n10 ByteArray.empty).size) (hwh : base at' pl s tl + 1 + pa = wv) (hno : ¬ (0 ≤ wv ∧ wv < n)) :
    Calls Tryd.prog 18 #[DS.V ⟨at', pl, s, .slice A1 L.length c1, ti, dd, hd, tl, ln, tx, .slice A10 n10 c10, (.slice A11 n11 c11), ov⟩, .bool true, .slice U n cp] w fun e w' => DGoL U ⟨at', pl, s, .slice A1 L.length c1, ti, dd, hd, tl, ln, tx, .slice A10 n10 c10, (.slice A11 n11 c11), true⟩ n f w e w' := by
  have HFD0 := Lib.hid (fd_new w ⟨at', pl, s, .slice A1 L.length c1, ti, dd, hd, tl, ln, tx, .slice A10 n10 c10, (.slice A11 n11 c11), ov⟩)
  have hov : ((n10 : Int) == (L.length : Nat)) = false := by rw [beq_eq_false_iff_ne]; omega
  have HOV := Lib.hid (fun did hd tl ln tx ov W => over_s at' pl s ti did hd tl ln A1 A10 L.length c1 n10 c10 tx (.slice A11 n11 c11) ov W)
  rw [hov] at HOV
  have HP1 := Lib.hid (fun W => refplace_any at' s ti (dd) hd tl ln hd pl s tx (.slice A1 L.length c1) (.slice A10 n10 c10) (.slice A11 n11 c11) ov W ha hc hz rfl hhd)
  have HP2 := Lib.hid (fun W => refplace_any at' s ti (dd) hd tl ln tl pl s tx (.slice A1 L.length c1) (.slice A10 n10 c10) (.slice A11 n11 c11) ov W ha hc hz rfl htl)
  have HS := Lib.hid hS
  obtain ⟨bA, oA, rfl⟩ := hS.head hk
  have HU := Lib.hid hU
  have hms : (L.getD n10 ByteArray.empty).size ≤ 32 := by rw [List.getD_eq_getElem?_getD, List.getElem?_eq_getElem hk]; exact hm _ (List.getElem_mem hk)
  have HND := Lib.hid (fun W => needs_any _ (L.getD n10 ByteArray.empty).size W rfl (by omega))
  have hcell := fun (W : World) (h : Below w.heap.size w W) => (hS.keep h).cell hk
  have HCELL := Lib.hid hcell
  obtain ⟨m, hmm⟩ : ∃ m, m = L.getD n10 ByteArray.empty := ⟨_, rfl⟩
  rw [← hmm] at HND HCELL hms
  obtain ⟨q, hq⟩ : ∃ q, q = need m.size := ⟨_, rfl⟩
  rw [← hq] at HND
  have hq8 : q ≤ 8 := by rw [hq]; exact need_le hms
  have hw3 : IntKind.i64.wrap (3 + (q : Int)) = 3 + q := IntWalk.i64_in _ (by omega)
  obtain ⟨y1, hy1⟩ : ∃ y, y = base at' pl s hd := ⟨_, rfl⟩
  obtain ⟨y2, hy2⟩ : ∃ y, y = base at' pl s tl := ⟨_, rfl⟩
  have hr1 := base_rng2 (i := hd) ha hc hz
  have hr2 := base_rng2 (i := tl) ha hc hz
  rw [← hy1] at HP1 hr1
  rw [← hy2] at HP2 hr2
  have wy1 : IntKind.i64.wrap y1 = y1 := IntWalk.i64_in _ (by omega)
  have wy2 : IntKind.i64.wrap y2 = y2 := IntWalk.i64_in _ (by omega)
  have wz1 : IntKind.i64.wrap (y1 - 2) = y1 - 2 := IntWalk.i64_in _ (by omega)
  have wz2 : IntKind.i64.wrap (y2 - 2) = y2 - 2 := IntWalk.i64_in _ (by omega)
  have hk0 : (n10 : Int) < L.length := by omega
  have hpq : pa < q := by rw [hq, hmm]; exact hpa
  have hlast : (dd == 3 + (q : Int)) = false := by rw [beq_eq_false_iff_ne]; omega
  have hd0 : (dd == 0) = false := by rw [beq_eq_false_iff_ne]; omega
  have hd1 : (dd == 1) = false := by rw [beq_eq_false_iff_ne]; omega
  have hd2 : (dd == 2) = false := by rw [beq_eq_false_iff_ne]; omega
  have hd3 : ¬ dd < 2 := by omega
  have wd1 : IntKind.i64.wrap (dd + 1) = dd + 1 := IntWalk.i64_in _ (by omega)
  have wy3 : IntKind.i64.wrap (y1 + dd) = y1 + dd := IntWalk.i64_in _ (by omega)
  have wy4 : IntKind.i64.wrap (y2 + dd) = y2 + dd := IntWalk.i64_in _ (by omega)
  have wz3 : IntKind.i64.wrap (y1 + dd - 2) = y1 + dd - 2 := IntWalk.i64_in _ (by omega)
  have wz4 : IntKind.i64.wrap (y2 + dd - 2) = wv := by rw [IntWalk.i64_in _ (by omega)]; omega
  clear hdd hpa hpq

  simp only [DS.V, sideC] at HOV HP1 HP2 ⊢
  have HF32 := Lib.hid hf
  clear hS hU hcell hm hov hc hz hf
  clear hq hmm hy1 hy2
  go_enter Tryd.func18, Tryd.ntmps18
  go_wp2_with fail
  obtain ⟨w1, hw1⟩ : ∃ w1, w1 = (w.alloc (.cells #[.int .i64 at', .int .i64 pl, .int .i64 s, .slice (some ⟨bA, oA, none⟩) L.length c1, .int .i64 ti, .int .i64 (dd), .int .u32 hd, .int .u32 tl, .int .i64 ln, .string tx, .slice A10 n10 c10, (.slice A11 n11 c11), .bool ov] 50)).alloc (.cells #[.int .i64 0, .int .i64 0, .int .i64 0, .slice none 0 0, .int .i64 0, .int .i64 0, .int .u32 0, .int .u32 0, .int .i64 0, .string ⟨#[]⟩, .slice none 0 0, .slice none 0 0, .bool false] 50) := ⟨_, rfl⟩
  have HFD := Lib.hid (show FD w1 w.heap.size ⟨at', pl, s, .slice (some ⟨bA, oA, none⟩) L.length c1, ti, dd, hd, tl, ln, tx, .slice A10 n10 c10, (.slice A11 n11 c11), ov⟩ from by rw [hw1]; exact HFD0.out)
  have HB1 := Lib.hid (show Below w.heap.size w w1 from by rw [hw1]; exact ((Below.refl _ _).alloc (Nat.le_refl _) _).alloc (by simp) _)
  rw [← hw1]
  clear hw1 HFD0
  with_reducible refine (HOV.out _ _ _ _ _ _ _).mono ?_
  rintro e w2 ⟨rfl, hB2⟩
  have HFD := Lib.hid (HFD.out.keep hB2)
  have HB2 := Lib.hid (HB1.out.trans (hB2.mono HB1.out.size))
  have e1 := HCELL.out w2 HB2.out
  obtain ⟨k0, k1, k2, k3, k4, k5, k6, k7, k8, k9, k10, k11, k12⟩ := HFD.out.b.all
  clear hB2 HB1
  dsimp only at k0 k1 k2 k3 k4 k5 k6 k7 k8 k9 k10 k11 k12
  go_wp2_with fail
  go_quiet ((go_at_call 39; exact Calls.quiet_of_same ((HND.out _).mono fun _ _ ⟨h1, h2⟩ => ⟨h1, h2.symm⟩)))
  go_wp2_with fail
  obtain ⟨w3, hw3'⟩ : ∃ w3, w3 = w2.drewN nq := ⟨_, rfl⟩
  have HFD3 := Lib.hid (show FD w3 w.heap.size _ from by rw [hw3']; exact HFD.out.keep (Qt.below ⟨nq, rfl⟩))
  have HB3 := Lib.hid (show Below w.heap.size w w3 from by rw [hw3']; exact HB2.out.trans (Qt.below ⟨nq, rfl⟩))
  rw [← hw3']
  clear hw3' k0 k1 k2 k3 k4 k5 k6 k7 k8 k9 k10 k11 k12 e1 HFD HB2
  have HNX := Lib.hid (fun W W' (h2 : Below W.heap.size W W') (h : Below w3.heap.size w3 W) => And.intro (HFD3.out.keep (h.trans (h2.mono h.size))) (HB3.out.trans ((h.trans (h2.mono h.size)).mono HB3.out.size)))
  obtain ⟨k0, k1, k2, k3, k4, k5, k6, k7, k8, k9, k10, k11, k12⟩ := HFD3.out.b.all
  dsimp only at k0 k1 k2 k3 k4 k5 k6 k7 k8 k9 k10 k11 k12
  go_region_held3 (fun w' => w'.cell? ⟨w.heap.size, 0, none⟩ = some (.int .i64 at') ∧ w'.cell? ⟨w.heap.size, 1, none⟩ = some (.int .i64 pl) ∧ w'.cell? ⟨w.heap.size, 2, none⟩ = some (.int .i64 s) ∧ w'.cell? ⟨w.heap.size, 3, none⟩ = some (.slice (some ⟨bA, oA, none⟩) L.length c1) ∧ w'.cell? ⟨w.heap.size, 4, none⟩ = some (.int .i64 ti) ∧ w'.cell? ⟨w.heap.size, 5, none⟩ = some (.int .i64 dd) ∧ w'.cell? ⟨w.heap.size, 6, none⟩ = some (.int .u32 hd) ∧ w'.cell? ⟨w.heap.size, 7, none⟩ = some (.int .u32 tl) ∧ w'.cell? ⟨w.heap.size, 8, none⟩ = some (.int .i64 ln) ∧ w'.cell? ⟨w.heap.size, 9, none⟩ = some (.string tx) ∧ w'.cell? ⟨w.heap.size, 10, none⟩ = some (.slice A10 n10 c10) ∧ w'.cell? ⟨w.heap.size, 11, none⟩ = some (.slice A11 n11 c11) ∧ w'.cell? ⟨w.heap.size, 12, none⟩ = some (.bool ov))
    (go_keep)
    (first
      | (go_at_call 40
         refine (HP1.out _).mono ?_
         rintro e w4 ⟨rfl, hB4⟩
         have hnx := HNX.out _ _ hB4 (by repeat (first | exact Below.refl _ _ | refine Below.drew ?_))
         have HFD4 := Lib.hid hnx.1
         have HB4 := Lib.hid hnx.2
         obtain ⟨r0, r1, r2, r3, r4, r5, r6, r7, r8, r9, r10, r11, r12⟩ := hnx.1.b.all
         dsimp only at r0 r1 r2 r3 r4 r5 r6 r7 r8 r9 r10 r11 r12
         clear hB4 hnx))
  clear k0 k1 k2 k3 k4 k5 k6 k7 k8 k9 k10 k11 k12 HNX
  go_wp2_with fail
  have HNX := Lib.hid (fun W W' (h2 : Below W.heap.size W W') (h : Below w4.heap.size w4 W) => And.intro (HFD4.out.keep (h.trans (h2.mono h.size))) (HB4.out.trans ((h.trans (h2.mono h.size)).mono HB4.out.size)))
  go_region_held3 (fun w' => w'.cell? ⟨w.heap.size, 0, none⟩ = some (.int .i64 at') ∧ w'.cell? ⟨w.heap.size, 1, none⟩ = some (.int .i64 pl) ∧ w'.cell? ⟨w.heap.size, 2, none⟩ = some (.int .i64 s) ∧ w'.cell? ⟨w.heap.size, 3, none⟩ = some (.slice (some ⟨bA, oA, none⟩) L.length c1) ∧ w'.cell? ⟨w.heap.size, 4, none⟩ = some (.int .i64 ti) ∧ w'.cell? ⟨w.heap.size, 5, none⟩ = some (.int .i64 dd) ∧ w'.cell? ⟨w.heap.size, 6, none⟩ = some (.int .u32 hd) ∧ w'.cell? ⟨w.heap.size, 7, none⟩ = some (.int .u32 tl) ∧ w'.cell? ⟨w.heap.size, 8, none⟩ = some (.int .i64 ln) ∧ w'.cell? ⟨w.heap.size, 9, none⟩ = some (.string tx) ∧ w'.cell? ⟨w.heap.size, 10, none⟩ = some (.slice A10 n10 c10) ∧ w'.cell? ⟨w.heap.size, 11, none⟩ = some (.slice A11 n11 c11) ∧ w'.cell? ⟨w.heap.size, 12, none⟩ = some (.bool ov))
    (go_keep)
    (first
      | (go_at_call 40
         refine (HP2.out _).mono ?_
         rintro e w5 ⟨rfl, hB4⟩
         have hnx := HNX.out _ _ hB4 (by repeat (first | exact Below.refl _ _ | refine Below.drew ?_))
         have HFD5 := Lib.hid hnx.1
         have HB5 := Lib.hid hnx.2
         obtain ⟨p0, p1, p2, p3, p4, p5, p6, p7, p8, p9, p10, p11, p12⟩ := hnx.1.b.all
         dsimp only at p0 p1 p2 p3 p4 p5 p6 p7 p8 p9 p10 p11 p12
         clear hB4 hnx))
  clear r0 r1 r2 r3 r4 r5 r6 r7 r8 r9 r10 r11 r12 HNX
  obtain ⟨z0, z1, z2, z3, z4, z5, z6, z7, z8, z9, z10, z11, z12⟩ := HFD5.out.z.all
  dsimp only [dZ] at z0 z1 z2 z3 z4 z5 z6 z7 z8 z9 z10 z11 z12
  have f12 := HFD5.out.fb 12
  have g0z := HFD5.out.fz 0
  have g1z := HFD5.out.fz 1
  have g2z := HFD5.out.fz 2
  have g3z := HFD5.out.fz 3
  have g4z := HFD5.out.fz 4
  have g5z := HFD5.out.fz 5
  have g6z := HFD5.out.fz 6
  have g7z := HFD5.out.fz 7
  have g8z := HFD5.out.fz 8
  have g9z := HFD5.out.fz 9
  have g10z := HFD5.out.fz 10
  have g11z := HFD5.out.fz 11
  have g12z := HFD5.out.fz 12
  by_cases hneg : wv < 0
  all_goals
    first | (have hge : (n : Int) ≤ wv := by omega) | skip
    go_wp2_with fail
    refine bodyPost_ret (v := .tuple #[.agg #[.int .i64 at', .int .i64 pl, .int .i64 s, .slice (some ⟨bA, oA, none⟩) L.length c1, .int .i64 ti, .int .i64 dd, .int .u32 hd, .int .u32 tl, .int .i64 ln, .string tx, .slice A10 n10 c10, (.slice A11 n11 c11), .bool true], .slice U n cp]) (by simp [results, Tryd.results18, go_sem, same_some, z0, z1, z2, z3, z4, z5, z6, z7, z8, z9, z10, z11, z12]) rfl ⟨U, cp, by simp [DS.V], ?_, ?_, .inl rfl⟩
    · exact HU.out.keep (tail_be (bset HB5.out (Nat.le_refl _)) (by omega) _ _ _ _ _ _ _ _ _ _ _ _ _)
    · exact tail_be (bset HB5.out (Nat.le_refl _)) (by omega) _ _ _ _ _ _ _ _ _ _ _ _ _
end Go.Proofs.YtnmobalgghggnaaDoor
/-
  The document's Step of a sender: the last step without its word.
-/
namespace Go.Proofs.YtnmobalgghggnaaDoor
open Go.RowKit

set_option maxHeartbeats 8000000 in
set_option maxRecDepth 100000 in
theorem st_sm4 (at' ti hd tl ln : Int) (pl s n n10 c1 c10 cp : Nat) (A1 A10 U : Option Addr) (tx : ByteArray) (A11 : Option Addr) (n11 c11 : Nat) (ov : Bool) (L : List ByteArray) (f : Nat → Int) (w : World) (ha : -1000 ≤ at' ∧ at' ≤ 1000) (hc : capP (pl : Int) = true) (hz : 1 ≤ s ∧ s ≤ 32) (hhd : 0 ≤ hd ∧ hd < 4294967296) (htl : 0 ≤ tl ∧ tl < 4294967296)
    (hS : Strs w.heap.size w A1 L) (hk : n10 < L.length) (_ : L.length ≤ 1000) (hm : ∀ m ∈ L, m.size ≤ 32) (hU : Ws w U n f) (hf : ∀ i, i < n → 0 ≤ f i ∧ f i < 4294967296) (_ : 0 < n) (_ : n ≤ 4096) (dd wv : Int) (hdd : dd = 3 + (need (L.getD n10 ByteArray.empty).size : Nat)) (hsz : 1 ≤ (L.getD n10 ByteArray.empty).size) (hwh : at' + 1 = wv) (hno : ¬ (0 ≤ wv ∧ wv < n)) :
    Calls Tryd.prog 18 #[DS.V ⟨at', pl, s, .slice A1 L.length c1, ti, dd, hd, tl, ln, tx, .slice A10 n10 c10, (.slice A11 n11 c11), ov⟩, .bool true, .slice U n cp] w fun e w' => DGoL U ⟨at', pl, s, .slice A1 L.length c1, ti, dd, hd, tl, ln, tx, .slice A10 n10 c10, (.slice A11 n11 c11), true⟩ n f w e w' := by
  have HFD0 := Lib.hid (fd_new w ⟨at', pl, s, .slice A1 L.length c1, ti, dd, hd, tl, ln, tx, .slice A10 n10 c10, (.slice A11 n11 c11), ov⟩)
  have hov : ((n10 : Int) == (L.length : Nat)) = false := by rw [beq_eq_false_iff_ne]; omega
  have HOV := Lib.hid (fun did hd tl ln tx ov W => over_s at' pl s ti did hd tl ln A1 A10 L.length c1 n10 c10 tx (.slice A11 n11 c11) ov W)
  rw [hov] at HOV
  have HP1 := Lib.hid (fun W => refplace_any at' s ti (dd) hd tl ln hd pl s tx (.slice A1 L.length c1) (.slice A10 n10 c10) (.slice A11 n11 c11) ov W ha hc hz rfl hhd)
  have HP2 := Lib.hid (fun W => refplace_any at' s ti (dd) hd tl ln tl pl s tx (.slice A1 L.length c1) (.slice A10 n10 c10) (.slice A11 n11 c11) ov W ha hc hz rfl htl)
  have HS := Lib.hid hS
  obtain ⟨bA, oA, rfl⟩ := hS.head hk
  have HU := Lib.hid hU
  have hms : (L.getD n10 ByteArray.empty).size ≤ 32 := by rw [List.getD_eq_getElem?_getD, List.getElem?_eq_getElem hk]; exact hm _ (List.getElem_mem hk)
  have HND := Lib.hid (fun W => needs_any _ (L.getD n10 ByteArray.empty).size W rfl (by omega))
  have hcell := fun (W : World) (h : Below w.heap.size w W) => (hS.keep h).cell hk
  have HCELL := Lib.hid hcell
  obtain ⟨m, hmm⟩ : ∃ m, m = L.getD n10 ByteArray.empty := ⟨_, rfl⟩
  rw [← hmm] at HND HCELL hms
  obtain ⟨q, hq⟩ : ∃ q, q = need m.size := ⟨_, rfl⟩
  rw [← hq] at HND
  have hq8 : q ≤ 8 := by rw [hq]; exact need_le hms
  have hw3 : IntKind.i64.wrap (3 + (q : Int)) = 3 + q := IntWalk.i64_in _ (by omega)
  obtain ⟨y1, hy1⟩ : ∃ y, y = base at' pl s hd := ⟨_, rfl⟩
  obtain ⟨y2, hy2⟩ : ∃ y, y = base at' pl s tl := ⟨_, rfl⟩
  have hr1 := base_rng2 (i := hd) ha hc hz
  have hr2 := base_rng2 (i := tl) ha hc hz
  rw [← hy1] at HP1 hr1
  rw [← hy2] at HP2 hr2
  have wy1 : IntKind.i64.wrap y1 = y1 := IntWalk.i64_in _ (by omega)
  have wy2 : IntKind.i64.wrap y2 = y2 := IntWalk.i64_in _ (by omega)
  have wz1 : IntKind.i64.wrap (y1 - 2) = y1 - 2 := IntWalk.i64_in _ (by omega)
  have wz2 : IntKind.i64.wrap (y2 - 2) = y2 - 2 := IntWalk.i64_in _ (by omega)
  have hk0 : (n10 : Int) < L.length := by omega
  have hqd : dd = 3 + (q : Int) := by rw [hq, hmm]; exact hdd
  have hq1 : 1 ≤ q := by rw [hq, hmm]; exact need_pos hsz
  have hlast : (dd == 3 + (q : Int)) = true := by rw [beq_iff_eq]; exact hqd
  have hgt : 3 < dd := by omega
  have hd0 : (dd == 0) = false := by rw [beq_eq_false_iff_ne]; omega
  have hd1 : (dd == 1) = false := by rw [beq_eq_false_iff_ne]; omega
  have hd2 : (dd == 2) = false := by rw [beq_eq_false_iff_ne]; omega
  have hd3 : ¬ dd < 2 := by omega
  have wd1 : IntKind.i64.wrap (dd + 1) = dd + 1 := IntWalk.i64_in _ (by omega)
  have wy3 : IntKind.i64.wrap (y1 + dd) = y1 + dd := IntWalk.i64_in _ (by omega)
  have wy4 : IntKind.i64.wrap (y2 + dd) = y2 + dd := IntWalk.i64_in _ (by omega)
  have wz3 : IntKind.i64.wrap (y1 + dd - 2) = y1 + dd - 2 := IntWalk.i64_in _ (by omega)
  have wz4 : IntKind.i64.wrap (y2 + dd - 2) = y2 + dd - 2 := IntWalk.i64_in _ (by omega)
  have wa : IntKind.i64.wrap (at' + 1) = wv := by rw [hwh]; exact IntWalk.i64_in _ (by omega)
  clear hdd hsz hqd

  simp only [DS.V, sideC] at HOV HP1 HP2 ⊢
  have HF32 := Lib.hid hf
  clear hS hU hcell hm hov hc hz hf
  clear hq hmm hy1 hy2
  go_enter Tryd.func18, Tryd.ntmps18
  go_wp2_with fail
  obtain ⟨w1, hw1⟩ : ∃ w1, w1 = (w.alloc (.cells #[.int .i64 at', .int .i64 pl, .int .i64 s, .slice (some ⟨bA, oA, none⟩) L.length c1, .int .i64 ti, .int .i64 (dd), .int .u32 hd, .int .u32 tl, .int .i64 ln, .string tx, .slice A10 n10 c10, (.slice A11 n11 c11), .bool ov] 50)).alloc (.cells #[.int .i64 0, .int .i64 0, .int .i64 0, .slice none 0 0, .int .i64 0, .int .i64 0, .int .u32 0, .int .u32 0, .int .i64 0, .string ⟨#[]⟩, .slice none 0 0, .slice none 0 0, .bool false] 50) := ⟨_, rfl⟩
  have HFD := Lib.hid (show FD w1 w.heap.size ⟨at', pl, s, .slice (some ⟨bA, oA, none⟩) L.length c1, ti, dd, hd, tl, ln, tx, .slice A10 n10 c10, (.slice A11 n11 c11), ov⟩ from by rw [hw1]; exact HFD0.out)
  have HB1 := Lib.hid (show Below w.heap.size w w1 from by rw [hw1]; exact ((Below.refl _ _).alloc (Nat.le_refl _) _).alloc (by simp) _)
  rw [← hw1]
  clear hw1 HFD0
  with_reducible refine (HOV.out _ _ _ _ _ _ _).mono ?_
  rintro e w2 ⟨rfl, hB2⟩
  have HFD := Lib.hid (HFD.out.keep hB2)
  have HB2 := Lib.hid (HB1.out.trans (hB2.mono HB1.out.size))
  have e1 := HCELL.out w2 HB2.out
  obtain ⟨k0, k1, k2, k3, k4, k5, k6, k7, k8, k9, k10, k11, k12⟩ := HFD.out.b.all
  clear hB2 HB1
  dsimp only at k0 k1 k2 k3 k4 k5 k6 k7 k8 k9 k10 k11 k12
  go_wp2_with fail
  go_quiet ((go_at_call 39; exact Calls.quiet_of_same ((HND.out _).mono fun _ _ ⟨h1, h2⟩ => ⟨h1, h2.symm⟩)))
  go_wp2_with fail
  obtain ⟨w3, hw3'⟩ : ∃ w3, w3 = w2.drewN nq := ⟨_, rfl⟩
  have HFD3 := Lib.hid (show FD w3 w.heap.size _ from by rw [hw3']; exact HFD.out.keep (Qt.below ⟨nq, rfl⟩))
  have HB3 := Lib.hid (show Below w.heap.size w w3 from by rw [hw3']; exact HB2.out.trans (Qt.below ⟨nq, rfl⟩))
  rw [← hw3']
  clear hw3' k0 k1 k2 k3 k4 k5 k6 k7 k8 k9 k10 k11 k12 e1 HFD HB2
  have HNX := Lib.hid (fun W W' (h2 : Below W.heap.size W W') (h : Below w3.heap.size w3 W) => And.intro (HFD3.out.keep (h.trans (h2.mono h.size))) (HB3.out.trans ((h.trans (h2.mono h.size)).mono HB3.out.size)))
  obtain ⟨k0, k1, k2, k3, k4, k5, k6, k7, k8, k9, k10, k11, k12⟩ := HFD3.out.b.all
  dsimp only at k0 k1 k2 k3 k4 k5 k6 k7 k8 k9 k10 k11 k12
  go_region_held3 (fun w' => w'.cell? ⟨w.heap.size, 0, none⟩ = some (.int .i64 at') ∧ w'.cell? ⟨w.heap.size, 1, none⟩ = some (.int .i64 pl) ∧ w'.cell? ⟨w.heap.size, 2, none⟩ = some (.int .i64 s) ∧ w'.cell? ⟨w.heap.size, 3, none⟩ = some (.slice (some ⟨bA, oA, none⟩) L.length c1) ∧ w'.cell? ⟨w.heap.size, 4, none⟩ = some (.int .i64 ti) ∧ w'.cell? ⟨w.heap.size, 5, none⟩ = some (.int .i64 dd) ∧ w'.cell? ⟨w.heap.size, 6, none⟩ = some (.int .u32 hd) ∧ w'.cell? ⟨w.heap.size, 7, none⟩ = some (.int .u32 tl) ∧ w'.cell? ⟨w.heap.size, 8, none⟩ = some (.int .i64 ln) ∧ w'.cell? ⟨w.heap.size, 9, none⟩ = some (.string tx) ∧ w'.cell? ⟨w.heap.size, 10, none⟩ = some (.slice A10 n10 c10) ∧ w'.cell? ⟨w.heap.size, 11, none⟩ = some (.slice A11 n11 c11) ∧ w'.cell? ⟨w.heap.size, 12, none⟩ = some (.bool ov))
    (go_keep)
    (first
      | (go_at_call 40
         refine (HP1.out _).mono ?_
         rintro e w4 ⟨rfl, hB4⟩
         have hnx := HNX.out _ _ hB4 (by repeat (first | exact Below.refl _ _ | refine Below.drew ?_))
         have HFD4 := Lib.hid hnx.1
         have HB4 := Lib.hid hnx.2
         obtain ⟨r0, r1, r2, r3, r4, r5, r6, r7, r8, r9, r10, r11, r12⟩ := hnx.1.b.all
         dsimp only at r0 r1 r2 r3 r4 r5 r6 r7 r8 r9 r10 r11 r12
         clear hB4 hnx))
  clear k0 k1 k2 k3 k4 k5 k6 k7 k8 k9 k10 k11 k12 HNX
  go_wp2_with fail
  have HNX := Lib.hid (fun W W' (h2 : Below W.heap.size W W') (h : Below w4.heap.size w4 W) => And.intro (HFD4.out.keep (h.trans (h2.mono h.size))) (HB4.out.trans ((h.trans (h2.mono h.size)).mono HB4.out.size)))
  go_region_held3 (fun w' => w'.cell? ⟨w.heap.size, 0, none⟩ = some (.int .i64 at') ∧ w'.cell? ⟨w.heap.size, 1, none⟩ = some (.int .i64 pl) ∧ w'.cell? ⟨w.heap.size, 2, none⟩ = some (.int .i64 s) ∧ w'.cell? ⟨w.heap.size, 3, none⟩ = some (.slice (some ⟨bA, oA, none⟩) L.length c1) ∧ w'.cell? ⟨w.heap.size, 4, none⟩ = some (.int .i64 ti) ∧ w'.cell? ⟨w.heap.size, 5, none⟩ = some (.int .i64 dd) ∧ w'.cell? ⟨w.heap.size, 6, none⟩ = some (.int .u32 hd) ∧ w'.cell? ⟨w.heap.size, 7, none⟩ = some (.int .u32 tl) ∧ w'.cell? ⟨w.heap.size, 8, none⟩ = some (.int .i64 ln) ∧ w'.cell? ⟨w.heap.size, 9, none⟩ = some (.string tx) ∧ w'.cell? ⟨w.heap.size, 10, none⟩ = some (.slice A10 n10 c10) ∧ w'.cell? ⟨w.heap.size, 11, none⟩ = some (.slice A11 n11 c11) ∧ w'.cell? ⟨w.heap.size, 12, none⟩ = some (.bool ov))
    (go_keep)
    (first
      | (go_at_call 40
         refine (HP2.out _).mono ?_
         rintro e w5 ⟨rfl, hB4⟩
         have hnx := HNX.out _ _ hB4 (by repeat (first | exact Below.refl _ _ | refine Below.drew ?_))
         have HFD5 := Lib.hid hnx.1
         have HB5 := Lib.hid hnx.2
         obtain ⟨p0, p1, p2, p3, p4, p5, p6, p7, p8, p9, p10, p11, p12⟩ := hnx.1.b.all
         dsimp only at p0 p1 p2 p3 p4 p5 p6 p7 p8 p9 p10 p11 p12
         clear hB4 hnx))
  clear r0 r1 r2 r3 r4 r5 r6 r7 r8 r9 r10 r11 r12 HNX
  obtain ⟨z0, z1, z2, z3, z4, z5, z6, z7, z8, z9, z10, z11, z12⟩ := HFD5.out.z.all
  dsimp only [dZ] at z0 z1 z2 z3 z4 z5 z6 z7 z8 z9 z10 z11 z12
  have f12 := HFD5.out.fb 12
  have g0z := HFD5.out.fz 0
  have g1z := HFD5.out.fz 1
  have g2z := HFD5.out.fz 2
  have g3z := HFD5.out.fz 3
  have g4z := HFD5.out.fz 4
  have g5z := HFD5.out.fz 5
  have g6z := HFD5.out.fz 6
  have g7z := HFD5.out.fz 7
  have g8z := HFD5.out.fz 8
  have g9z := HFD5.out.fz 9
  have g10z := HFD5.out.fz 10
  have g11z := HFD5.out.fz 11
  have g12z := HFD5.out.fz 12
  by_cases hneg : wv < 0
  all_goals
    first | (have hge : (n : Int) ≤ wv := by omega) | skip
    go_wp2_with fail
    refine bodyPost_ret (v := .tuple #[.agg #[.int .i64 at', .int .i64 pl, .int .i64 s, .slice (some ⟨bA, oA, none⟩) L.length c1, .int .i64 ti, .int .i64 dd, .int .u32 hd, .int .u32 tl, .int .i64 ln, .string tx, .slice A10 n10 c10, (.slice A11 n11 c11), .bool true], .slice U n cp]) (by simp [results, Tryd.results18, go_sem, same_some, z0, z1, z2, z3, z4, z5, z6, z7, z8, z9, z10, z11, z12]) rfl ⟨U, cp, by simp [DS.V], ?_, ?_, .inl rfl⟩
    · exact HU.out.keep (tail_be (bset HB5.out (Nat.le_refl _)) (by omega) _ _ _ _ _ _ _ _ _ _ _ _ _)
    · exact tail_be (bset HB5.out (Nat.le_refl _)) (by omega) _ _ _ _ _ _ _ _ _ _ _ _ _
end Go.Proofs.YtnmobalgghggnaaDoor
