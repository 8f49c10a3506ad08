/-
  The document's Step of a sender: it stores a word.
-/
import Derived.Test.YtnmobalgghggnaaDoorQRef
import Derived.Deep.RegionHeld3
import Derived.Deep.Cut
namespace Go.Proofs.YtnmobalgghggnaaDoor
open Go.RowKit

set_option maxHeartbeats 8000000 in
set_option maxRecDepth 100000 in
theorem st_s3 (at' ti hd tl ln : Int) (pl s n n10 c1 c10 cp : Nat) (A1 A10 U : Option Addr) (tx : ByteArray) (A11 : Option Addr) (n11 c11 : Nat) (ov : Bool) (L : List ByteArray) (f : Nat → Int) (w : World) (ha : -1000 ≤ at' ∧ at' ≤ 1000) (hc : capP (pl : Int) = true) (hz : 1 ≤ s ∧ s ≤ 32) (hhd : 0 ≤ hd ∧ hd < 4294967296) (htl : 0 ≤ tl ∧ tl < 4294967296)
    (hS : Strs w.heap.size w A1 L) (hk : n10 < L.length) (_ : L.length ≤ 1000) (hm : ∀ m ∈ L, m.size ≤ 32) (hU : Ws w U n f) (hf : ∀ i, i < n → 0 ≤ f i ∧ f i < 4294967296) (h0 : 0 < n) (hn : n ≤ 4096) (dd : Int) (pa i : Nat) (hdd : dd = 3 + pa) (hpa : pa < need (L.getD n10 ByteArray.empty).size) (hwh : base at' pl s tl + 1 + pa = i) (hi : i < n) :
    Calls Tryd.prog 18 #[DS.V ⟨at', pl, s, .slice A1 L.length c1, ti, dd, hd, tl, ln, tx, .slice A10 n10 c10, (.slice A11 n11 c11), ov⟩, .bool true, .slice U n cp] w fun e w' => DGoL U ⟨at', pl, s, .slice A1 L.length c1, ti, dd + 1, hd, tl, ln, tx, .slice A10 n10 c10, (.slice A11 n11 c11), false⟩ n (upd f i (wordOf (L.getD n10 ByteArray.empty) pa)) w e w' := by
  have HFD0 := Lib.hid (fd_new w ⟨at', pl, s, .slice A1 L.length c1, ti, dd, hd, tl, ln, tx, .slice A10 n10 c10, (.slice A11 n11 c11), ov⟩)
  have hov : ((n10 : Int) == (L.length : Nat)) = false := by rw [beq_eq_false_iff_ne]; omega
  have HOV := Lib.hid (fun did hd tl ln tx ov W => over_s at' pl s ti did hd tl ln A1 A10 L.length c1 n10 c10 tx (.slice A11 n11 c11) ov W)
  rw [hov] at HOV
  have HP1 := Lib.hid (fun W => refplace_any at' s ti (dd) hd tl ln hd pl s tx (.slice A1 L.length c1) (.slice A10 n10 c10) (.slice A11 n11 c11) ov W ha hc hz rfl hhd)
  have HP2 := Lib.hid (fun W => refplace_any at' s ti (dd) hd tl ln tl pl s tx (.slice A1 L.length c1) (.slice A10 n10 c10) (.slice A11 n11 c11) ov W ha hc hz rfl htl)
  have HS := Lib.hid hS
  obtain ⟨bA, oA, rfl⟩ := hS.head hk
  have HU := Lib.hid hU
  have hms : (L.getD n10 ByteArray.empty).size ≤ 32 := by rw [List.getD_eq_getElem?_getD, List.getElem?_eq_getElem hk]; exact hm _ (List.getElem_mem hk)
  have HND := Lib.hid (fun W => needs_any _ (L.getD n10 ByteArray.empty).size W rfl (by omega))
  have hcell := fun (W : World) (h : Below w.heap.size w W) => (hS.keep h).cell hk
  have HCELL := Lib.hid hcell
  obtain ⟨m, hmm⟩ : ∃ m, m = L.getD n10 ByteArray.empty := ⟨_, rfl⟩
  rw [← hmm] at HND HCELL hms
  obtain ⟨q, hq⟩ : ∃ q, q = need m.size := ⟨_, rfl⟩
  rw [← hq] at HND
  have hq8 : q ≤ 8 := by rw [hq]; exact need_le hms
  have hw3 : IntKind.i64.wrap (3 + (q : Int)) = 3 + q := IntWalk.i64_in _ (by omega)
  obtain ⟨y1, hy1⟩ : ∃ y, y = base at' pl s hd := ⟨_, rfl⟩
  obtain ⟨y2, hy2⟩ : ∃ y, y = base at' pl s tl := ⟨_, rfl⟩
  have hr1 := base_rng2 (i := hd) ha hc hz
  have hr2 := base_rng2 (i := tl) ha hc hz
  rw [← hy1] at HP1 hr1
  rw [← hy2] at HP2 hr2
  have wy1 : IntKind.i64.wrap y1 = y1 := IntWalk.i64_in _ (by omega)
  have wy2 : IntKind.i64.wrap y2 = y2 := IntWalk.i64_in _ (by omega)
  have wz1 : IntKind.i64.wrap (y1 - 2) = y1 - 2 := IntWalk.i64_in _ (by omega)
  have wz2 : IntKind.i64.wrap (y2 - 2) = y2 - 2 := IntWalk.i64_in _ (by omega)
  have hk0 : (n10 : Int) < L.length := by omega
  have hi0 : (0 : Int) ≤ (i : Int) := by omega
  have hi1 : (i : Int) < n := by omega
  have hpq : pa < q := by rw [hq, hmm]; exact hpa
  have hlast : (dd == 3 + (q : Int)) = false := by rw [beq_eq_false_iff_ne]; omega
  have hd0 : (dd == 0) = false := by rw [beq_eq_false_iff_ne]; omega
  have hd1 : (dd == 1) = false := by rw [beq_eq_false_iff_ne]; omega
  have hd2 : (dd == 2) = false := by rw [beq_eq_false_iff_ne]; omega
  have hd3 : ¬ dd < 2 := by omega
  have wd1 : IntKind.i64.wrap (dd + 1) = dd + 1 := IntWalk.i64_in _ (by omega)
  have wy3 : IntKind.i64.wrap (y1 + dd) = y1 + dd := IntWalk.i64_in _ (by omega)
  have wy4 : IntKind.i64.wrap (y2 + dd) = y2 + dd := IntWalk.i64_in _ (by omega)
  have wz3 : IntKind.i64.wrap (y1 + dd - 2) = y1 + dd - 2 := IntWalk.i64_in _ (by omega)
  have wz4 : IntKind.i64.wrap (y2 + dd - 2) = i := by rw [IntWalk.i64_in _ (by omega)]; omega
  have wd3 : IntKind.i64.wrap (dd - 3) = pa := by rw [IntWalk.i64_in _ (by omega)]; omega
  have HWD := Lib.hid (fun W => refword_any m pa pa W rfl (by omega) (by omega))
  have HMM := Lib.hid hmm
  clear hdd hpa hpq

  simp only [DS.V, sideC] at HOV HP1 HP2 ⊢
  have HF32 := Lib.hid hf
  clear hS hU hcell hm hov hc hz hf
  clear hq hmm hy1 hy2
  go_enter Tryd.func18, Tryd.ntmps18
  go_wp2_with fail
  obtain ⟨w1, hw1⟩ : ∃ w1, w1 = (w.alloc (.cells #[.int .i64 at', .int .i64 pl, .int .i64 s, .slice (some ⟨bA, oA, none⟩) L.length c1, .int .i64 ti, .int .i64 (dd), .int .u32 hd, .int .u32 tl, .int .i64 ln, .string tx, .slice A10 n10 c10, (.slice A11 n11 c11), .bool ov] 50)).alloc (.cells #[.int .i64 0, .int .i64 0, .int .i64 0, .slice none 0 0, .int .i64 0, .int .i64 0, .int .u32 0, .int .u32 0, .int .i64 0, .string ⟨#[]⟩, .slice none 0 0, .slice none 0 0, .bool false] 50) := ⟨_, rfl⟩
  have HFD := Lib.hid (show FD w1 w.heap.size ⟨at', pl, s, .slice (some ⟨bA, oA, none⟩) L.length c1, ti, dd, hd, tl, ln, tx, .slice A10 n10 c10, (.slice A11 n11 c11), ov⟩ from by rw [hw1]; exact HFD0.out)
  have HB1 := Lib.hid (show Below w.heap.size w w1 from by rw [hw1]; exact ((Below.refl _ _).alloc (Nat.le_refl _) _).alloc (by simp) _)
  rw [← hw1]
  clear hw1 HFD0
  with_reducible refine (HOV.out _ _ _ _ _ _ _).mono ?_
  rintro e w2 ⟨rfl, hB2⟩
  have HFD := Lib.hid (HFD.out.keep hB2)
  have HB2 := Lib.hid (HB1.out.trans (hB2.mono HB1.out.size))
  have e1 := HCELL.out w2 HB2.out
  obtain ⟨k0, k1, k2, k3, k4, k5, k6, k7, k8, k9, k10, k11, k12⟩ := HFD.out.b.all
  clear hB2 HB1
  dsimp only at k0 k1 k2 k3 k4 k5 k6 k7 k8 k9 k10 k11 k12
  go_wp2_with fail
  go_quiet ((go_at_call 39; exact Calls.quiet_of_same ((HND.out _).mono fun _ _ ⟨h1, h2⟩ => ⟨h1, h2.symm⟩)))
  go_wp2_with fail
  obtain ⟨w3, hw3'⟩ : ∃ w3, w3 = w2.drewN nq := ⟨_, rfl⟩
  have HFD3 := Lib.hid (show FD w3 w.heap.size _ from by rw [hw3']; exact HFD.out.keep (Qt.below ⟨nq, rfl⟩))
  have HB3 := Lib.hid (show Below w.heap.size w w3 from by rw [hw3']; exact HB2.out.trans (Qt.below ⟨nq, rfl⟩))
  rw [← hw3']
  clear hw3' k0 k1 k2 k3 k4 k5 k6 k7 k8 k9 k10 k11 k12 e1 HFD HB2
  have HNX := Lib.hid (fun W W' (h2 : Below W.heap.size W W') (h : Below w3.heap.size w3 W) => And.intro (HFD3.out.keep (h.trans (h2.mono h.size))) (HB3.out.trans ((h.trans (h2.mono h.size)).mono HB3.out.size)))
  obtain ⟨k0, k1, k2, k3, k4, k5, k6, k7, k8, k9, k10, k11, k12⟩ := HFD3.out.b.all
  dsimp only at k0 k1 k2 k3 k4 k5 k6 k7 k8 k9 k10 k11 k12
  go_region_held3 (fun w' => w'.cell? ⟨w.heap.size, 0, none⟩ = some (.int .i64 at') ∧ w'.cell? ⟨w.heap.size, 1, none⟩ = some (.int .i64 pl) ∧ w'.cell? ⟨w.heap.size, 2, none⟩ = some (.int .i64 s) ∧ w'.cell? ⟨w.heap.size, 3, none⟩ = some (.slice (some ⟨bA, oA, none⟩) L.length c1) ∧ w'.cell? ⟨w.heap.size, 4, none⟩ = some (.int .i64 ti) ∧ w'.cell? ⟨w.heap.size, 5, none⟩ = some (.int .i64 dd) ∧ w'.cell? ⟨w.heap.size, 6, none⟩ = some (.int .u32 hd) ∧ w'.cell? ⟨w.heap.size, 7, none⟩ = some (.int .u32 tl) ∧ w'.cell? ⟨w.heap.size, 8, none⟩ = some (.int .i64 ln) ∧ w'.cell? ⟨w.heap.size, 9, none⟩ = some (.string tx) ∧ w'.cell? ⟨w.heap.size, 10, none⟩ = some (.slice A10 n10 c10) ∧ w'.cell? ⟨w.heap.size, 11, none⟩ = some (.slice A11 n11 c11) ∧ w'.cell? ⟨w.heap.size, 12, none⟩ = some (.bool ov))
    (go_keep)
    (first
      | (go_at_call 40
         refine (HP1.out _).mono ?_
         rintro e w4 ⟨rfl, hB4⟩
         have hnx := HNX.out _ _ hB4 (by repeat (first | exact Below.refl _ _ | refine Below.drew ?_))
         have HFD4 := Lib.hid hnx.1
         have HB4 := Lib.hid hnx.2
         obtain ⟨r0, r1, r2, r3, r4, r5, r6, r7, r8, r9, r10, r11, r12⟩ := hnx.1.b.all
         dsimp only at r0 r1 r2 r3 r4 r5 r6 r7 r8 r9 r10 r11 r12
         clear hB4 hnx))
  clear k0 k1 k2 k3 k4 k5 k6 k7 k8 k9 k10 k11 k12 HNX
  go_wp2_with fail
  have HNX := Lib.hid (fun W W' (h2 : Below W.heap.size W W') (h : Below w4.heap.size w4 W) => And.intro (HFD4.out.keep (h.trans (h2.mono h.size))) (HB4.out.trans ((h.trans (h2.mono h.size)).mono HB4.out.size)))
  go_region_held3 (fun w' => w'.cell? ⟨w.heap.size, 0, none⟩ = some (.int .i64 at') ∧ w'.cell? ⟨w.heap.size, 1, none⟩ = some (.int .i64 pl) ∧ w'.cell? ⟨w.heap.size, 2, none⟩ = some (.int .i64 s) ∧ w'.cell? ⟨w.heap.size, 3, none⟩ = some (.slice (some ⟨bA, oA, none⟩) L.length c1) ∧ w'.cell? ⟨w.heap.size, 4, none⟩ = some (.int .i64 ti) ∧ w'.cell? ⟨w.heap.size, 5, none⟩ = some (.int .i64 dd) ∧ w'.cell? ⟨w.heap.size, 6, none⟩ = some (.int .u32 hd) ∧ w'.cell? ⟨w.heap.size, 7, none⟩ = some (.int .u32 tl) ∧ w'.cell? ⟨w.heap.size, 8, none⟩ = some (.int .i64 ln) ∧ w'.cell? ⟨w.heap.size, 9, none⟩ = some (.string tx) ∧ w'.cell? ⟨w.heap.size, 10, none⟩ = some (.slice A10 n10 c10) ∧ w'.cell? ⟨w.heap.size, 11, none⟩ = some (.slice A11 n11 c11) ∧ w'.cell? ⟨w.heap.size, 12, none⟩ = some (.bool ov))
    (go_keep)
    (first
      | (go_at_call 40
         refine (HP2.out _).mono ?_
         rintro e w5 ⟨rfl, hB4⟩
         have hnx := HNX.out _ _ hB4 (by repeat (first | exact Below.refl _ _ | refine Below.drew ?_))
         have HFD5 := Lib.hid hnx.1
         have HB5 := Lib.hid hnx.2
         obtain ⟨p0, p1, p2, p3, p4, p5, p6, p7, p8, p9, p10, p11, p12⟩ := hnx.1.b.all
         dsimp only at p0 p1 p2 p3 p4 p5 p6 p7 p8 p9 p10 p11 p12
         clear hB4 hnx))
  clear r0 r1 r2 r3 r4 r5 r6 r7 r8 r9 r10 r11 r12 HNX
  go_wp2_with (at_builtin; refine wpList_append_ws rfl _ _ rfl h0 hn (HU.out.keep (HB5.out)) (by rfl) (by rfl) ?_)
  intro G cap' w6 hG1 hG2 hUs hFz hB6
  have HUS := Lib.hid hUs
  have hx := hUs.cell hi
  rw [Nat.zero_add] at hx
  have hfx := hFz i
  have hG0 : w.heap.size ≠ G := by have := HFD5.out.lt; omega
  have hGL := Lib.hid (show w.heap.size ≤ G from by have := HFD5.out.lt; omega)
  have hG3 : G ≠ w.heap.size := by have := HFD5.out.lt; omega
  have hG4 : w.heap.size + 1 ≠ G := by have := HFD5.out.lt; omega
  have hG5 : G ≠ w.heap.size + 1 := by have := HFD5.out.lt; omega
  have HGE := Lib.hid (show w.heap.size ≤ G from by have := HFD5.out.lt; omega)
  have HFD6 := Lib.hid (HFD5.out.keep hB6)
  have HB6 := Lib.hid (HB5.out.trans (hB6.mono HB5.out.size))
  have e6 := HCELL.out w6 HB6.out
  clear p0 p1 p2 p3 p4 p5 p6 p7 p8 p9 p10 p11 p12
  obtain ⟨k0, k1, k2, k3, k4, k5, k6, k7, k8, k9, k10, k11, k12⟩ := HFD6.out.b.all
  dsimp only at k0 k1 k2 k3 k4 k5 k6 k7 k8 k9 k10 k11 k12
  have f5 := HFD6.out.fb 5
  have f6 := HFD6.out.fb 6
  have f7 := HFD6.out.fb 7
  have f8 := HFD6.out.fb 8
  have f9 := HFD6.out.fb 9
  have f10 := HFD6.out.fb 10
  have f11 := HFD6.out.fb 11
  have f12 := HFD6.out.fb 12
  clear hUs hFz hB6 hG1 hG2
  obtain ⟨x, hxx⟩ : ∃ x, x = f i := ⟨_, rfl⟩
  rw [← hxx] at hx
  have hx32 : 0 ≤ x ∧ x < 4294967296 := by rw [hxx]; exact HF32.out i hi
  have HX := Lib.hid hxx
  clear hxx
  go_wp2_with fail
  go_region_law ((go_simp; refine (HWD.out _).mono ?_; rintro e w6' ⟨rfl, rfl⟩))
  all_goals
    go_wp2_with fail
    obtain ⟨w7, hw7⟩ : ∃ w7, w7 = ((w6.setCell ⟨G, i, none⟩ (.int .u32 (wordOf m pa))).setCell ⟨w.heap.size, 5, none⟩ (.int .i64 (dd + 1))).drew := ⟨_, rfl⟩
    have HFD7 := Lib.hid (show FD w7 w.heap.size ⟨at', pl, s, .slice (some ⟨bA, oA, none⟩) L.length c1, ti, dd + 1, hd, tl, ln, tx, .slice A10 n10 c10, (.slice A11 n11 c11), ov⟩ from by rw [hw7]; exact (FD.keep (FD.set (d' := ⟨at', pl, s, .slice (some ⟨bA, oA, none⟩) L.length c1, ti, dd + 1, hd, tl, ln, tx, .slice A10 n10 c10, (.slice A11 n11 c11), ov⟩) (FD.out (a := ⟨G, i, none⟩) HFD6.out hG3 hG5 (.int .u32 (wordOf m pa))) 5 (.int .i64 (dd + 1)) rfl) (Below.drew (Below.refl _ _))))
    have HU7 := Lib.hid (show Ws w7 (some ⟨G, 0, none⟩) n _ from by rw [hw7]; exact (Ws.keep (Ws.out (a := ⟨w.heap.size, 5, none⟩) (v := (.int .i64 (dd + 1))) (Ws.set0 HUS.out hi (wordOf m pa)) hG0) (Below.drew (Below.refl _ _))))
    have HB7 := Lib.hid (show Below w.heap.size w w7 from by rw [hw7]; exact (Below.drew (bset (a := ⟨w.heap.size, 5, none⟩) (v := (.int .i64 (dd + 1))) (bset (a := ⟨G, i, none⟩) (v := .int .u32 (wordOf m pa)) HB6.out (show w.heap.size ≤ G by have := HGE.out; omega)) (Nat.le_refl _))))
    rw [← hw7]
    clear hw7 hx hfx e6 k0 k1 k2 k3 k4 k5 k6 k7 k8 k9 k10 k11 k12 f5 f6 f7 f8 f9 f10 f11 f12
    with_reducible refine (HOV.out _ _ _ _ _ _ _).mono ?_
    rintro e w8 ⟨rfl, hB8⟩
    have HFD8 := Lib.hid (HFD7.out.keep hB8)
    have HU8 := Lib.hid (HU7.out.keep hB8)
    have HB8 := Lib.hid (HB7.out.trans (hB8.mono HB7.out.size))
    obtain ⟨k0, k1, k2, k3, k4, k5, k6, k7, k8, k9, k10, k11, k12⟩ := HFD8.out.b.all
    obtain ⟨z0, z1, z2, z3, z4, z5, z6, z7, z8, z9, z10, z11, z12⟩ := HFD8.out.z.all
    dsimp only [dZ] at k0 k1 k2 k3 k4 k5 k6 k7 k8 k9 k10 k11 k12 z0 z1 z2 z3 z4 z5 z6 z7 z8 z9 z10 z11 z12
    have f12 := HFD8.out.fb 12
    have g0 := HFD8.out.fz 0
    have g1 := HFD8.out.fz 1
    have g2 := HFD8.out.fz 2
    have g3 := HFD8.out.fz 3
    have g4 := HFD8.out.fz 4
    have g5 := HFD8.out.fz 5
    have g6 := HFD8.out.fz 6
    have g7 := HFD8.out.fz 7
    have g8 := HFD8.out.fz 8
    have g9 := HFD8.out.fz 9
    have g10 := HFD8.out.fz 10
    have g11 := HFD8.out.fz 11
    have g12 := HFD8.out.fz 12
    clear hB8
    go_wp2_with fail
    refine bodyPost_ret (v := .tuple #[.agg #[.int .i64 at', .int .i64 pl, .int .i64 s, .slice (some ⟨bA, oA, none⟩) L.length c1, .int .i64 ti, .int .i64 (dd + 1), .int .u32 hd, .int .u32 tl, .int .i64 ln, .string tx, .slice A10 n10 c10, (.slice A11 n11 c11), .bool false], .slice (some ⟨G, 0, none⟩) n cap']) (by simp [results, Tryd.results18, go_sem, same_some, z0, z1, z2, z3, z4, z5, z6, z7, z8, z9, z10, z11, z12]) rfl ⟨some ⟨G, 0, none⟩, cap', by simp [DS.V], ?_, ?_, .inr ⟨G, rfl, hGL.out⟩⟩
    · rw [← HMM.out]; exact tail_ws (Ws.out (a := ⟨w.heap.size, 12, none⟩) HU8.out hG0) hG4 _ _ _ _ _ _ _ _ _ _ _ _ _
    · exact tail_be (bset HB8.out (Nat.le_refl _)) (by omega) _ _ _ _ _ _ _ _ _ _ _ _ _
end Go.Proofs.YtnmobalgghggnaaDoor
/-
  The document's Step of a sender: it tells of the message.
-/
namespace Go.Proofs.YtnmobalgghggnaaDoor
open Go.RowKit

set_option maxHeartbeats 8000000 in
set_option maxRecDepth 100000 in
theorem st_s4 (at' ti hd tl ln : Int) (pl s n c1 c10 cp : Nat) (xs : List Value) (A1 A10 U : Option Addr) (tx : ByteArray) (A11 : Option Addr) (n11 c11 : Nat) (ov : Bool) (L : List ByteArray) (f : Nat → Int) (w : World) (ha : -1000 ≤ at' ∧ at' ≤ 1000) (hc : capP (pl : Int) = true) (hz : 1 ≤ s ∧ s ≤ 32) (hhd : 0 ≤ hd ∧ hd < 4294967296) (htl : 0 ≤ tl ∧ tl < 4294967296)
    (hS : Strs w.heap.size w A1 L) (hk : xs.length < L.length) (hL : L.length ≤ 1000) (hm : ∀ m ∈ L, m.size ≤ 32) (hU : Ws w U n f) (hf : ∀ i, i < n → 0 ≤ f i ∧ f i < 4294967296) (h0 : 0 < n) (hn : n ≤ 4096) (dd : Int) (i : Nat) (hV : Vals w A10 xs) (hnil : A10 = none → c10 = 0) (h1c : ∀ u ∈ xs, u.oneCell' = true) (hdd : dd = 3 + (need (L.getD xs.length ByteArray.empty).size : Nat)) (hsz : 1 ≤ (L.getD xs.length ByteArray.empty).size) (hwh : at' + 1 = i) (hi : i < n) :
    Calls Tryd.prog 18 #[DS.V ⟨at', pl, s, .slice A1 L.length c1, ti, dd, hd, tl, ln, tx, .slice A10 xs.length c10, (.slice A11 n11 c11), ov⟩, .bool true, .slice U n cp] w fun e w' => DGoT U (fun v => ⟨at', pl, s, .slice A1 L.length c1, ti, 0, hd, tl, ln, tx, v, (.slice A11 n11 c11), ((xs.length + 1 : Nat) : Int) == (L.length : Nat)⟩) (xs ++ [.bool true]) n (upd f i (inc tl)) w e w' := by
  have HFD0 := Lib.hid (fd_new w ⟨at', pl, s, .slice A1 L.length c1, ti, dd, hd, tl, ln, tx, .slice A10 xs.length c10, (.slice A11 n11 c11), ov⟩)
  have hov : ((xs.length : Int) == (L.length : Nat)) = false := by rw [beq_eq_false_iff_ne]; omega
  have HOV := Lib.hid (fun did hd tl ln tx ov W => over_s at' pl s ti did hd tl ln A1 A10 L.length c1 xs.length c10 tx (.slice A11 n11 c11) ov W)
  rw [hov] at HOV
  have HP1 := Lib.hid (fun W => refplace_any at' s ti (dd) hd tl ln hd pl s tx (.slice A1 L.length c1) (.slice A10 xs.length c10) (.slice A11 n11 c11) ov W ha hc hz rfl hhd)
  have HP2 := Lib.hid (fun W => refplace_any at' s ti (dd) hd tl ln tl pl s tx (.slice A1 L.length c1) (.slice A10 xs.length c10) (.slice A11 n11 c11) ov W ha hc hz rfl htl)
  have HS := Lib.hid hS
  obtain ⟨bA, oA, rfl⟩ := hS.head hk
  have HU := Lib.hid hU
  have hms : (L.getD xs.length ByteArray.empty).size ≤ 32 := by rw [List.getD_eq_getElem?_getD, List.getElem?_eq_getElem hk]; exact hm _ (List.getElem_mem hk)
  have HND := Lib.hid (fun W => needs_any _ (L.getD xs.length ByteArray.empty).size W rfl (by omega))
  have hcell := fun (W : World) (h : Below w.heap.size w W) => (hS.keep h).cell hk
  have HCELL := Lib.hid hcell
  obtain ⟨m, hmm⟩ : ∃ m, m = L.getD xs.length ByteArray.empty := ⟨_, rfl⟩
  rw [← hmm] at HND HCELL hms
  obtain ⟨q, hq⟩ : ∃ q, q = need m.size := ⟨_, rfl⟩
  rw [← hq] at HND
  have hq8 : q ≤ 8 := by rw [hq]; exact need_le hms
  have hw3 : IntKind.i64.wrap (3 + (q : Int)) = 3 + q := IntWalk.i64_in _ (by omega)
  obtain ⟨y1, hy1⟩ : ∃ y, y = base at' pl s hd := ⟨_, rfl⟩
  obtain ⟨y2, hy2⟩ : ∃ y, y = base at' pl s tl := ⟨_, rfl⟩
  have hr1 := base_rng2 (i := hd) ha hc hz
  have hr2 := base_rng2 (i := tl) ha hc hz
  rw [← hy1] at HP1 hr1
  rw [← hy2] at HP2 hr2
  have wy1 : IntKind.i64.wrap y1 = y1 := IntWalk.i64_in _ (by omega)
  have wy2 : IntKind.i64.wrap y2 = y2 := IntWalk.i64_in _ (by omega)
  have wz1 : IntKind.i64.wrap (y1 - 2) = y1 - 2 := IntWalk.i64_in _ (by omega)
  have wz2 : IntKind.i64.wrap (y2 - 2) = y2 - 2 := IntWalk.i64_in _ (by omega)
  have hk0 : (xs.length : Int) < L.length := by omega
  have hi0 : (0 : Int) ≤ (i : Int) := by omega
  have hi1 : (i : Int) < n := by omega
  have hqd : dd = 3 + (q : Int) := by rw [hq, hmm]; exact hdd
  have hq1 : 1 ≤ q := by rw [hq, hmm]; exact need_pos hsz
  have hlast : (dd == 3 + (q : Int)) = true := by rw [beq_iff_eq]; exact hqd
  have hgt : 3 < dd := by omega
  have hd0 : (dd == 0) = false := by rw [beq_eq_false_iff_ne]; omega
  have hd1 : (dd == 1) = false := by rw [beq_eq_false_iff_ne]; omega
  have hd2 : (dd == 2) = false := by rw [beq_eq_false_iff_ne]; omega
  have hd3 : ¬ dd < 2 := by omega
  have wd1 : IntKind.i64.wrap (dd + 1) = dd + 1 := IntWalk.i64_in _ (by omega)
  have wy3 : IntKind.i64.wrap (y1 + dd) = y1 + dd := IntWalk.i64_in _ (by omega)
  have wy4 : IntKind.i64.wrap (y2 + dd) = y2 + dd := IntWalk.i64_in _ (by omega)
  have wz3 : IntKind.i64.wrap (y1 + dd - 2) = y1 + dd - 2 := IntWalk.i64_in _ (by omega)
  have wz4 : IntKind.i64.wrap (y2 + dd - 2) = y2 + dd - 2 := IntWalk.i64_in _ (by omega)
  have wa : IntKind.i64.wrap (at' + 1) = i := by rw [hwh]; exact IntWalk.i64_in _ (by omega)
  have wt : IntKind.u32.wrap (tl + 1) = inc tl := by rw [IntKind.wrap_u32']; rfl
  have HV := Lib.hid (fun W (h : Below w.heap.size w W) => hV.keep h)
  have HNIL := Lib.hid hnil
  have H1C := Lib.hid h1c
  have HOV2 := Lib.hid (fun g c did hd tl ln tx ov W => over_s at' pl s ti did hd tl ln (some ⟨bA, oA, none⟩) (some ⟨g, 0, none⟩) L.length c1 (xs.length + 1) c tx (.slice A11 n11 c11) ov W)
  have HLE := Lib.hid (show xs.length ≤ 1000 from by omega)
  clear hdd hV hnil h1c hsz hqd

  simp only [DS.V, sideC] at HOV HOV2 HP1 HP2 ⊢
  have HF32 := Lib.hid hf
  clear hS hU hcell hm hov hc hz hf
  clear hq hmm hy1 hy2
  go_enter Tryd.func18, Tryd.ntmps18
  go_wp2_with fail
  obtain ⟨w1, hw1⟩ : ∃ w1, w1 = (w.alloc (.cells #[.int .i64 at', .int .i64 pl, .int .i64 s, .slice (some ⟨bA, oA, none⟩) L.length c1, .int .i64 ti, .int .i64 (dd), .int .u32 hd, .int .u32 tl, .int .i64 ln, .string tx, .slice A10 xs.length c10, (.slice A11 n11 c11), .bool ov] 50)).alloc (.cells #[.int .i64 0, .int .i64 0, .int .i64 0, .slice none 0 0, .int .i64 0, .int .i64 0, .int .u32 0, .int .u32 0, .int .i64 0, .string ⟨#[]⟩, .slice none 0 0, .slice none 0 0, .bool false] 50) := ⟨_, rfl⟩
  have HFD := Lib.hid (show FD w1 w.heap.size ⟨at', pl, s, .slice (some ⟨bA, oA, none⟩) L.length c1, ti, dd, hd, tl, ln, tx, .slice A10 xs.length c10, (.slice A11 n11 c11), ov⟩ from by rw [hw1]; exact HFD0.out)
  have HB1 := Lib.hid (show Below w.heap.size w w1 from by rw [hw1]; exact ((Below.refl _ _).alloc (Nat.le_refl _) _).alloc (by simp) _)
  rw [← hw1]
  clear hw1 HFD0
  with_reducible refine (HOV.out _ _ _ _ _ _ _).mono ?_
  rintro e w2 ⟨rfl, hB2⟩
  have HFD := Lib.hid (HFD.out.keep hB2)
  have HB2 := Lib.hid (HB1.out.trans (hB2.mono HB1.out.size))
  have e1 := HCELL.out w2 HB2.out
  obtain ⟨k0, k1, k2, k3, k4, k5, k6, k7, k8, k9, k10, k11, k12⟩ := HFD.out.b.all
  clear hB2 HB1
  dsimp only at k0 k1 k2 k3 k4 k5 k6 k7 k8 k9 k10 k11 k12
  go_wp2_with fail
  go_quiet ((go_at_call 39; exact Calls.quiet_of_same ((HND.out _).mono fun _ _ ⟨h1, h2⟩ => ⟨h1, h2.symm⟩)))
  go_wp2_with fail
  obtain ⟨w3, hw3'⟩ : ∃ w3, w3 = w2.drewN nq := ⟨_, rfl⟩
  have HFD3 := Lib.hid (show FD w3 w.heap.size _ from by rw [hw3']; exact HFD.out.keep (Qt.below ⟨nq, rfl⟩))
  have HB3 := Lib.hid (show Below w.heap.size w w3 from by rw [hw3']; exact HB2.out.trans (Qt.below ⟨nq, rfl⟩))
  rw [← hw3']
  clear hw3' k0 k1 k2 k3 k4 k5 k6 k7 k8 k9 k10 k11 k12 e1 HFD HB2
  have HNX := Lib.hid (fun W W' (h2 : Below W.heap.size W W') (h : Below w3.heap.size w3 W) => And.intro (HFD3.out.keep (h.trans (h2.mono h.size))) (HB3.out.trans ((h.trans (h2.mono h.size)).mono HB3.out.size)))
  obtain ⟨k0, k1, k2, k3, k4, k5, k6, k7, k8, k9, k10, k11, k12⟩ := HFD3.out.b.all
  dsimp only at k0 k1 k2 k3 k4 k5 k6 k7 k8 k9 k10 k11 k12
  go_region_held3 (fun w' => w'.cell? ⟨w.heap.size, 0, none⟩ = some (.int .i64 at') ∧ w'.cell? ⟨w.heap.size, 1, none⟩ = some (.int .i64 pl) ∧ w'.cell? ⟨w.heap.size, 2, none⟩ = some (.int .i64 s) ∧ w'.cell? ⟨w.heap.size, 3, none⟩ = some (.slice (some ⟨bA, oA, none⟩) L.length c1) ∧ w'.cell? ⟨w.heap.size, 4, none⟩ = some (.int .i64 ti) ∧ w'.cell? ⟨w.heap.size, 5, none⟩ = some (.int .i64 dd) ∧ w'.cell? ⟨w.heap.size, 6, none⟩ = some (.int .u32 hd) ∧ w'.cell? ⟨w.heap.size, 7, none⟩ = some (.int .u32 tl) ∧ w'.cell? ⟨w.heap.size, 8, none⟩ = some (.int .i64 ln) ∧ w'.cell? ⟨w.heap.size, 9, none⟩ = some (.string tx) ∧ w'.cell? ⟨w.heap.size, 10, none⟩ = some (.slice A10 xs.length c10) ∧ w'.cell? ⟨w.heap.size, 11, none⟩ = some (.slice A11 n11 c11) ∧ w'.cell? ⟨w.heap.size, 12, none⟩ = some (.bool ov))
    (go_keep)
    (first
      | (go_at_call 40
         refine (HP1.out _).mono ?_
         rintro e w4 ⟨rfl, hB4⟩
         have hnx := HNX.out _ _ hB4 (by repeat (first | exact Below.refl _ _ | refine Below.drew ?_))
         have HFD4 := Lib.hid hnx.1
         have HB4 := Lib.hid hnx.2
         obtain ⟨r0, r1, r2, r3, r4, r5, r6, r7, r8, r9, r10, r11, r12⟩ := hnx.1.b.all
         dsimp only at r0 r1 r2 r3 r4 r5 r6 r7 r8 r9 r10 r11 r12
         clear hB4 hnx))
  clear k0 k1 k2 k3 k4 k5 k6 k7 k8 k9 k10 k11 k12 HNX
  go_wp2_with fail
  have HNX := Lib.hid (fun W W' (h2 : Below W.heap.size W W') (h : Below w4.heap.size w4 W) => And.intro (HFD4.out.keep (h.trans (h2.mono h.size))) (HB4.out.trans ((h.trans (h2.mono h.size)).mono HB4.out.size)))
  go_region_held3 (fun w' => w'.cell? ⟨w.heap.size, 0, none⟩ = some (.int .i64 at') ∧ w'.cell? ⟨w.heap.size, 1, none⟩ = some (.int .i64 pl) ∧ w'.cell? ⟨w.heap.size, 2, none⟩ = some (.int .i64 s) ∧ w'.cell? ⟨w.heap.size, 3, none⟩ = some (.slice (some ⟨bA, oA, none⟩) L.length c1) ∧ w'.cell? ⟨w.heap.size, 4, none⟩ = some (.int .i64 ti) ∧ w'.cell? ⟨w.heap.size, 5, none⟩ = some (.int .i64 dd) ∧ w'.cell? ⟨w.heap.size, 6, none⟩ = some (.int .u32 hd) ∧ w'.cell? ⟨w.heap.size, 7, none⟩ = some (.int .u32 tl) ∧ w'.cell? ⟨w.heap.size, 8, none⟩ = some (.int .i64 ln) ∧ w'.cell? ⟨w.heap.size, 9, none⟩ = some (.string tx) ∧ w'.cell? ⟨w.heap.size, 10, none⟩ = some (.slice A10 xs.length c10) ∧ w'.cell? ⟨w.heap.size, 11, none⟩ = some (.slice A11 n11 c11) ∧ w'.cell? ⟨w.heap.size, 12, none⟩ = some (.bool ov))
    (go_keep)
    (first
      | (go_at_call 40
         refine (HP2.out _).mono ?_
         rintro e w5 ⟨rfl, hB4⟩
         have hnx := HNX.out _ _ hB4 (by repeat (first | exact Below.refl _ _ | refine Below.drew ?_))
         have HFD5 := Lib.hid hnx.1
         have HB5 := Lib.hid hnx.2
         obtain ⟨p0, p1, p2, p3, p4, p5, p6, p7, p8, p9, p10, p11, p12⟩ := hnx.1.b.all
         dsimp only at p0 p1 p2 p3 p4 p5 p6 p7 p8 p9 p10 p11 p12
         clear hB4 hnx))
  clear r0 r1 r2 r3 r4 r5 r6 r7 r8 r9 r10 r11 r12 HNX
  go_wp2_with (at_builtin; refine wpList_append_ws rfl _ _ rfl h0 hn (HU.out.keep (HB5.out)) (by rfl) (by rfl) ?_)
  intro G cap' w6 hG1 hG2 hUs hFz hB6
  have HUS := Lib.hid hUs
  have hx := hUs.cell hi
  rw [Nat.zero_add] at hx
  have hfx := hFz i
  have hG0 : w.heap.size ≠ G := by have := HFD5.out.lt; omega
  have hGL := Lib.hid (show w.heap.size ≤ G from by have := HFD5.out.lt; omega)
  have hG3 : G ≠ w.heap.size := by have := HFD5.out.lt; omega
  have hG4 : w.heap.size + 1 ≠ G := by have := HFD5.out.lt; omega
  have hG5 : G ≠ w.heap.size + 1 := by have := HFD5.out.lt; omega
  have HGE := Lib.hid (show w.heap.size ≤ G from by have := HFD5.out.lt; omega)
  have HFD6 := Lib.hid (HFD5.out.keep hB6)
  have HB6 := Lib.hid (HB5.out.trans (hB6.mono HB5.out.size))
  have e6 := HCELL.out w6 HB6.out
  clear p0 p1 p2 p3 p4 p5 p6 p7 p8 p9 p10 p11 p12
  obtain ⟨k0, k1, k2, k3, k4, k5, k6, k7, k8, k9, k10, k11, k12⟩ := HFD6.out.b.all
  dsimp only at k0 k1 k2 k3 k4 k5 k6 k7 k8 k9 k10 k11 k12
  have f5 := HFD6.out.fb 5
  have f6 := HFD6.out.fb 6
  have f7 := HFD6.out.fb 7
  have f8 := HFD6.out.fb 8
  have f9 := HFD6.out.fb 9
  have f10 := HFD6.out.fb 10
  have f11 := HFD6.out.fb 11
  have f12 := HFD6.out.fb 12
  clear hUs hFz hB6 hG1 hG2
  obtain ⟨x, hxx⟩ : ∃ x, x = f i := ⟨_, rfl⟩
  rw [← hxx] at hx
  have hx32 : 0 ≤ x ∧ x < 4294967296 := by rw [hxx]; exact HF32.out i hi
  have HX := Lib.hid hxx
  clear hxx
  go_upto_region 35 with fail
  obtain ⟨w6a, hw6a⟩ : ∃ V, V = w6.setCell ⟨G, i, none⟩ (.int .u32 (inc tl)) := ⟨_, rfl⟩
  have HFDa := Lib.hid (show FD w6a w.heap.size ⟨at', pl, s, .slice (some ⟨bA, oA, none⟩) L.length c1, ti, dd, hd, tl, ln, tx, .slice A10 xs.length c10, (.slice A11 n11 c11), ov⟩ from by rw [hw6a]; exact (FD.out (a := ⟨G, i, none⟩) HFD6.out hG3 hG5 (.int .u32 (inc tl))))
  have HUa := Lib.hid (show Ws w6a (some ⟨G, 0, none⟩) n _ from by rw [hw6a]; exact (Ws.set0 HUS.out hi (inc tl)))
  have HBa := Lib.hid (show Below w.heap.size w w6a from by rw [hw6a]; exact (bset (a := ⟨G, i, none⟩) (v := .int .u32 (inc tl)) HB6.out (show w.heap.size ≤ G by have := HGE.out; omega)))
  rw [← hw6a]
  clear hw6a hx hfx e6 k0 k1 k2 k3 k4 k5 k6 k7 k8 k9 k10 k11 k12 f5 f6 f7 f8 f9 f10 f11 f12
  obtain ⟨k0, k1, k2, k3, k4, k5, k6, k7, k8, k9, k10, k11, k12⟩ := HFDa.out.b.all
  dsimp only at k0 k1 k2 k3 k4 k5 k6 k7 k8 k9 k10 k11 k12
  have ka := al_cell (o := .cells #[] 4) k10
  go_wp2_with (at_builtin; refine wpList_spread rfl _ _ 36 4 (.bool false) 1 rfl Tryd.underlying36 info4' rfl (by decide) rfl (HV.out _ HBa.out) HNIL.out (by have := HLE.out; omega) H1C.out (by rfl) (by rfl) ?_)
  intro g' cap2 w7 hg1 hg2 hgr hB7
  have HGR := Lib.hid hgr
  have HFDb := Lib.hid (HFDa.out.keep hB7)
  have HUb := Lib.hid (HUa.out.keep hB7)
  have HBb := Lib.hid (HBa.out.trans (hB7.mono HBa.out.size))
  have HNE := Lib.hid (show (w.heap.size ≠ g' ∧ w.heap.size + 1 ≠ g') ∧ G ≠ g' ∧ w.heap.size ≤ g' from by have := HFDa.out.lt; have := ws_lt HUa.out h0; omega)
  clear hgr hB7 hg1 hg2 ka k0 k1 k2 k3 k4 k5 k6 k7 k8 k9 k10 k11 k12
  obtain ⟨k0, k1, k2, k3, k4, k5, k6, k7, k8, k9, k10, k11, k12⟩ := HFDb.out.b.all
  dsimp only at k0 k1 k2 k3 k4 k5 k6 k7 k8 k9 k10 k11 k12
  go_wp2_with (at_builtin; refine wpList_app rfl _ _ 36 4 (.bool false) 1 rfl Tryd.underlying36 info4' rfl (by decide) (u := .bool true) HGR.out (by have := HLE.out; omega) rfl (by rfl) (by rfl) ?_)
  intro g3 cap3 w8 hg3 hC3 hat3 hlt3
  have HG3 := Lib.hid hg3
  have HFDc := Lib.hid (HFDb.out.chg hC3 (fun e => HNE.out.1.1 (Option.some.inj e).symm) (fun e => HNE.out.1.2 (Option.some.inj e).symm))
  have HUc := Lib.hid (HUb.out.chg hC3 (fun e => HNE.out.2.1 (Option.some.inj e).symm))
  have HBc := Lib.hid (HBb.out.trans (hC3.below (fun x e => by have e : g' = x := Option.some.inj e; have := HNE.out.2.2; omega) HBb.out.size))
  have HNL := Lib.hid (show w.heap.size ≤ g3 from by
    have := HFDb.out.lt
    rcases hat3 with e | e
    · have e : g' = g3 := Option.some.inj e
      have := HNE.out.2.2; omega
    · omega)
  have HNF := Lib.hid (show w.heap.size ≠ g3 ∧ w.heap.size + 1 ≠ g3 from by
    have := HFDb.out.lt
    rcases hat3 with e | e
    · have e : g' = g3 := Option.some.inj e
      have := HNE.out.1; omega
    · omega)
  clear hg3 hC3 hat3 hlt3 k0 k1 k2 k3 k4 k5 k6 k7 k8 k9 k10 k11 k12
  obtain ⟨k0, k1, k2, k3, k4, k5, k6, k7, k8, k9, k10, k11, k12⟩ := HFDc.out.b.all
  dsimp only at k0 k1 k2 k3 k4 k5 k6 k7 k8 k9 k10 k11 k12
  have f5 := HFDc.out.fb 5
  have f8 := HFDc.out.fb 8
  have f9 := HFDc.out.fb 9
  have f10 := HFDc.out.fb 10
  have f11 := HFDc.out.fb 11
  have f12 := HFDc.out.fb 12
  go_wp2_with fail
  obtain ⟨w9, hw9⟩ : ∃ V, V = (w8.setCell ⟨w.heap.size, 10, none⟩ (.slice (some ⟨g3, 0, none⟩) (xs.length + 1) cap3)).setCell ⟨w.heap.size, 5, none⟩ (.int .i64 0) := ⟨_, rfl⟩
  have HFD9 := Lib.hid (show FD w9 w.heap.size ⟨at', pl, s, .slice (some ⟨bA, oA, none⟩) L.length c1, ti, 0, hd, tl, ln, tx, .slice (some ⟨g3, 0, none⟩) (xs.length + 1) cap3, (.slice A11 n11 c11), ov⟩ from by rw [hw9]; exact (FD.set (d' := ⟨at', pl, s, .slice (some ⟨bA, oA, none⟩) L.length c1, ti, 0, hd, tl, ln, tx, .slice (some ⟨g3, 0, none⟩) (xs.length + 1) cap3, (.slice A11 n11 c11), ov⟩) (FD.set (d' := ⟨at', pl, s, .slice (some ⟨bA, oA, none⟩) L.length c1, ti, dd, hd, tl, ln, tx, .slice (some ⟨g3, 0, none⟩) (xs.length + 1) cap3, (.slice A11 n11 c11), ov⟩) HFDc.out 10 (.slice (some ⟨g3, 0, none⟩) (xs.length + 1) cap3) rfl) 5 (.int .i64 0) rfl))
  have HU9 := Lib.hid (show Ws w9 (some ⟨G, 0, none⟩) n _ from by rw [hw9]; exact (Ws.out (a := ⟨w.heap.size, 5, none⟩) (v := (.int .i64 0)) (Ws.out (a := ⟨w.heap.size, 10, none⟩) (v := (.slice (some ⟨g3, 0, none⟩) (xs.length + 1) cap3)) HUc.out hG0) hG0))
  have HB9 := Lib.hid (show Below w.heap.size w w9 from by rw [hw9]; exact (bset (a := ⟨w.heap.size, 5, none⟩) (v := (.int .i64 0)) (bset (a := ⟨w.heap.size, 10, none⟩) (v := (.slice (some ⟨g3, 0, none⟩) (xs.length + 1) cap3)) HBc.out (Nat.le_refl _)) (Nat.le_refl _)))
  have HV9 := Lib.hid (show Vals w9 (some ⟨g3, 0, none⟩) _ from by rw [hw9]; exact (Vals.out (a := ⟨w.heap.size, 5, none⟩) (v := (.int .i64 0)) (Vals.out (a := ⟨w.heap.size, 10, none⟩) (v := (.slice (some ⟨g3, 0, none⟩) (xs.length + 1) cap3)) HG3.out.vals HNF.out.1) HNF.out.1))
  rw [← hw9]
  clear hw9 k0 k1 k2 k3 k4 k5 k6 k7 k8 k9 k10 k11 k12 f5 f8 f9 f10 f11 f12
  with_reducible refine (HOV2.out _ _ _ _ _ _ _ _ _).mono ?_
  rintro e w10 ⟨rfl, hB10⟩
  have HFD10 := Lib.hid (HFD9.out.keep hB10)
  have HU10 := Lib.hid (HU9.out.keep hB10)
  have HV10 := Lib.hid (HV9.out.keep hB10)
  have HB10 := Lib.hid (HB9.out.trans (hB10.mono HB9.out.size))
  obtain ⟨k0, k1, k2, k3, k4, k5, k6, k7, k8, k9, k10, k11, k12⟩ := HFD10.out.b.all
  obtain ⟨z0, z1, z2, z3, z4, z5, z6, z7, z8, z9, z10, z11, z12⟩ := HFD10.out.z.all
  dsimp only [dZ] at k0 k1 k2 k3 k4 k5 k6 k7 k8 k9 k10 k11 k12 z0 z1 z2 z3 z4 z5 z6 z7 z8 z9 z10 z11 z12
  have f12 := HFD10.out.fb 12
  have g0z := HFD10.out.fz 0
  have g1z := HFD10.out.fz 1
  have g2z := HFD10.out.fz 2
  have g3z := HFD10.out.fz 3
  have g4z := HFD10.out.fz 4
  have g5z := HFD10.out.fz 5
  have g6z := HFD10.out.fz 6
  have g7z := HFD10.out.fz 7
  have g8z := HFD10.out.fz 8
  have g9z := HFD10.out.fz 9
  have g10z := HFD10.out.fz 10
  have g11z := HFD10.out.fz 11
  have g12z := HFD10.out.fz 12
  clear hB10
  go_wp2_with fail
  refine bodyPost_ret (v := .tuple #[.agg #[.int .i64 at', .int .i64 pl, .int .i64 s, .slice (some ⟨bA, oA, none⟩) L.length c1, .int .i64 ti, .int .i64 0, .int .u32 hd, .int .u32 tl, .int .i64 ln, .string tx, .slice (some ⟨g3, 0, none⟩) (xs.length + 1) cap3, (.slice A11 n11 c11), .bool (((xs.length + 1 : Nat) : Int) == (L.length : Nat))], .slice (some ⟨G, 0, none⟩) n cap']) (by simp [results, Tryd.results18, go_sem, same_some, z0, z1, z2, z3, z4, z5, z6, z7, z8, z9, z10, z11, z12]) rfl ⟨some ⟨G, 0, none⟩, cap', g3, cap3, by simp [DS.V], ?_, ?_, ?_, HNL.out, .inr ⟨G, rfl, hGL.out⟩⟩
  · exact tail_ws (Ws.out (a := ⟨w.heap.size, 12, none⟩) HU10.out hG0) hG4 _ _ _ _ _ _ _ _ _ _ _ _ _
  · exact tail_vals (Vals.out (a := ⟨w.heap.size, 12, none⟩) HV10.out HNF.out.1) HNF.out.2 _ _ _ _ _ _ _ _ _ _ _ _ _
  · exact tail_be (bset HB10.out (Nat.le_refl _)) (by omega) _ _ _ _ _ _ _ _ _ _ _ _ _
end Go.Proofs.YtnmobalgghggnaaDoor
/-
  The document's Step of a sender that is over.
-/
namespace Go.Proofs.YtnmobalgghggnaaDoor
open Go.RowKit

set_option maxHeartbeats 8000000 in
set_option maxRecDepth 100000 in
theorem st_s5 (at' ti did hd tl ln : Int) (pl s n n1 c1 c10 n11 c11 cp : Nat) (A1 A10 A11 U : Option Addr) (tx : ByteArray) (ov : Bool) (f : Nat → Int) (w : World) (hU : Ws w U n f) :
    Calls Tryd.prog 18 #[DS.V ⟨at', pl, s, .slice A1 n1 c1, ti, did, hd, tl, ln, tx, .slice A10 n1 c10, .slice A11 n11 c11, ov⟩, .bool true, .slice U n cp] w fun e w' => DGoL U ⟨at', pl, s, .slice A1 n1 c1, ti, did, hd, tl, ln, tx, .slice A10 n1 c10, .slice A11 n11 c11, true⟩ n f w e w' := by
  have HFD0 := Lib.hid (fd_new w ⟨at', pl, s, .slice A1 n1 c1, ti, did, hd, tl, ln, tx, .slice A10 n1 c10, .slice A11 n11 c11, ov⟩)
  have hov : ((n1 : Int) == (n1 : Nat)) = true := by rw [beq_iff_eq]
  have HOV := Lib.hid (fun W => over_s at' pl s ti did hd tl ln A1 A10 n1 c1 n1 c10 tx (.slice A11 n11 c11) ov W)
  rw [hov] at HOV
  have HU := Lib.hid hU
  simp only [DS.V, sideC] at HOV ⊢
  clear hU hov
  go_enter Tryd.func18, Tryd.ntmps18
  go_wp2_with fail
  obtain ⟨w1, hw1⟩ : ∃ w1, w1 = (w.alloc (.cells #[.int .i64 at', .int .i64 pl, .int .i64 s, .slice A1 n1 c1, .int .i64 ti, .int .i64 did, .int .u32 hd, .int .u32 tl, .int .i64 ln, .string tx, .slice A10 n1 c10, .slice A11 n11 c11, .bool ov] 50)).alloc (.cells #[.int .i64 0, .int .i64 0, .int .i64 0, .slice none 0 0, .int .i64 0, .int .i64 0, .int .u32 0, .int .u32 0, .int .i64 0, .string ⟨#[]⟩, .slice none 0 0, .slice none 0 0, .bool false] 50) := ⟨_, rfl⟩
  have HFD := Lib.hid (show FD w1 w.heap.size ⟨at', pl, s, .slice A1 n1 c1, ti, did, hd, tl, ln, tx, .slice A10 n1 c10, .slice A11 n11 c11, ov⟩ from by rw [hw1]; exact HFD0.out)
  have HB1 := Lib.hid (show Below w.heap.size w w1 from by rw [hw1]; exact ((Below.refl _ _).alloc (Nat.le_refl _) _).alloc (by simp) _)
  rw [← hw1]
  clear hw1 HFD0
  with_reducible refine (HOV.out _).mono ?_
  rintro e w2 ⟨rfl, hB2⟩
  have HFD := Lib.hid (HFD.out.keep hB2)
  have HB2 := Lib.hid (HB1.out.trans (hB2.mono HB1.out.size))
  obtain ⟨k0, k1, k2, k3, k4, k5, k6, k7, k8, k9, k10, k11, k12⟩ := HFD.out.b.all
  obtain ⟨z0, z1, z2, z3, z4, z5, z6, z7, z8, z9, z10, z11, z12⟩ := HFD.out.z.all
  dsimp only [dZ] at k0 k1 k2 k3 k4 k5 k6 k7 k8 k9 k10 k11 k12 z0 z1 z2 z3 z4 z5 z6 z7 z8 z9 z10 z11 z12
  have f12 := HFD.out.fb 12
  have g0z := HFD.out.fz 0
  have g1z := HFD.out.fz 1
  have g2z := HFD.out.fz 2
  have g3z := HFD.out.fz 3
  have g4z := HFD.out.fz 4
  have g5z := HFD.out.fz 5
  have g6z := HFD.out.fz 6
  have g7z := HFD.out.fz 7
  have g8z := HFD.out.fz 8
  have g9z := HFD.out.fz 9
  have g10z := HFD.out.fz 10
  have g11z := HFD.out.fz 11
  have g12z := HFD.out.fz 12
  clear hB2 HB1
  go_wp2_with fail
  refine bodyPost_ret (v := .tuple #[.agg #[.int .i64 at', .int .i64 pl, .int .i64 s, .slice A1 n1 c1, .int .i64 ti, .int .i64 did, .int .u32 hd, .int .u32 tl, .int .i64 ln, .string tx, .slice A10 n1 c10, .slice A11 n11 c11, .bool true], .slice U n cp]) (by simp [results, Tryd.results18, go_sem, same_some, z0, z1, z2, z3, z4, z5, z6, z7, z8, z9, z10, z11, z12]) rfl ⟨U, cp, by simp [DS.V], ?_, ?_, .inl rfl⟩
  · exact HU.out.keep (tail_be (bset HB2.out (Nat.le_refl _)) (by omega) _ _ _ _ _ _ _ _ _ _ _ _ _)
  · exact tail_be (bset HB2.out (Nat.le_refl _)) (by omega) _ _ _ _ _ _ _ _ _ _ _ _ _
end Go.Proofs.YtnmobalgghggnaaDoor
