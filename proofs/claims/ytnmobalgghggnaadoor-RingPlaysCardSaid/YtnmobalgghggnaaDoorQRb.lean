/-
  The document's Step of a receiver: it loads a word.
-/
import Derived.Test.YtnmobalgghggnaaDoorQRef
import Derived.Deep.RegionHeld3
import Derived.Deep.Cut
namespace Go.Proofs.YtnmobalgghggnaaDoor
open Go.RowKit

set_option maxHeartbeats 8000000 in
set_option maxRecDepth 100000 in
theorem st_r3 (at' ti hd tl : Int) (pl s n l n11 c11 cp : Nat) (A11 U : Option Addr) (tx : ByteArray) (ov : Bool) (f : Nat → Int) (w : World) (ha : -1000 ≤ at' ∧ at' ≤ 1000) (hc : capP (pl : Int) = true) (hz : 1 ≤ s ∧ s ≤ 32) (hhd : 0 ≤ hd ∧ hd < 4294967296) (_ : 0 ≤ tl ∧ tl < 4294967296)
    (hl : l ≤ 32) (hk : (n11 : Int) < ti) (hU : Ws w U n f) (hf : ∀ i, i < n → 0 ≤ f i ∧ f i < 4294967296) (h0 : 0 < n) (hn : n ≤ 4096) (htx : tx.size ≤ 1000) (dd : Int) (pa i : Nat) (hdd : dd = 3 + pa) (hpa : pa < need l) (hwh : base at' pl s hd + 1 + pa = i) (hi : i < n) :
    Calls Tryd.prog 18 #[DS.V ⟨at', pl, s, .slice none 0 0, ti, dd, hd, tl, (l : Nat), tx, .slice none 0 0, .slice A11 n11 c11, ov⟩, .bool false, .slice U n cp] w fun e w' => DGoL U ⟨at', pl, s, .slice none 0 0, ti, dd + 1, hd, tl, (l : Nat), tx ++ bytesOf (f i), .slice none 0 0, .slice A11 n11 c11, false⟩ n (f) w e w' := by
  have HFD0 := Lib.hid (fd_new w ⟨at', pl, s, .slice none 0 0, ti, dd, hd, tl, (l : Nat), tx, .slice none 0 0, .slice A11 n11 c11, ov⟩)
  have hov : ((n11 : Int) == ti) = false := by rw [beq_eq_false_iff_ne]; omega
  have HOV := Lib.hid (fun did hd tl ln tx ov W => over_r at' pl s ti did hd tl ln A11 n11 c11 tx (.slice none 0 0) (.slice none 0 0) ov W)
  rw [hov] at HOV
  have HP1 := Lib.hid (fun W => refplace_any at' s ti (dd) hd tl (l : Nat) hd pl s tx (.slice none 0 0) (.slice none 0 0) (.slice A11 n11 c11) ov W ha hc hz rfl hhd)
  have HU := Lib.hid hU
  have HND := Lib.hid (fun W => needs_any _ l W rfl (by omega))
  obtain ⟨q, hq⟩ : ∃ q, q = need l := ⟨_, rfl⟩
  rw [← hq] at HND
  have hq8 : q ≤ 8 := by rw [hq]; exact need_le hl
  have hw3 : IntKind.i64.wrap (3 + (q : Int)) = 3 + q := IntWalk.i64_in _ (by omega)
  obtain ⟨y1, hy1⟩ : ∃ y, y = base at' pl s hd := ⟨_, rfl⟩
  have hr1 := base_rng2 (i := hd) ha hc hz
  rw [← hy1] at HP1 hr1
  have wy1 : IntKind.i64.wrap y1 = y1 := IntWalk.i64_in _ (by omega)
  have wz1 : IntKind.i64.wrap (y1 - 2) = y1 - 2 := IntWalk.i64_in _ (by omega)
  have hi0 : (0 : Int) ≤ (i : Int) := by omega
  have hi1 : (i : Int) < n := by omega
  have hpq : pa < q := by rw [hq]; exact hpa
  have hlast : (dd == 3 + (q : Int)) = false := by rw [beq_eq_false_iff_ne]; omega
  have hd0 : (dd == 0) = false := by rw [beq_eq_false_iff_ne]; omega
  have hd1 : (dd == 1) = false := by rw [beq_eq_false_iff_ne]; omega
  have hd2 : (dd == 2) = false := by rw [beq_eq_false_iff_ne]; omega
  have hd3 : ¬ dd < 2 := by omega
  have wd1 : IntKind.i64.wrap (dd + 1) = dd + 1 := IntWalk.i64_in _ (by omega)
  have wy3 : IntKind.i64.wrap (y1 + dd) = y1 + dd := IntWalk.i64_in _ (by omega)
  have wz4 : IntKind.i64.wrap (y1 + dd - 2) = i := by rw [IntWalk.i64_in _ (by omega)]; omega
  clear hdd hpa hpq

  simp only [DS.V, sideC] at HOV HP1 ⊢
  have HF32 := Lib.hid hf
  clear hU hov hc hz hf
  clear hq hy1
  go_enter Tryd.func18, Tryd.ntmps18
  go_wp2_with fail
  obtain ⟨w1, hw1⟩ : ∃ w1, w1 = (w.alloc (.cells #[.int .i64 at', .int .i64 pl, .int .i64 s, .slice none 0 0, .int .i64 ti, .int .i64 (dd), .int .u32 hd, .int .u32 tl, .int .i64 (l : Nat), .string tx, .slice none 0 0, .slice A11 n11 c11, .bool ov] 50)).alloc (.cells #[.int .i64 0, .int .i64 0, .int .i64 0, .slice none 0 0, .int .i64 0, .int .i64 0, .int .u32 0, .int .u32 0, .int .i64 0, .string ⟨#[]⟩, .slice none 0 0, .slice none 0 0, .bool false] 50) := ⟨_, rfl⟩
  have HFD := Lib.hid (show FD w1 w.heap.size ⟨at', pl, s, .slice none 0 0, ti, dd, hd, tl, (l : Nat), tx, .slice none 0 0, .slice A11 n11 c11, ov⟩ from by rw [hw1]; exact HFD0.out)
  have HB1 := Lib.hid (show Below w.heap.size w w1 from by rw [hw1]; exact ((Below.refl _ _).alloc (Nat.le_refl _) _).alloc (by simp) _)
  rw [← hw1]
  clear hw1 HFD0
  with_reducible refine (HOV.out _ _ _ _ _ _ _).mono ?_
  rintro e w2 ⟨rfl, hB2⟩
  have HFD := Lib.hid (HFD.out.keep hB2)
  have HB2 := Lib.hid (HB1.out.trans (hB2.mono HB1.out.size))
  obtain ⟨k0, k1, k2, k3, k4, k5, k6, k7, k8, k9, k10, k11, k12⟩ := HFD.out.b.all
  clear hB2 HB1
  dsimp only at k0 k1 k2 k3 k4 k5 k6 k7 k8 k9 k10 k11 k12
  go_wp2_with fail
  go_quiet ((go_at_call 39; exact Calls.quiet_of_same ((HND.out _).mono fun _ _ ⟨h1, h2⟩ => ⟨h1, h2.symm⟩)))
  go_wp2_with fail
  obtain ⟨w3, hw3'⟩ : ∃ w3, w3 = w2.drewN nq := ⟨_, rfl⟩
  have HFD3 := Lib.hid (show FD w3 w.heap.size _ from by rw [hw3']; exact HFD.out.keep (Qt.below ⟨nq, rfl⟩))
  have HB3 := Lib.hid (show Below w.heap.size w w3 from by rw [hw3']; exact HB2.out.trans (Qt.below ⟨nq, rfl⟩))
  rw [← hw3']
  clear hw3' k0 k1 k2 k3 k4 k5 k6 k7 k8 k9 k10 k11 k12 HFD HB2
  have HNX := Lib.hid (fun W W' (h2 : Below W.heap.size W W') (h : Below w3.heap.size w3 W) => And.intro (HFD3.out.keep (h.trans (h2.mono h.size))) (HB3.out.trans ((h.trans (h2.mono h.size)).mono HB3.out.size)))
  obtain ⟨k0, k1, k2, k3, k4, k5, k6, k7, k8, k9, k10, k11, k12⟩ := HFD3.out.b.all
  dsimp only at k0 k1 k2 k3 k4 k5 k6 k7 k8 k9 k10 k11 k12
  go_region_held3 (fun w' => w'.cell? ⟨w.heap.size, 0, none⟩ = some (.int .i64 at') ∧ w'.cell? ⟨w.heap.size, 1, none⟩ = some (.int .i64 pl) ∧ w'.cell? ⟨w.heap.size, 2, none⟩ = some (.int .i64 s) ∧ w'.cell? ⟨w.heap.size, 3, none⟩ = some (.slice none 0 0) ∧ w'.cell? ⟨w.heap.size, 4, none⟩ = some (.int .i64 ti) ∧ w'.cell? ⟨w.heap.size, 5, none⟩ = some (.int .i64 dd) ∧ w'.cell? ⟨w.heap.size, 6, none⟩ = some (.int .u32 hd) ∧ w'.cell? ⟨w.heap.size, 7, none⟩ = some (.int .u32 tl) ∧ w'.cell? ⟨w.heap.size, 8, none⟩ = some (.int .i64 (l : Nat)) ∧ w'.cell? ⟨w.heap.size, 9, none⟩ = some (.string tx) ∧ w'.cell? ⟨w.heap.size, 10, none⟩ = some (.slice none 0 0) ∧ w'.cell? ⟨w.heap.size, 11, none⟩ = some (.slice A11 n11 c11) ∧ w'.cell? ⟨w.heap.size, 12, none⟩ = some (.bool ov))
    (go_keep)
    (first
      | (go_at_call 40
         refine (HP1.out _).mono ?_
         rintro e w5 ⟨rfl, hB4⟩
         have hnx := HNX.out _ _ hB4 (by repeat (first | exact Below.refl _ _ | refine Below.drew ?_))
         have HFD5 := Lib.hid hnx.1
         have HB5 := Lib.hid hnx.2
         obtain ⟨p0, p1, p2, p3, p4, p5, p6, p7, p8, p9, p10, p11, p12⟩ := hnx.1.b.all
         dsimp only at p0 p1 p2 p3 p4 p5 p6 p7 p8 p9 p10 p11 p12
         clear hB4 hnx))
  clear k0 k1 k2 k3 k4 k5 k6 k7 k8 k9 k10 k11 k12 HNX
  go_wp2_with (at_builtin; refine wpList_append_ws rfl _ _ rfl h0 hn (HU.out.keep (HB5.out)) (by rfl) (by rfl) ?_)
  intro G cap' w6 hG1 hG2 hUs hFz hB6
  have HUS := Lib.hid hUs
  have hx := hUs.cell hi
  rw [Nat.zero_add] at hx
  have hfx := hFz i
  have hG0 : w.heap.size ≠ G := by have := HFD5.out.lt; omega
  have hGL := Lib.hid (show w.heap.size ≤ G from by have := HFD5.out.lt; omega)
  have hG3 : G ≠ w.heap.size := by have := HFD5.out.lt; omega
  have hG4 : w.heap.size + 1 ≠ G := by have := HFD5.out.lt; omega
  have hG5 : G ≠ w.heap.size + 1 := by have := HFD5.out.lt; omega
  have HGE := Lib.hid (show w.heap.size ≤ G from by have := HFD5.out.lt; omega)
  have HFD6 := Lib.hid (HFD5.out.keep hB6)
  have HB6 := Lib.hid (HB5.out.trans (hB6.mono HB5.out.size))
  clear p0 p1 p2 p3 p4 p5 p6 p7 p8 p9 p10 p11 p12
  obtain ⟨k0, k1, k2, k3, k4, k5, k6, k7, k8, k9, k10, k11, k12⟩ := HFD6.out.b.all
  dsimp only at k0 k1 k2 k3 k4 k5 k6 k7 k8 k9 k10 k11 k12
  have f5 := HFD6.out.fb 5
  have f6 := HFD6.out.fb 6
  have f7 := HFD6.out.fb 7
  have f8 := HFD6.out.fb 8
  have f9 := HFD6.out.fb 9
  have f10 := HFD6.out.fb 10
  have f11 := HFD6.out.fb 11
  have f12 := HFD6.out.fb 12
  clear hUs hFz hB6 hG1 hG2
  obtain ⟨x, hxx⟩ : ∃ x, x = f i := ⟨_, rfl⟩
  rw [← hxx] at hx
  have hx32 : 0 ≤ x ∧ x < 4294967296 := by rw [hxx]; exact HF32.out i hi
  have HX := Lib.hid hxx
  clear hxx
  have HBY := Lib.hid (fun W => refbytes_any x W hx32)
  have hsum : ¬ 9223372036854775807 < tx.size + (bytesOf x).size := by rw [show (bytesOf x).size = 4 from rfl]; omega
  have HN6 := Lib.hid (fun W W' (h2 : Below W.heap.size W W') (h : Below w6.heap.size w6 W) => And.intro (HFD6.out.keep (h.trans (h2.mono h.size))) (And.intro (HUS.out.keep (h.trans (h2.mono h.size))) (HB6.out.trans ((h.trans (h2.mono h.size)).mono HB6.out.size))))
  go_wp2_with fail
  go_region_law ((go_simp; refine (HBY.out _).mono ?_
                  rintro e w6b ⟨rfl, hB7⟩
                  have hnx := HN6.out _ _ hB7 (by repeat (first | exact Below.refl _ _ | refine Below.drew ?_))
                  have HFD6b := Lib.hid hnx.1
                  have HU6b := Lib.hid hnx.2.1
                  have HB6b := Lib.hid hnx.2.2
                  obtain ⟨r0, r1, r2, r3, r4, r5, r6, r7, r8, r9, r10, r11, r12⟩ := hnx.1.b.all
                  have f9r := hnx.1.fb 9
                  have f5r := hnx.1.fb 5
                  dsimp only at r0 r1 r2 r3 r4 r5 r6 r7 r8 r9 r10 r11 r12
                  clear hB7 hnx))
  all_goals
    clear k0 k1 k2 k3 k4 k5 k6 k7 k8 k9 k10 k11 k12 f5 f6 f7 f8 f9 f10 f11 f12
    go_wp2_with fail
    obtain ⟨w7, hw7⟩ : ∃ w7, w7 = (w6b.setCell ⟨w.heap.size, 9, none⟩ (.string (tx ++ bytesOf x))).setCell ⟨w.heap.size, 5, none⟩ (.int .i64 (dd + 1)) := ⟨_, rfl⟩
    have HFD7 := Lib.hid (show FD w7 w.heap.size ⟨at', pl, s, .slice none 0 0, ti, dd + 1, hd, tl, (l : Nat), tx ++ bytesOf x, .slice none 0 0, .slice A11 n11 c11, ov⟩ from by rw [hw7]; exact (FD.set (d' := ⟨at', pl, s, .slice none 0 0, ti, dd + 1, hd, tl, (l : Nat), tx ++ bytesOf x, .slice none 0 0, .slice A11 n11 c11, ov⟩) (FD.set (d' := ⟨at', pl, s, .slice none 0 0, ti, dd, hd, tl, (l : Nat), tx ++ bytesOf x, .slice none 0 0, .slice A11 n11 c11, ov⟩) HFD6b.out 9 (.string (tx ++ bytesOf x)) rfl) 5 (.int .i64 (dd + 1)) rfl))
    have HU7 := Lib.hid (show Ws w7 (some ⟨G, 0, none⟩) n _ from by rw [hw7]; exact (Ws.out (a := ⟨w.heap.size, 5, none⟩) (v := (.int .i64 (dd + 1))) (Ws.out (a := ⟨w.heap.size, 9, none⟩) (v := (.string (tx ++ bytesOf x))) HU6b.out hG0) hG0))
    have HB7 := Lib.hid (show Below w.heap.size w w7 from by rw [hw7]; exact (bset (a := ⟨w.heap.size, 5, none⟩) (v := (.int .i64 (dd + 1))) (bset (a := ⟨w.heap.size, 9, none⟩) (v := (.string (tx ++ bytesOf x))) HB6b.out (Nat.le_refl _)) (Nat.le_refl _)))
    rw [← hw7]
    clear hw7 hx hfx r0 r1 r2 r3 r4 r5 r6 r7 r8 r9 r10 r11 r12 f5r f9r
    with_reducible refine (HOV.out _ _ _ _ _ _ _).mono ?_
    rintro e w8 ⟨rfl, hB8⟩
    have HFD8 := Lib.hid (HFD7.out.keep hB8)
    have HU8 := Lib.hid (HU7.out.keep hB8)
    have HB8 := Lib.hid (HB7.out.trans (hB8.mono HB7.out.size))
    obtain ⟨k0, k1, k2, k3, k4, k5, k6, k7, k8, k9, k10, k11, k12⟩ := HFD8.out.b.all
    obtain ⟨z0, z1, z2, z3, z4, z5, z6, z7, z8, z9, z10, z11, z12⟩ := HFD8.out.z.all
    dsimp only [dZ] at k0 k1 k2 k3 k4 k5 k6 k7 k8 k9 k10 k11 k12 z0 z1 z2 z3 z4 z5 z6 z7 z8 z9 z10 z11 z12
    have f12 := HFD8.out.fb 12
    have g0 := HFD8.out.fz 0
    have g1 := HFD8.out.fz 1
    have g2 := HFD8.out.fz 2
    have g3 := HFD8.out.fz 3
    have g4 := HFD8.out.fz 4
    have g5 := HFD8.out.fz 5
    have g6 := HFD8.out.fz 6
    have g7 := HFD8.out.fz 7
    have g8 := HFD8.out.fz 8
    have g9 := HFD8.out.fz 9
    have g10 := HFD8.out.fz 10
    have g11 := HFD8.out.fz 11
    have g12 := HFD8.out.fz 12
    clear hB8
    go_wp2_with fail
    refine bodyPost_ret (v := .tuple #[.agg #[.int .i64 at', .int .i64 pl, .int .i64 s, .slice none 0 0, .int .i64 ti, .int .i64 (dd + 1), .int .u32 hd, .int .u32 tl, .int .i64 (l : Nat), .string (tx ++ bytesOf x), .slice none 0 0, .slice A11 n11 c11, .bool false], .slice (some ⟨G, 0, none⟩) n cap']) (by simp [results, Tryd.results18, go_sem, same_some, z0, z1, z2, z3, z4, z5, z6, z7, z8, z9, z10, z11, z12]) rfl ⟨some ⟨G, 0, none⟩, cap', by simp [DS.V, HX.out], ?_, ?_, .inr ⟨G, rfl, hGL.out⟩⟩
    · exact tail_ws (Ws.out (a := ⟨w.heap.size, 12, none⟩) HU8.out hG0) hG4 _ _ _ _ _ _ _ _ _ _ _ _ _
    · exact tail_be (bset HB8.out (Nat.le_refl _)) (by omega) _ _ _ _ _ _ _ _ _ _ _ _ _
end Go.Proofs.YtnmobalgghggnaaDoor
/-
  The document's Step of a receiver that is over.
-/
namespace Go.Proofs.YtnmobalgghggnaaDoor
open Go.RowKit

set_option maxHeartbeats 8000000 in
set_option maxRecDepth 100000 in
theorem st_r5 (at' did hd tl ln : Int) (pl s n n11 c11 cp : Nat) (A11 U : Option Addr) (tx : ByteArray) (ov : Bool) (f : Nat → Int) (w : World) (hU : Ws w U n f) :
    Calls Tryd.prog 18 #[DS.V ⟨at', pl, s, .slice none 0 0, (n11 : Nat), did, hd, tl, ln, tx, .slice none 0 0, .slice A11 n11 c11, ov⟩, .bool false, .slice U n cp] w fun e w' => DGoL U ⟨at', pl, s, .slice none 0 0, (n11 : Nat), did, hd, tl, ln, tx, .slice none 0 0, .slice A11 n11 c11, true⟩ n f w e w' := by
  have HFD0 := Lib.hid (fd_new w ⟨at', pl, s, .slice none 0 0, (n11 : Nat), did, hd, tl, ln, tx, .slice none 0 0, .slice A11 n11 c11, ov⟩)
  have hov : ((n11 : Int) == (n11 : Nat)) = true := by rw [beq_iff_eq]
  have HOV := Lib.hid (fun W => over_r at' pl s (n11 : Nat) did hd tl ln A11 n11 c11 tx (.slice none 0 0) (.slice none 0 0) ov W)
  rw [hov] at HOV
  have HU := Lib.hid hU
  simp only [DS.V, sideC] at HOV ⊢
  clear hU hov
  go_enter Tryd.func18, Tryd.ntmps18
  go_wp2_with fail
  obtain ⟨w1, hw1⟩ : ∃ w1, w1 = (w.alloc (.cells #[.int .i64 at', .int .i64 pl, .int .i64 s, .slice none 0 0, .int .i64 (n11 : Nat), .int .i64 did, .int .u32 hd, .int .u32 tl, .int .i64 ln, .string tx, .slice none 0 0, .slice A11 n11 c11, .bool ov] 50)).alloc (.cells #[.int .i64 0, .int .i64 0, .int .i64 0, .slice none 0 0, .int .i64 0, .int .i64 0, .int .u32 0, .int .u32 0, .int .i64 0, .string ⟨#[]⟩, .slice none 0 0, .slice none 0 0, .bool false] 50) := ⟨_, rfl⟩
  have HFD := Lib.hid (show FD w1 w.heap.size ⟨at', pl, s, .slice none 0 0, (n11 : Nat), did, hd, tl, ln, tx, .slice none 0 0, .slice A11 n11 c11, ov⟩ from by rw [hw1]; exact HFD0.out)
  have HB1 := Lib.hid (show Below w.heap.size w w1 from by rw [hw1]; exact ((Below.refl _ _).alloc (Nat.le_refl _) _).alloc (by simp) _)
  rw [← hw1]
  clear hw1 HFD0
  with_reducible refine (HOV.out _).mono ?_
  rintro e w2 ⟨rfl, hB2⟩
  have HFD := Lib.hid (HFD.out.keep hB2)
  have HB2 := Lib.hid (HB1.out.trans (hB2.mono HB1.out.size))
  obtain ⟨k0, k1, k2, k3, k4, k5, k6, k7, k8, k9, k10, k11, k12⟩ := HFD.out.b.all
  obtain ⟨z0, z1, z2, z3, z4, z5, z6, z7, z8, z9, z10, z11, z12⟩ := HFD.out.z.all
  dsimp only [dZ] at k0 k1 k2 k3 k4 k5 k6 k7 k8 k9 k10 k11 k12 z0 z1 z2 z3 z4 z5 z6 z7 z8 z9 z10 z11 z12
  have f12 := HFD.out.fb 12
  have g0z := HFD.out.fz 0
  have g1z := HFD.out.fz 1
  have g2z := HFD.out.fz 2
  have g3z := HFD.out.fz 3
  have g4z := HFD.out.fz 4
  have g5z := HFD.out.fz 5
  have g6z := HFD.out.fz 6
  have g7z := HFD.out.fz 7
  have g8z := HFD.out.fz 8
  have g9z := HFD.out.fz 9
  have g10z := HFD.out.fz 10
  have g11z := HFD.out.fz 11
  have g12z := HFD.out.fz 12
  clear hB2 HB1
  go_wp2_with fail
  refine bodyPost_ret (v := .tuple #[.agg #[.int .i64 at', .int .i64 pl, .int .i64 s, .slice none 0 0, .int .i64 (n11 : Nat), .int .i64 did, .int .u32 hd, .int .u32 tl, .int .i64 ln, .string tx, .slice none 0 0, .slice A11 n11 c11, .bool true], .slice U n cp]) (by simp [results, Tryd.results18, go_sem, same_some, z0, z1, z2, z3, z4, z5, z6, z7, z8, z9, z10, z11, z12]) rfl ⟨U, cp, by simp [DS.V], ?_, ?_, .inl rfl⟩
  · exact HU.out.keep (tail_be (bset HB2.out (Nat.le_refl _)) (by omega) _ _ _ _ _ _ _ _ _ _ _ _ _)
  · exact tail_be (bset HB2.out (Nat.le_refl _)) (by omega) _ _ _ _ _ _ _ _ _ _ _ _ _
end Go.Proofs.YtnmobalgghggnaaDoor
/-
  The document's Step of a receiver: a first load without its word.
-/
namespace Go.Proofs.YtnmobalgghggnaaDoor
open Go.RowKit

set_option maxHeartbeats 8000000 in
set_option maxRecDepth 100000 in
theorem st_rm0 (at' ti hd tl : Int) (pl s n l n11 c11 cp : Nat) (A11 U : Option Addr) (tx : ByteArray) (ov : Bool) (f : Nat → Int) (w : World) (ha : -1000 ≤ at' ∧ at' ≤ 1000) (hc : capP (pl : Int) = true) (hz : 1 ≤ s ∧ s ≤ 32) (hhd : 0 ≤ hd ∧ hd < 4294967296) (_ : 0 ≤ tl ∧ tl < 4294967296)
    (hl : l ≤ 32) (hk : (n11 : Int) < ti) (hU : Ws w U n f) (hf : ∀ i, i < n → 0 ≤ f i ∧ f i < 4294967296) (_ : 0 < n) (_ : n ≤ 4096) (wv : Int) (hwh : at' + 1 = wv) (hno : ¬ (0 ≤ wv ∧ wv < n)) :
    Calls Tryd.prog 18 #[DS.V ⟨at', pl, s, .slice none 0 0, ti, 0, hd, tl, (l : Nat), tx, .slice none 0 0, .slice A11 n11 c11, ov⟩, .bool false, .slice U n cp] w fun e w' => DGoL U ⟨at', pl, s, .slice none 0 0, ti, 0, hd, tl, (l : Nat), tx, .slice none 0 0, .slice A11 n11 c11, true⟩ n f w e w' := by
  have HFD0 := Lib.hid (fd_new w ⟨at', pl, s, .slice none 0 0, ti, 0, hd, tl, (l : Nat), tx, .slice none 0 0, .slice A11 n11 c11, ov⟩)
  have hov : ((n11 : Int) == ti) = false := by rw [beq_eq_false_iff_ne]; omega
  have HOV := Lib.hid (fun did hd tl ln tx ov W => over_r at' pl s ti did hd tl ln A11 n11 c11 tx (.slice none 0 0) (.slice none 0 0) ov W)
  rw [hov] at HOV
  have HP1 := Lib.hid (fun W => refplace_any at' s ti (0) hd tl (l : Nat) hd pl s tx (.slice none 0 0) (.slice none 0 0) (.slice A11 n11 c11) ov W ha hc hz rfl hhd)
  have HU := Lib.hid hU
  have HND := Lib.hid (fun W => needs_any _ l W rfl (by omega))
  obtain ⟨q, hq⟩ : ∃ q, q = need l := ⟨_, rfl⟩
  rw [← hq] at HND
  have hq8 : q ≤ 8 := by rw [hq]; exact need_le hl
  have hw3 : IntKind.i64.wrap (3 + (q : Int)) = 3 + q := IntWalk.i64_in _ (by omega)
  obtain ⟨y1, hy1⟩ : ∃ y, y = base at' pl s hd := ⟨_, rfl⟩
  have hr1 := base_rng2 (i := hd) ha hc hz
  rw [← hy1] at HP1 hr1
  have wy1 : IntKind.i64.wrap y1 = y1 := IntWalk.i64_in _ (by omega)
  have wz1 : IntKind.i64.wrap (y1 - 2) = y1 - 2 := IntWalk.i64_in _ (by omega)
  have hlast : ((0 : Int) == 3 + (q : Int)) = false := by rw [beq_eq_false_iff_ne]; omega
  have wa : IntKind.i64.wrap (at' + 1) = wv := by rw [hwh]; exact IntWalk.i64_in _ (by omega)

  simp only [DS.V, sideC] at HOV HP1 ⊢
  have HF32 := Lib.hid hf
  clear hU hov hc hz hf
  clear hq hy1
  go_enter Tryd.func18, Tryd.ntmps18
  go_wp2_with fail
  obtain ⟨w1, hw1⟩ : ∃ w1, w1 = (w.alloc (.cells #[.int .i64 at', .int .i64 pl, .int .i64 s, .slice none 0 0, .int .i64 ti, .int .i64 (0), .int .u32 hd, .int .u32 tl, .int .i64 (l : Nat), .string tx, .slice none 0 0, .slice A11 n11 c11, .bool ov] 50)).alloc (.cells #[.int .i64 0, .int .i64 0, .int .i64 0, .slice none 0 0, .int .i64 0, .int .i64 0, .int .u32 0, .int .u32 0, .int .i64 0, .string ⟨#[]⟩, .slice none 0 0, .slice none 0 0, .bool false] 50) := ⟨_, rfl⟩
  have HFD := Lib.hid (show FD w1 w.heap.size ⟨at', pl, s, .slice none 0 0, ti, 0, hd, tl, (l : Nat), tx, .slice none 0 0, .slice A11 n11 c11, ov⟩ from by rw [hw1]; exact HFD0.out)
  have HB1 := Lib.hid (show Below w.heap.size w w1 from by rw [hw1]; exact ((Below.refl _ _).alloc (Nat.le_refl _) _).alloc (by simp) _)
  rw [← hw1]
  clear hw1 HFD0
  with_reducible refine (HOV.out _ _ _ _ _ _ _).mono ?_
  rintro e w2 ⟨rfl, hB2⟩
  have HFD := Lib.hid (HFD.out.keep hB2)
  have HB2 := Lib.hid (HB1.out.trans (hB2.mono HB1.out.size))
  obtain ⟨k0, k1, k2, k3, k4, k5, k6, k7, k8, k9, k10, k11, k12⟩ := HFD.out.b.all
  clear hB2 HB1
  dsimp only at k0 k1 k2 k3 k4 k5 k6 k7 k8 k9 k10 k11 k12
  go_wp2_with fail
  go_quiet ((go_at_call 39; exact Calls.quiet_of_same ((HND.out _).mono fun _ _ ⟨h1, h2⟩ => ⟨h1, h2.symm⟩)))
  go_wp2_with fail
  obtain ⟨w3, hw3'⟩ : ∃ w3, w3 = w2.drewN nq := ⟨_, rfl⟩
  have HFD3 := Lib.hid (show FD w3 w.heap.size _ from by rw [hw3']; exact HFD.out.keep (Qt.below ⟨nq, rfl⟩))
  have HB3 := Lib.hid (show Below w.heap.size w w3 from by rw [hw3']; exact HB2.out.trans (Qt.below ⟨nq, rfl⟩))
  rw [← hw3']
  clear hw3' k0 k1 k2 k3 k4 k5 k6 k7 k8 k9 k10 k11 k12 HFD HB2
  have HNX := Lib.hid (fun W W' (h2 : Below W.heap.size W W') (h : Below w3.heap.size w3 W) => And.intro (HFD3.out.keep (h.trans (h2.mono h.size))) (HB3.out.trans ((h.trans (h2.mono h.size)).mono HB3.out.size)))
  obtain ⟨k0, k1, k2, k3, k4, k5, k6, k7, k8, k9, k10, k11, k12⟩ := HFD3.out.b.all
  dsimp only at k0 k1 k2 k3 k4 k5 k6 k7 k8 k9 k10 k11 k12
  go_region_held3 (fun w' => w'.cell? ⟨w.heap.size, 0, none⟩ = some (.int .i64 at') ∧ w'.cell? ⟨w.heap.size, 1, none⟩ = some (.int .i64 pl) ∧ w'.cell? ⟨w.heap.size, 2, none⟩ = some (.int .i64 s) ∧ w'.cell? ⟨w.heap.size, 3, none⟩ = some (.slice none 0 0) ∧ w'.cell? ⟨w.heap.size, 4, none⟩ = some (.int .i64 ti) ∧ w'.cell? ⟨w.heap.size, 5, none⟩ = some (.int .i64 0) ∧ w'.cell? ⟨w.heap.size, 6, none⟩ = some (.int .u32 hd) ∧ w'.cell? ⟨w.heap.size, 7, none⟩ = some (.int .u32 tl) ∧ w'.cell? ⟨w.heap.size, 8, none⟩ = some (.int .i64 (l : Nat)) ∧ w'.cell? ⟨w.heap.size, 9, none⟩ = some (.string tx) ∧ w'.cell? ⟨w.heap.size, 10, none⟩ = some (.slice none 0 0) ∧ w'.cell? ⟨w.heap.size, 11, none⟩ = some (.slice A11 n11 c11) ∧ w'.cell? ⟨w.heap.size, 12, none⟩ = some (.bool ov))
    (go_keep)
    (first
      | (go_at_call 40
         refine (HP1.out _).mono ?_
         rintro e w5 ⟨rfl, hB4⟩
         have hnx := HNX.out _ _ hB4 (by repeat (first | exact Below.refl _ _ | refine Below.drew ?_))
         have HFD5 := Lib.hid hnx.1
         have HB5 := Lib.hid hnx.2
         obtain ⟨p0, p1, p2, p3, p4, p5, p6, p7, p8, p9, p10, p11, p12⟩ := hnx.1.b.all
         dsimp only at p0 p1 p2 p3 p4 p5 p6 p7 p8 p9 p10 p11 p12
         clear hB4 hnx))
  clear k0 k1 k2 k3 k4 k5 k6 k7 k8 k9 k10 k11 k12 HNX
  obtain ⟨z0, z1, z2, z3, z4, z5, z6, z7, z8, z9, z10, z11, z12⟩ := HFD5.out.z.all
  dsimp only [dZ] at z0 z1 z2 z3 z4 z5 z6 z7 z8 z9 z10 z11 z12
  have f12 := HFD5.out.fb 12
  have g0z := HFD5.out.fz 0
  have g1z := HFD5.out.fz 1
  have g2z := HFD5.out.fz 2
  have g3z := HFD5.out.fz 3
  have g4z := HFD5.out.fz 4
  have g5z := HFD5.out.fz 5
  have g6z := HFD5.out.fz 6
  have g7z := HFD5.out.fz 7
  have g8z := HFD5.out.fz 8
  have g9z := HFD5.out.fz 9
  have g10z := HFD5.out.fz 10
  have g11z := HFD5.out.fz 11
  have g12z := HFD5.out.fz 12
  by_cases hneg : wv < 0
  all_goals
    first | (have hge : (n : Int) ≤ wv := by omega) | skip
    go_wp2_with fail
    refine bodyPost_ret (v := .tuple #[.agg #[.int .i64 at', .int .i64 pl, .int .i64 s, .slice none 0 0, .int .i64 ti, .int .i64 0, .int .u32 hd, .int .u32 tl, .int .i64 (l : Nat), .string tx, .slice none 0 0, .slice A11 n11 c11, .bool true], .slice U n cp]) (by simp [results, Tryd.results18, go_sem, same_some, z0, z1, z2, z3, z4, z5, z6, z7, z8, z9, z10, z11, z12]) rfl ⟨U, cp, by simp [DS.V], ?_, ?_, .inl rfl⟩
    · exact HU.out.keep (tail_be (bset HB5.out (Nat.le_refl _)) (by omega) _ _ _ _ _ _ _ _ _ _ _ _ _)
    · exact tail_be (bset HB5.out (Nat.le_refl _)) (by omega) _ _ _ _ _ _ _ _ _ _ _ _ _
end Go.Proofs.YtnmobalgghggnaaDoor
/-
  The document's Step of a receiver: a second load without its word.
-/
namespace Go.Proofs.YtnmobalgghggnaaDoor
open Go.RowKit

set_option maxHeartbeats 8000000 in
set_option maxRecDepth 100000 in
theorem st_rm1 (at' ti hd tl : Int) (pl s n l n11 c11 cp : Nat) (A11 U : Option Addr) (tx : ByteArray) (ov : Bool) (f : Nat → Int) (w : World) (ha : -1000 ≤ at' ∧ at' ≤ 1000) (hc : capP (pl : Int) = true) (hz : 1 ≤ s ∧ s ≤ 32) (hhd : 0 ≤ hd ∧ hd < 4294967296) (_ : 0 ≤ tl ∧ tl < 4294967296)
    (hl : l ≤ 32) (hk : (n11 : Int) < ti) (hU : Ws w U n f) (hf : ∀ i, i < n → 0 ≤ f i ∧ f i < 4294967296) (_ : 0 < n) (_ : n ≤ 4096) (hno : ¬ (0 ≤ at' ∧ at' < n)) :
    Calls Tryd.prog 18 #[DS.V ⟨at', pl, s, .slice none 0 0, ti, 1, hd, tl, (l : Nat), tx, .slice none 0 0, .slice A11 n11 c11, ov⟩, .bool false, .slice U n cp] w fun e w' => DGoL U ⟨at', pl, s, .slice none 0 0, ti, 1, hd, tl, (l : Nat), tx, .slice none 0 0, .slice A11 n11 c11, true⟩ n f w e w' := by
  have HFD0 := Lib.hid (fd_new w ⟨at', pl, s, .slice none 0 0, ti, 1, hd, tl, (l : Nat), tx, .slice none 0 0, .slice A11 n11 c11, ov⟩)
  have hov : ((n11 : Int) == ti) = false := by rw [beq_eq_false_iff_ne]; omega
  have HOV := Lib.hid (fun did hd tl ln tx ov W => over_r at' pl s ti did hd tl ln A11 n11 c11 tx (.slice none 0 0) (.slice none 0 0) ov W)
  rw [hov] at HOV
  have HP1 := Lib.hid (fun W => refplace_any at' s ti (1) hd tl (l : Nat) hd pl s tx (.slice none 0 0) (.slice none 0 0) (.slice A11 n11 c11) ov W ha hc hz rfl hhd)
  have HU := Lib.hid hU
  have HND := Lib.hid (fun W => needs_any _ l W rfl (by omega))
  obtain ⟨q, hq⟩ : ∃ q, q = need l := ⟨_, rfl⟩
  rw [← hq] at HND
  have hq8 : q ≤ 8 := by rw [hq]; exact need_le hl
  have hw3 : IntKind.i64.wrap (3 + (q : Int)) = 3 + q := IntWalk.i64_in _ (by omega)
  obtain ⟨y1, hy1⟩ : ∃ y, y = base at' pl s hd := ⟨_, rfl⟩
  have hr1 := base_rng2 (i := hd) ha hc hz
  rw [← hy1] at HP1 hr1
  have wy1 : IntKind.i64.wrap y1 = y1 := IntWalk.i64_in _ (by omega)
  have wz1 : IntKind.i64.wrap (y1 - 2) = y1 - 2 := IntWalk.i64_in _ (by omega)
  have hlast : ((1 : Int) == 3 + (q : Int)) = false := by rw [beq_eq_false_iff_ne]; omega
  have wy3 : IntKind.i64.wrap (y1 + 1) = y1 + 1 := IntWalk.i64_in _ (by omega)
  have wz3 : IntKind.i64.wrap (y1 + 1 - 2) = y1 + 1 - 2 := IntWalk.i64_in _ (by omega)

  simp only [DS.V, sideC] at HOV HP1 ⊢
  have HF32 := Lib.hid hf
  clear hU hov hc hz hf
  clear hq hy1
  go_enter Tryd.func18, Tryd.ntmps18
  go_wp2_with fail
  obtain ⟨w1, hw1⟩ : ∃ w1, w1 = (w.alloc (.cells #[.int .i64 at', .int .i64 pl, .int .i64 s, .slice none 0 0, .int .i64 ti, .int .i64 (1), .int .u32 hd, .int .u32 tl, .int .i64 (l : Nat), .string tx, .slice none 0 0, .slice A11 n11 c11, .bool ov] 50)).alloc (.cells #[.int .i64 0, .int .i64 0, .int .i64 0, .slice none 0 0, .int .i64 0, .int .i64 0, .int .u32 0, .int .u32 0, .int .i64 0, .string ⟨#[]⟩, .slice none 0 0, .slice none 0 0, .bool false] 50) := ⟨_, rfl⟩
  have HFD := Lib.hid (show FD w1 w.heap.size ⟨at', pl, s, .slice none 0 0, ti, 1, hd, tl, (l : Nat), tx, .slice none 0 0, .slice A11 n11 c11, ov⟩ from by rw [hw1]; exact HFD0.out)
  have HB1 := Lib.hid (show Below w.heap.size w w1 from by rw [hw1]; exact ((Below.refl _ _).alloc (Nat.le_refl _) _).alloc (by simp) _)
  rw [← hw1]
  clear hw1 HFD0
  with_reducible refine (HOV.out _ _ _ _ _ _ _).mono ?_
  rintro e w2 ⟨rfl, hB2⟩
  have HFD := Lib.hid (HFD.out.keep hB2)
  have HB2 := Lib.hid (HB1.out.trans (hB2.mono HB1.out.size))
  obtain ⟨k0, k1, k2, k3, k4, k5, k6, k7, k8, k9, k10, k11, k12⟩ := HFD.out.b.all
  clear hB2 HB1
  dsimp only at k0 k1 k2 k3 k4 k5 k6 k7 k8 k9 k10 k11 k12
  go_wp2_with fail
  go_quiet ((go_at_call 39; exact Calls.quiet_of_same ((HND.out _).mono fun _ _ ⟨h1, h2⟩ => ⟨h1, h2.symm⟩)))
  go_wp2_with fail
  obtain ⟨w3, hw3'⟩ : ∃ w3, w3 = w2.drewN nq := ⟨_, rfl⟩
  have HFD3 := Lib.hid (show FD w3 w.heap.size _ from by rw [hw3']; exact HFD.out.keep (Qt.below ⟨nq, rfl⟩))
  have HB3 := Lib.hid (show Below w.heap.size w w3 from by rw [hw3']; exact HB2.out.trans (Qt.below ⟨nq, rfl⟩))
  rw [← hw3']
  clear hw3' k0 k1 k2 k3 k4 k5 k6 k7 k8 k9 k10 k11 k12 HFD HB2
  have HNX := Lib.hid (fun W W' (h2 : Below W.heap.size W W') (h : Below w3.heap.size w3 W) => And.intro (HFD3.out.keep (h.trans (h2.mono h.size))) (HB3.out.trans ((h.trans (h2.mono h.size)).mono HB3.out.size)))
  obtain ⟨k0, k1, k2, k3, k4, k5, k6, k7, k8, k9, k10, k11, k12⟩ := HFD3.out.b.all
  dsimp only at k0 k1 k2 k3 k4 k5 k6 k7 k8 k9 k10 k11 k12
  go_region_held3 (fun w' => w'.cell? ⟨w.heap.size, 0, none⟩ = some (.int .i64 at') ∧ w'.cell? ⟨w.heap.size, 1, none⟩ = some (.int .i64 pl) ∧ w'.cell? ⟨w.heap.size, 2, none⟩ = some (.int .i64 s) ∧ w'.cell? ⟨w.heap.size, 3, none⟩ = some (.slice none 0 0) ∧ w'.cell? ⟨w.heap.size, 4, none⟩ = some (.int .i64 ti) ∧ w'.cell? ⟨w.heap.size, 5, none⟩ = some (.int .i64 1) ∧ w'.cell? ⟨w.heap.size, 6, none⟩ = some (.int .u32 hd) ∧ w'.cell? ⟨w.heap.size, 7, none⟩ = some (.int .u32 tl) ∧ w'.cell? ⟨w.heap.size, 8, none⟩ = some (.int .i64 (l : Nat)) ∧ w'.cell? ⟨w.heap.size, 9, none⟩ = some (.string tx) ∧ w'.cell? ⟨w.heap.size, 10, none⟩ = some (.slice none 0 0) ∧ w'.cell? ⟨w.heap.size, 11, none⟩ = some (.slice A11 n11 c11) ∧ w'.cell? ⟨w.heap.size, 12, none⟩ = some (.bool ov))
    (go_keep)
    (first
      | (go_at_call 40
         refine (HP1.out _).mono ?_
         rintro e w5 ⟨rfl, hB4⟩
         have hnx := HNX.out _ _ hB4 (by repeat (first | exact Below.refl _ _ | refine Below.drew ?_))
         have HFD5 := Lib.hid hnx.1
         have HB5 := Lib.hid hnx.2
         obtain ⟨p0, p1, p2, p3, p4, p5, p6, p7, p8, p9, p10, p11, p12⟩ := hnx.1.b.all
         dsimp only at p0 p1 p2 p3 p4 p5 p6 p7 p8 p9 p10 p11 p12
         clear hB4 hnx))
  clear k0 k1 k2 k3 k4 k5 k6 k7 k8 k9 k10 k11 k12 HNX
  obtain ⟨z0, z1, z2, z3, z4, z5, z6, z7, z8, z9, z10, z11, z12⟩ := HFD5.out.z.all
  dsimp only [dZ] at z0 z1 z2 z3 z4 z5 z6 z7 z8 z9 z10 z11 z12
  have f12 := HFD5.out.fb 12
  have g0z := HFD5.out.fz 0
  have g1z := HFD5.out.fz 1
  have g2z := HFD5.out.fz 2
  have g3z := HFD5.out.fz 3
  have g4z := HFD5.out.fz 4
  have g5z := HFD5.out.fz 5
  have g6z := HFD5.out.fz 6
  have g7z := HFD5.out.fz 7
  have g8z := HFD5.out.fz 8
  have g9z := HFD5.out.fz 9
  have g10z := HFD5.out.fz 10
  have g11z := HFD5.out.fz 11
  have g12z := HFD5.out.fz 12
  by_cases hneg : at' < 0
  all_goals
    first | (have hge : (n : Int) ≤ at' := by omega) | skip
    go_wp2_with fail
    refine bodyPost_ret (v := .tuple #[.agg #[.int .i64 at', .int .i64 pl, .int .i64 s, .slice none 0 0, .int .i64 ti, .int .i64 1, .int .u32 hd, .int .u32 tl, .int .i64 (l : Nat), .string tx, .slice none 0 0, .slice A11 n11 c11, .bool true], .slice U n cp]) (by simp [results, Tryd.results18, go_sem, same_some, z0, z1, z2, z3, z4, z5, z6, z7, z8, z9, z10, z11, z12]) rfl ⟨U, cp, by simp [DS.V], ?_, ?_, .inl rfl⟩
    · exact HU.out.keep (tail_be (bset HB5.out (Nat.le_refl _)) (by omega) _ _ _ _ _ _ _ _ _ _ _ _ _)
    · exact tail_be (bset HB5.out (Nat.le_refl _)) (by omega) _ _ _ _ _ _ _ _ _ _ _ _ _
end Go.Proofs.YtnmobalgghggnaaDoor
/-
  The document's Step of a receiver: a length without its word.
-/
namespace Go.Proofs.YtnmobalgghggnaaDoor
open Go.RowKit

set_option maxHeartbeats 8000000 in
set_option maxRecDepth 100000 in
theorem st_rm2 (at' ti hd tl : Int) (pl s n l n11 c11 cp : Nat) (A11 U : Option Addr) (tx : ByteArray) (ov : Bool) (f : Nat → Int) (w : World) (ha : -1000 ≤ at' ∧ at' ≤ 1000) (hc : capP (pl : Int) = true) (hz : 1 ≤ s ∧ s ≤ 32) (hhd : 0 ≤ hd ∧ hd < 4294967296) (_ : 0 ≤ tl ∧ tl < 4294967296)
    (hl : l ≤ 32) (hk : (n11 : Int) < ti) (hU : Ws w U n f) (hf : ∀ i, i < n → 0 ≤ f i ∧ f i < 4294967296) (_ : 0 < n) (_ : n ≤ 4096) (hno : ¬ (0 ≤ base at' pl s hd ∧ base at' pl s hd < n)) :
    Calls Tryd.prog 18 #[DS.V ⟨at', pl, s, .slice none 0 0, ti, 2, hd, tl, (l : Nat), tx, .slice none 0 0, .slice A11 n11 c11, ov⟩, .bool false, .slice U n cp] w fun e w' => DGoL U ⟨at', pl, s, .slice none 0 0, ti, 2, hd, tl, (l : Nat), tx, .slice none 0 0, .slice A11 n11 c11, true⟩ n f w e w' := by
  have HFD0 := Lib.hid (fd_new w ⟨at', pl, s, .slice none 0 0, ti, 2, hd, tl, (l : Nat), tx, .slice none 0 0, .slice A11 n11 c11, ov⟩)
  have hov : ((n11 : Int) == ti) = false := by rw [beq_eq_false_iff_ne]; omega
  have HOV := Lib.hid (fun did hd tl ln tx ov W => over_r at' pl s ti did hd tl ln A11 n11 c11 tx (.slice none 0 0) (.slice none 0 0) ov W)
  rw [hov] at HOV
  have HP1 := Lib.hid (fun W => refplace_any at' s ti (2) hd tl (l : Nat) hd pl s tx (.slice none 0 0) (.slice none 0 0) (.slice A11 n11 c11) ov W ha hc hz rfl hhd)
  have HU := Lib.hid hU
  have HND := Lib.hid (fun W => needs_any _ l W rfl (by omega))
  obtain ⟨q, hq⟩ : ∃ q, q = need l := ⟨_, rfl⟩
  rw [← hq] at HND
  have hq8 : q ≤ 8 := by rw [hq]; exact need_le hl
  have hw3 : IntKind.i64.wrap (3 + (q : Int)) = 3 + q := IntWalk.i64_in _ (by omega)
  obtain ⟨y1, hy1⟩ : ∃ y, y = base at' pl s hd := ⟨_, rfl⟩
  have hr1 := base_rng2 (i := hd) ha hc hz
  rw [← hy1] at HP1 hr1
  have wy1 : IntKind.i64.wrap y1 = y1 := IntWalk.i64_in _ (by omega)
  have wz1 : IntKind.i64.wrap (y1 - 2) = y1 - 2 := IntWalk.i64_in _ (by omega)
  have hlast : ((2 : Int) == 3 + (q : Int)) = false := by rw [beq_eq_false_iff_ne]; omega
  rw [← hy1] at hno
  have wy3 : IntKind.i64.wrap (y1 + 2) = y1 + 2 := IntWalk.i64_in _ (by omega)
  have wz3 : IntKind.i64.wrap (y1 + 2 - 2) = y1 := by rw [IntWalk.i64_in _ (by omega)]; omega

  simp only [DS.V, sideC] at HOV HP1 ⊢
  have HF32 := Lib.hid hf
  clear hU hov hc hz hf
  clear hq hy1
  go_enter Tryd.func18, Tryd.ntmps18
  go_wp2_with fail
  obtain ⟨w1, hw1⟩ : ∃ w1, w1 = (w.alloc (.cells #[.int .i64 at', .int .i64 pl, .int .i64 s, .slice none 0 0, .int .i64 ti, .int .i64 (2), .int .u32 hd, .int .u32 tl, .int .i64 (l : Nat), .string tx, .slice none 0 0, .slice A11 n11 c11, .bool ov] 50)).alloc (.cells #[.int .i64 0, .int .i64 0, .int .i64 0, .slice none 0 0, .int .i64 0, .int .i64 0, .int .u32 0, .int .u32 0, .int .i64 0, .string ⟨#[]⟩, .slice none 0 0, .slice none 0 0, .bool false] 50) := ⟨_, rfl⟩
  have HFD := Lib.hid (show FD w1 w.heap.size ⟨at', pl, s, .slice none 0 0, ti, 2, hd, tl, (l : Nat), tx, .slice none 0 0, .slice A11 n11 c11, ov⟩ from by rw [hw1]; exact HFD0.out)
  have HB1 := Lib.hid (show Below w.heap.size w w1 from by rw [hw1]; exact ((Below.refl _ _).alloc (Nat.le_refl _) _).alloc (by simp) _)
  rw [← hw1]
  clear hw1 HFD0
  with_reducible refine (HOV.out _ _ _ _ _ _ _).mono ?_
  rintro e w2 ⟨rfl, hB2⟩
  have HFD := Lib.hid (HFD.out.keep hB2)
  have HB2 := Lib.hid (HB1.out.trans (hB2.mono HB1.out.size))
  obtain ⟨k0, k1, k2, k3, k4, k5, k6, k7, k8, k9, k10, k11, k12⟩ := HFD.out.b.all
  clear hB2 HB1
  dsimp only at k0 k1 k2 k3 k4 k5 k6 k7 k8 k9 k10 k11 k12
  go_wp2_with fail
  go_quiet ((go_at_call 39; exact Calls.quiet_of_same ((HND.out _).mono fun _ _ ⟨h1, h2⟩ => ⟨h1, h2.symm⟩)))
  go_wp2_with fail
  obtain ⟨w3, hw3'⟩ : ∃ w3, w3 = w2.drewN nq := ⟨_, rfl⟩
  have HFD3 := Lib.hid (show FD w3 w.heap.size _ from by rw [hw3']; exact HFD.out.keep (Qt.below ⟨nq, rfl⟩))
  have HB3 := Lib.hid (show Below w.heap.size w w3 from by rw [hw3']; exact HB2.out.trans (Qt.below ⟨nq, rfl⟩))
  rw [← hw3']
  clear hw3' k0 k1 k2 k3 k4 k5 k6 k7 k8 k9 k10 k11 k12 HFD HB2
  have HNX := Lib.hid (fun W W' (h2 : Below W.heap.size W W') (h : Below w3.heap.size w3 W) => And.intro (HFD3.out.keep (h.trans (h2.mono h.size))) (HB3.out.trans ((h.trans (h2.mono h.size)).mono HB3.out.size)))
  obtain ⟨k0, k1, k2, k3, k4, k5, k6, k7, k8, k9, k10, k11, k12⟩ := HFD3.out.b.all
  dsimp only at k0 k1 k2 k3 k4 k5 k6 k7 k8 k9 k10 k11 k12
  go_region_held3 (fun w' => w'.cell? ⟨w.heap.size, 0, none⟩ = some (.int .i64 at') ∧ w'.cell? ⟨w.heap.size, 1, none⟩ = some (.int .i64 pl) ∧ w'.cell? ⟨w.heap.size, 2, none⟩ = some (.int .i64 s) ∧ w'.cell? ⟨w.heap.size, 3, none⟩ = some (.slice none 0 0) ∧ w'.cell? ⟨w.heap.size, 4, none⟩ = some (.int .i64 ti) ∧ w'.cell? ⟨w.heap.size, 5, none⟩ = some (.int .i64 2) ∧ w'.cell? ⟨w.heap.size, 6, none⟩ = some (.int .u32 hd) ∧ w'.cell? ⟨w.heap.size, 7, none⟩ = some (.int .u32 tl) ∧ w'.cell? ⟨w.heap.size, 8, none⟩ = some (.int .i64 (l : Nat)) ∧ w'.cell? ⟨w.heap.size, 9, none⟩ = some (.string tx) ∧ w'.cell? ⟨w.heap.size, 10, none⟩ = some (.slice none 0 0) ∧ w'.cell? ⟨w.heap.size, 11, none⟩ = some (.slice A11 n11 c11) ∧ w'.cell? ⟨w.heap.size, 12, none⟩ = some (.bool ov))
    (go_keep)
    (first
      | (go_at_call 40
         refine (HP1.out _).mono ?_
         rintro e w5 ⟨rfl, hB4⟩
         have hnx := HNX.out _ _ hB4 (by repeat (first | exact Below.refl _ _ | refine Below.drew ?_))
         have HFD5 := Lib.hid hnx.1
         have HB5 := Lib.hid hnx.2
         obtain ⟨p0, p1, p2, p3, p4, p5, p6, p7, p8, p9, p10, p11, p12⟩ := hnx.1.b.all
         dsimp only at p0 p1 p2 p3 p4 p5 p6 p7 p8 p9 p10 p11 p12
         clear hB4 hnx))
  clear k0 k1 k2 k3 k4 k5 k6 k7 k8 k9 k10 k11 k12 HNX
  obtain ⟨z0, z1, z2, z3, z4, z5, z6, z7, z8, z9, z10, z11, z12⟩ := HFD5.out.z.all
  dsimp only [dZ] at z0 z1 z2 z3 z4 z5 z6 z7 z8 z9 z10 z11 z12
  have f12 := HFD5.out.fb 12
  have g0z := HFD5.out.fz 0
  have g1z := HFD5.out.fz 1
  have g2z := HFD5.out.fz 2
  have g3z := HFD5.out.fz 3
  have g4z := HFD5.out.fz 4
  have g5z := HFD5.out.fz 5
  have g6z := HFD5.out.fz 6
  have g7z := HFD5.out.fz 7
  have g8z := HFD5.out.fz 8
  have g9z := HFD5.out.fz 9
  have g10z := HFD5.out.fz 10
  have g11z := HFD5.out.fz 11
  have g12z := HFD5.out.fz 12
  by_cases hneg : y1 < 0
  all_goals
    first | (have hge : (n : Int) ≤ y1 := by omega) | skip
    go_wp2_with fail
    refine bodyPost_ret (v := .tuple #[.agg #[.int .i64 at', .int .i64 pl, .int .i64 s, .slice none 0 0, .int .i64 ti, .int .i64 2, .int .u32 hd, .int .u32 tl, .int .i64 (l : Nat), .string tx, .slice none 0 0, .slice A11 n11 c11, .bool true], .slice U n cp]) (by simp [results, Tryd.results18, go_sem, same_some, z0, z1, z2, z3, z4, z5, z6, z7, z8, z9, z10, z11, z12]) rfl ⟨U, cp, by simp [DS.V], ?_, ?_, .inl rfl⟩
    · exact HU.out.keep (tail_be (bset HB5.out (Nat.le_refl _)) (by omega) _ _ _ _ _ _ _ _ _ _ _ _ _)
    · exact tail_be (bset HB5.out (Nat.le_refl _)) (by omega) _ _ _ _ _ _ _ _ _ _ _ _ _
end Go.Proofs.YtnmobalgghggnaaDoor
/-
  The document's Step of a receiver: a message's word without its place.
-/
namespace Go.Proofs.YtnmobalgghggnaaDoor
open Go.RowKit

set_option maxHeartbeats 8000000 in
set_option maxRecDepth 100000 in
theorem st_rm3 (at' ti hd tl : Int) (pl s n l n11 c11 cp : Nat) (A11 U : Option Addr) (tx : ByteArray) (ov : Bool) (f : Nat → Int) (w : World) (ha : -1000 ≤ at' ∧ at' ≤ 1000) (hc : capP (pl : Int) = true) (hz : 1 ≤ s ∧ s ≤ 32) (hhd : 0 ≤ hd ∧ hd < 4294967296) (_ : 0 ≤ tl ∧ tl < 4294967296)
    (hl : l ≤ 32) (hk : (n11 : Int) < ti) (hU : Ws w U n f) (hf : ∀ i, i < n → 0 ≤ f i ∧ f i < 4294967296) (_ : 0 < n) (_ : n ≤ 4096) (dd wv : Int) (pa : Nat) (hdd : dd = 3 + pa) (hpa : pa < need l) (hwh : base at' pl s hd + 1 + pa = wv) (hno : ¬ (0 ≤ wv ∧ wv < n)) :
    Calls Tryd.prog 18 #[DS.V ⟨at', pl, s, .slice none 0 0, ti, dd, hd, tl, (l : Nat), tx, .slice none 0 0, .slice A11 n11 c11, ov⟩, .bool false, .slice U n cp] w fun e w' => DGoL U ⟨at', pl, s, .slice none 0 0, ti, dd, hd, tl, (l : Nat), tx, .slice none 0 0, .slice A11 n11 c11, true⟩ n f w e w' := by
  have HFD0 := Lib.hid (fd_new w ⟨at', pl, s, .slice none 0 0, ti, dd, hd, tl, (l : Nat), tx, .slice none 0 0, .slice A11 n11 c11, ov⟩)
  have hov : ((n11 : Int) == ti) = false := by rw [beq_eq_false_iff_ne]; omega
  have HOV := Lib.hid (fun did hd tl ln tx ov W => over_r at' pl s ti did hd tl ln A11 n11 c11 tx (.slice none 0 0) (.slice none 0 0) ov W)
  rw [hov] at HOV
  have HP1 := Lib.hid (fun W => refplace_any at' s ti (dd) hd tl (l : Nat) hd pl s tx (.slice none 0 0) (.slice none 0 0) (.slice A11 n11 c11) ov W ha hc hz rfl hhd)
  have HU := Lib.hid hU
  have HND := Lib.hid (fun W => needs_any _ l W rfl (by omega))
  obtain ⟨q, hq⟩ : ∃ q, q = need l := ⟨_, rfl⟩
  rw [← hq] at HND
  have hq8 : q ≤ 8 := by rw [hq]; exact need_le hl
  have hw3 : IntKind.i64.wrap (3 + (q : Int)) = 3 + q := IntWalk.i64_in _ (by omega)
  obtain ⟨y1, hy1⟩ : ∃ y, y = base at' pl s hd := ⟨_, rfl⟩
  have hr1 := base_rng2 (i := hd) ha hc hz
  rw [← hy1] at HP1 hr1
  have wy1 : IntKind.i64.wrap y1 = y1 := IntWalk.i64_in _ (by omega)
  have wz1 : IntKind.i64.wrap (y1 - 2) = y1 - 2 := IntWalk.i64_in _ (by omega)
  have hpq : pa < q := by rw [hq]; exact hpa
  have hlast : (dd == 3 + (q : Int)) = false := by rw [beq_eq_false_iff_ne]; omega
  have hd0 : (dd == 0) = false := by rw [beq_eq_false_iff_ne]; omega
  have hd1 : (dd == 1) = false := by rw [beq_eq_false_iff_ne]; omega
  have hd2 : (dd == 2) = false := by rw [beq_eq_false_iff_ne]; omega
  have hd3 : ¬ dd < 2 := by omega
  have wd1 : IntKind.i64.wrap (dd + 1) = dd + 1 := IntWalk.i64_in _ (by omega)
  have wy3 : IntKind.i64.wrap (y1 + dd) = y1 + dd := IntWalk.i64_in _ (by omega)
  have wz4 : IntKind.i64.wrap (y1 + dd - 2) = wv := by rw [IntWalk.i64_in _ (by omega)]; omega
  clear hdd hpa hpq

  simp only [DS.V, sideC] at HOV HP1 ⊢
  have HF32 := Lib.hid hf
  clear hU hov hc hz hf
  clear hq hy1
  go_enter Tryd.func18, Tryd.ntmps18
  go_wp2_with fail
  obtain ⟨w1, hw1⟩ : ∃ w1, w1 = (w.alloc (.cells #[.int .i64 at', .int .i64 pl, .int .i64 s, .slice none 0 0, .int .i64 ti, .int .i64 (dd), .int .u32 hd, .int .u32 tl, .int .i64 (l : Nat), .string tx, .slice none 0 0, .slice A11 n11 c11, .bool ov] 50)).alloc (.cells #[.int .i64 0, .int .i64 0, .int .i64 0, .slice none 0 0, .int .i64 0, .int .i64 0, .int .u32 0, .int .u32 0, .int .i64 0, .string ⟨#[]⟩, .slice none 0 0, .slice none 0 0, .bool false] 50) := ⟨_, rfl⟩
  have HFD := Lib.hid (show FD w1 w.heap.size ⟨at', pl, s, .slice none 0 0, ti, dd, hd, tl, (l : Nat), tx, .slice none 0 0, .slice A11 n11 c11, ov⟩ from by rw [hw1]; exact HFD0.out)
  have HB1 := Lib.hid (show Below w.heap.size w w1 from by rw [hw1]; exact ((Below.refl _ _).alloc (Nat.le_refl _) _).alloc (by simp) _)
  rw [← hw1]
  clear hw1 HFD0
  with_reducible refine (HOV.out _ _ _ _ _ _ _).mono ?_
  rintro e w2 ⟨rfl, hB2⟩
  have HFD := Lib.hid (HFD.out.keep hB2)
  have HB2 := Lib.hid (HB1.out.trans (hB2.mono HB1.out.size))
  obtain ⟨k0, k1, k2, k3, k4, k5, k6, k7, k8, k9, k10, k11, k12⟩ := HFD.out.b.all
  clear hB2 HB1
  dsimp only at k0 k1 k2 k3 k4 k5 k6 k7 k8 k9 k10 k11 k12
  go_wp2_with fail
  go_quiet ((go_at_call 39; exact Calls.quiet_of_same ((HND.out _).mono fun _ _ ⟨h1, h2⟩ => ⟨h1, h2.symm⟩)))
  go_wp2_with fail
  obtain ⟨w3, hw3'⟩ : ∃ w3, w3 = w2.drewN nq := ⟨_, rfl⟩
  have HFD3 := Lib.hid (show FD w3 w.heap.size _ from by rw [hw3']; exact HFD.out.keep (Qt.below ⟨nq, rfl⟩))
  have HB3 := Lib.hid (show Below w.heap.size w w3 from by rw [hw3']; exact HB2.out.trans (Qt.below ⟨nq, rfl⟩))
  rw [← hw3']
  clear hw3' k0 k1 k2 k3 k4 k5 k6 k7 k8 k9 k10 k11 k12 HFD HB2
  have HNX := Lib.hid (fun W W' (h2 : Below W.heap.size W W') (h : Below w3.heap.size w3 W) => And.intro (HFD3.out.keep (h.trans (h2.mono h.size))) (HB3.out.trans ((h.trans (h2.mono h.size)).mono HB3.out.size)))
  obtain ⟨k0, k1, k2, k3, k4, k5, k6, k7, k8, k9, k10, k11, k12⟩ := HFD3.out.b.all
  dsimp only at k0 k1 k2 k3 k4 k5 k6 k7 k8 k9 k10 k11 k12
  go_region_held3 (fun w' => w'.cell? ⟨w.heap.size, 0, none⟩ = some (.int .i64 at') ∧ w'.cell? ⟨w.heap.size, 1, none⟩ = some (.int .i64 pl) ∧ w'.cell? ⟨w.heap.size, 2, none⟩ = some (.int .i64 s) ∧ w'.cell? ⟨w.heap.size, 3, none⟩ = some (.slice none 0 0) ∧ w'.cell? ⟨w.heap.size, 4, none⟩ = some (.int .i64 ti) ∧ w'.cell? ⟨w.heap.size, 5, none⟩ = some (.int .i64 dd) ∧ w'.cell? ⟨w.heap.size, 6, none⟩ = some (.int .u32 hd) ∧ w'.cell? ⟨w.heap.size, 7, none⟩ = some (.int .u32 tl) ∧ w'.cell? ⟨w.heap.size, 8, none⟩ = some (.int .i64 (l : Nat)) ∧ w'.cell? ⟨w.heap.size, 9, none⟩ = some (.string tx) ∧ w'.cell? ⟨w.heap.size, 10, none⟩ = some (.slice none 0 0) ∧ w'.cell? ⟨w.heap.size, 11, none⟩ = some (.slice A11 n11 c11) ∧ w'.cell? ⟨w.heap.size, 12, none⟩ = some (.bool ov))
    (go_keep)
    (first
      | (go_at_call 40
         refine (HP1.out _).mono ?_
         rintro e w5 ⟨rfl, hB4⟩
         have hnx := HNX.out _ _ hB4 (by repeat (first | exact Below.refl _ _ | refine Below.drew ?_))
         have HFD5 := Lib.hid hnx.1
         have HB5 := Lib.hid hnx.2
         obtain ⟨p0, p1, p2, p3, p4, p5, p6, p7, p8, p9, p10, p11, p12⟩ := hnx.1.b.all
         dsimp only at p0 p1 p2 p3 p4 p5 p6 p7 p8 p9 p10 p11 p12
         clear hB4 hnx))
  clear k0 k1 k2 k3 k4 k5 k6 k7 k8 k9 k10 k11 k12 HNX
  obtain ⟨z0, z1, z2, z3, z4, z5, z6, z7, z8, z9, z10, z11, z12⟩ := HFD5.out.z.all
  dsimp only [dZ] at z0 z1 z2 z3 z4 z5 z6 z7 z8 z9 z10 z11 z12
  have f12 := HFD5.out.fb 12
  have g0z := HFD5.out.fz 0
  have g1z := HFD5.out.fz 1
  have g2z := HFD5.out.fz 2
  have g3z := HFD5.out.fz 3
  have g4z := HFD5.out.fz 4
  have g5z := HFD5.out.fz 5
  have g6z := HFD5.out.fz 6
  have g7z := HFD5.out.fz 7
  have g8z := HFD5.out.fz 8
  have g9z := HFD5.out.fz 9
  have g10z := HFD5.out.fz 10
  have g11z := HFD5.out.fz 11
  have g12z := HFD5.out.fz 12
  by_cases hneg : wv < 0
  all_goals
    first | (have hge : (n : Int) ≤ wv := by omega) | skip
    go_wp2_with fail
    refine bodyPost_ret (v := .tuple #[.agg #[.int .i64 at', .int .i64 pl, .int .i64 s, .slice none 0 0, .int .i64 ti, .int .i64 dd, .int .u32 hd, .int .u32 tl, .int .i64 (l : Nat), .string tx, .slice none 0 0, .slice A11 n11 c11, .bool true], .slice U n cp]) (by simp [results, Tryd.results18, go_sem, same_some, z0, z1, z2, z3, z4, z5, z6, z7, z8, z9, z10, z11, z12]) rfl ⟨U, cp, by simp [DS.V], ?_, ?_, .inl rfl⟩
    · exact HU.out.keep (tail_be (bset HB5.out (Nat.le_refl _)) (by omega) _ _ _ _ _ _ _ _ _ _ _ _ _)
    · exact tail_be (bset HB5.out (Nat.le_refl _)) (by omega) _ _ _ _ _ _ _ _ _ _ _ _ _
end Go.Proofs.YtnmobalgghggnaaDoor
/-
  The document's Step of a receiver: the last step without its word.
-/
namespace Go.Proofs.YtnmobalgghggnaaDoor
open Go.RowKit

set_option maxHeartbeats 8000000 in
set_option maxRecDepth 100000 in
theorem st_rm4 (at' ti hd tl : Int) (pl s n l n11 c11 cp : Nat) (A11 U : Option Addr) (tx : ByteArray) (ov : Bool) (f : Nat → Int) (w : World) (ha : -1000 ≤ at' ∧ at' ≤ 1000) (hc : capP (pl : Int) = true) (hz : 1 ≤ s ∧ s ≤ 32) (hhd : 0 ≤ hd ∧ hd < 4294967296) (_ : 0 ≤ tl ∧ tl < 4294967296)
    (hl : l ≤ 32) (hk : (n11 : Int) < ti) (hU : Ws w U n f) (hf : ∀ i, i < n → 0 ≤ f i ∧ f i < 4294967296) (_ : 0 < n) (_ : n ≤ 4096) (dd : Int) (hdd : dd = 3 + (need l : Nat)) (hl1 : 1 ≤ l) (hno : ¬ (0 ≤ at' ∧ at' < n)) :
    Calls Tryd.prog 18 #[DS.V ⟨at', pl, s, .slice none 0 0, ti, dd, hd, tl, (l : Nat), tx, .slice none 0 0, .slice A11 n11 c11, ov⟩, .bool false, .slice U n cp] w fun e w' => DGoL U ⟨at', pl, s, .slice none 0 0, ti, dd, hd, tl, (l : Nat), tx, .slice none 0 0, .slice A11 n11 c11, true⟩ n f w e w' := by
  have HFD0 := Lib.hid (fd_new w ⟨at', pl, s, .slice none 0 0, ti, dd, hd, tl, (l : Nat), tx, .slice none 0 0, .slice A11 n11 c11, ov⟩)
  have hov : ((n11 : Int) == ti) = false := by rw [beq_eq_false_iff_ne]; omega
  have HOV := Lib.hid (fun did hd tl ln tx ov W => over_r at' pl s ti did hd tl ln A11 n11 c11 tx (.slice none 0 0) (.slice none 0 0) ov W)
  rw [hov] at HOV
  have HP1 := Lib.hid (fun W => refplace_any at' s ti (dd) hd tl (l : Nat) hd pl s tx (.slice none 0 0) (.slice none 0 0) (.slice A11 n11 c11) ov W ha hc hz rfl hhd)
  have HU := Lib.hid hU
  have HND := Lib.hid (fun W => needs_any _ l W rfl (by omega))
  obtain ⟨q, hq⟩ : ∃ q, q = need l := ⟨_, rfl⟩
  rw [← hq] at HND
  have hq8 : q ≤ 8 := by rw [hq]; exact need_le hl
  have hw3 : IntKind.i64.wrap (3 + (q : Int)) = 3 + q := IntWalk.i64_in _ (by omega)
  obtain ⟨y1, hy1⟩ : ∃ y, y = base at' pl s hd := ⟨_, rfl⟩
  have hr1 := base_rng2 (i := hd) ha hc hz
  rw [← hy1] at HP1 hr1
  have wy1 : IntKind.i64.wrap y1 = y1 := IntWalk.i64_in _ (by omega)
  have wz1 : IntKind.i64.wrap (y1 - 2) = y1 - 2 := IntWalk.i64_in _ (by omega)
  have hqd : dd = 3 + (q : Int) := by rw [hq]; exact hdd
  have hq1 : 1 ≤ q := by rw [hq]; exact need_pos hl1
  have hlast : (dd == 3 + (q : Int)) = true := by rw [beq_iff_eq]; exact hqd
  have hgt : 3 < dd := by omega
  have hd0 : (dd == 0) = false := by rw [beq_eq_false_iff_ne]; omega
  have hd1 : (dd == 1) = false := by rw [beq_eq_false_iff_ne]; omega
  have hd2 : (dd == 2) = false := by rw [beq_eq_false_iff_ne]; omega
  have hd3 : ¬ dd < 2 := by omega
  have wd1 : IntKind.i64.wrap (dd + 1) = dd + 1 := IntWalk.i64_in _ (by omega)
  have wy3 : IntKind.i64.wrap (y1 + dd) = y1 + dd := IntWalk.i64_in _ (by omega)
  have wz3 : IntKind.i64.wrap (y1 + dd - 2) = y1 + dd - 2 := IntWalk.i64_in _ (by omega)
  clear hdd hqd

  simp only [DS.V, sideC] at HOV HP1 ⊢
  have HF32 := Lib.hid hf
  clear hU hov hc hz hf
  clear hq hy1
  go_enter Tryd.func18, Tryd.ntmps18
  go_wp2_with fail
  obtain ⟨w1, hw1⟩ : ∃ w1, w1 = (w.alloc (.cells #[.int .i64 at', .int .i64 pl, .int .i64 s, .slice none 0 0, .int .i64 ti, .int .i64 (dd), .int .u32 hd, .int .u32 tl, .int .i64 (l : Nat), .string tx, .slice none 0 0, .slice A11 n11 c11, .bool ov] 50)).alloc (.cells #[.int .i64 0, .int .i64 0, .int .i64 0, .slice none 0 0, .int .i64 0, .int .i64 0, .int .u32 0, .int .u32 0, .int .i64 0, .string ⟨#[]⟩, .slice none 0 0, .slice none 0 0, .bool false] 50) := ⟨_, rfl⟩
  have HFD := Lib.hid (show FD w1 w.heap.size ⟨at', pl, s, .slice none 0 0, ti, dd, hd, tl, (l : Nat), tx, .slice none 0 0, .slice A11 n11 c11, ov⟩ from by rw [hw1]; exact HFD0.out)
  have HB1 := Lib.hid (show Below w.heap.size w w1 from by rw [hw1]; exact ((Below.refl _ _).alloc (Nat.le_refl _) _).alloc (by simp) _)
  rw [← hw1]
  clear hw1 HFD0
  with_reducible refine (HOV.out _ _ _ _ _ _ _).mono ?_
  rintro e w2 ⟨rfl, hB2⟩
  have HFD := Lib.hid (HFD.out.keep hB2)
  have HB2 := Lib.hid (HB1.out.trans (hB2.mono HB1.out.size))
  obtain ⟨k0, k1, k2, k3, k4, k5, k6, k7, k8, k9, k10, k11, k12⟩ := HFD.out.b.all
  clear hB2 HB1
  dsimp only at k0 k1 k2 k3 k4 k5 k6 k7 k8 k9 k10 k11 k12
  go_wp2_with fail
  go_quiet ((go_at_call 39; exact Calls.quiet_of_same ((HND.out _).mono fun _ _ ⟨h1, h2⟩ => ⟨h1, h2.symm⟩)))
  go_wp2_with fail
  obtain ⟨w3, hw3'⟩ : ∃ w3, w3 = w2.drewN nq := ⟨_, rfl⟩
  have HFD3 := Lib.hid (show FD w3 w.heap.size _ from by rw [hw3']; exact HFD.out.keep (Qt.below ⟨nq, rfl⟩))
  have HB3 := Lib.hid (show Below w.heap.size w w3 from by rw [hw3']; exact HB2.out.trans (Qt.below ⟨nq, rfl⟩))
  rw [← hw3']
  clear hw3' k0 k1 k2 k3 k4 k5 k6 k7 k8 k9 k10 k11 k12 HFD HB2
  have HNX := Lib.hid (fun W W' (h2 : Below W.heap.size W W') (h : Below w3.heap.size w3 W) => And.intro (HFD3.out.keep (h.trans (h2.mono h.size))) (HB3.out.trans ((h.trans (h2.mono h.size)).mono HB3.out.size)))
  obtain ⟨k0, k1, k2, k3, k4, k5, k6, k7, k8, k9, k10, k11, k12⟩ := HFD3.out.b.all
  dsimp only at k0 k1 k2 k3 k4 k5 k6 k7 k8 k9 k10 k11 k12
  go_region_held3 (fun w' => w'.cell? ⟨w.heap.size, 0, none⟩ = some (.int .i64 at') ∧ w'.cell? ⟨w.heap.size, 1, none⟩ = some (.int .i64 pl) ∧ w'.cell? ⟨w.heap.size, 2, none⟩ = some (.int .i64 s) ∧ w'.cell? ⟨w.heap.size, 3, none⟩ = some (.slice none 0 0) ∧ w'.cell? ⟨w.heap.size, 4, none⟩ = some (.int .i64 ti) ∧ w'.cell? ⟨w.heap.size, 5, none⟩ = some (.int .i64 dd) ∧ w'.cell? ⟨w.heap.size, 6, none⟩ = some (.int .u32 hd) ∧ w'.cell? ⟨w.heap.size, 7, none⟩ = some (.int .u32 tl) ∧ w'.cell? ⟨w.heap.size, 8, none⟩ = some (.int .i64 (l : Nat)) ∧ w'.cell? ⟨w.heap.size, 9, none⟩ = some (.string tx) ∧ w'.cell? ⟨w.heap.size, 10, none⟩ = some (.slice none 0 0) ∧ w'.cell? ⟨w.heap.size, 11, none⟩ = some (.slice A11 n11 c11) ∧ w'.cell? ⟨w.heap.size, 12, none⟩ = some (.bool ov))
    (go_keep)
    (first
      | (go_at_call 40
         refine (HP1.out _).mono ?_
         rintro e w5 ⟨rfl, hB4⟩
         have hnx := HNX.out _ _ hB4 (by repeat (first | exact Below.refl _ _ | refine Below.drew ?_))
         have HFD5 := Lib.hid hnx.1
         have HB5 := Lib.hid hnx.2
         obtain ⟨p0, p1, p2, p3, p4, p5, p6, p7, p8, p9, p10, p11, p12⟩ := hnx.1.b.all
         dsimp only at p0 p1 p2 p3 p4 p5 p6 p7 p8 p9 p10 p11 p12
         clear hB4 hnx))
  clear k0 k1 k2 k3 k4 k5 k6 k7 k8 k9 k10 k11 k12 HNX
  obtain ⟨z0, z1, z2, z3, z4, z5, z6, z7, z8, z9, z10, z11, z12⟩ := HFD5.out.z.all
  dsimp only [dZ] at z0 z1 z2 z3 z4 z5 z6 z7 z8 z9 z10 z11 z12
  have f12 := HFD5.out.fb 12
  have g0z := HFD5.out.fz 0
  have g1z := HFD5.out.fz 1
  have g2z := HFD5.out.fz 2
  have g3z := HFD5.out.fz 3
  have g4z := HFD5.out.fz 4
  have g5z := HFD5.out.fz 5
  have g6z := HFD5.out.fz 6
  have g7z := HFD5.out.fz 7
  have g8z := HFD5.out.fz 8
  have g9z := HFD5.out.fz 9
  have g10z := HFD5.out.fz 10
  have g11z := HFD5.out.fz 11
  have g12z := HFD5.out.fz 12
  by_cases hneg : at' < 0
  all_goals
    first | (have hge : (n : Int) ≤ at' := by omega) | skip
    go_wp2_with fail
    refine bodyPost_ret (v := .tuple #[.agg #[.int .i64 at', .int .i64 pl, .int .i64 s, .slice none 0 0, .int .i64 ti, .int .i64 dd, .int .u32 hd, .int .u32 tl, .int .i64 (l : Nat), .string tx, .slice none 0 0, .slice A11 n11 c11, .bool true], .slice U n cp]) (by simp [results, Tryd.results18, go_sem, same_some, z0, z1, z2, z3, z4, z5, z6, z7, z8, z9, z10, z11, z12]) rfl ⟨U, cp, by simp [DS.V], ?_, ?_, .inl rfl⟩
    · exact HU.out.keep (tail_be (bset HB5.out (Nat.le_refl _)) (by omega) _ _ _ _ _ _ _ _ _ _ _ _ _)
    · exact tail_be (bset HB5.out (Nat.le_refl _)) (by omega) _ _ _ _ _ _ _ _ _ _ _ _ _
end Go.Proofs.YtnmobalgghggnaaDoor
