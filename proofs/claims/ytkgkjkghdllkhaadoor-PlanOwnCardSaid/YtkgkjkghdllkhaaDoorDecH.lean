/-
  plan.Decode: the plan of bytes, or a failure.
-/
import Derived.Test.YtkgkjkghdllkhaaDoorDec
namespace Go.Proofs.YtkgkjkghdllkhaaDoor
open Go.RowKit

def zero28 : Array Value := #[.int .u16 0, .slice none 0 0, .slice none 0 0, .slice none 0 0, .slice none 0 0]
/-- What stands in Decode: the reader, its box, the place of the result. -/
structure DM (w W : World) (g b cap : Nat) (s : ByteArray) (σ : St) (h : Nat) : Prop where
  rd : RdS W g b cap s σ
  gl : w.heap.size + 1 ≤ g
  gh : g < h
  box : W.heap[h]? = some (.cells #[gp g] 81 (0, 0))
  res : W.heap[w.heap.size]? = some (.cells zero28 28 (0, 0))
  low : Below w.heap.size w W
theorem DM.grow {w W W' : World} {g b cap h : Nat} {s : ByteArray} {σ σ' : St} (m : DM w W g b cap s σ h) (hR : RdS W' g b cap s σ') (hO : W.grownBy W' (some g)) : DM w W' g b cap s σ' h := by
  have h1 := m.gl
  have h2 := m.gh
  exact ⟨hR, m.gl, m.gh, (hO.block _ (Array.getElem?_eq_some_iff.1 m.box).1 (by simp; omega)).trans m.box, (hO.block _ (Array.getElem?_eq_some_iff.1 m.res).1 (by simp; omega)).trans m.res,
    m.low.grown hO m.low.size (fun k hk => by injection hk with hk; omega)⟩
theorem DM.below {w W W' : World} {g b cap h : Nat} {s : ByteArray} {σ : St} (m : DM w W g b cap s σ h) (hB : Below W.heap.size W W') : DM w W' g b cap s σ h :=
  ⟨m.rd.below hB, m.gl, m.gh, (hB.block _ (Array.getElem?_eq_some_iff.1 m.box).1).trans m.box, (hB.block _ (Array.getElem?_eq_some_iff.1 m.res).1).trans m.res, m.low.trans (hB.mono m.low.size)⟩
theorem DM.start {w w1 : World} {g b cap : Nat} {s : ByteArray} (hR : Rd w1 g b cap s 0 false) (hg : (w.alloc (.cells zero28 28)).heap.size ≤ g) (hB : Below (w.alloc (.cells zero28 28)).heap.size (w.alloc (.cells zero28 28)) w1) :
    DM w (w1.alloc (.cells #[gp g] 81)) g b cap s (0, false) w1.heap.size := by
  have hg' : w.heap.size + 1 ≤ g := by simpa using hg
  refine ⟨RdS.alloc (σ := (0, false)) hR _, hg', Rd.glt hR, heap_alloc_new _ _, row_alloc ((hB.block _ (by simp)).trans (heap_alloc_new _ _)) _, ?_⟩
  have hs := hB.size
  simp at hs
  exact (((Below.refl _ w).alloc (Nat.le_refl _) _).trans (hB.mono (by simp))).alloc (by omega) _
def L0 : PlanL := ⟨none, 0, none, 0, none, 0, none, 0⟩
theorem dec_end {w w6 : World} {f : Nat} {x y u0 u1 u2 u3 u4 : Value} (low : Below w.heap.size w w6) (q0 : w6.cell? ⟨f, 0, none⟩ = some x) (q1 : w6.cell? ⟨f, 0 + 1, none⟩ = some y) (hf : f ≠ w.heap.size) :
    (((((w6.setCell ⟨w.heap.size, 0, none⟩ u0).setCell ⟨w.heap.size, 1, none⟩ u1).setCell ⟨w.heap.size, 2, none⟩ u2).setCell ⟨w.heap.size, 3, none⟩ u3).setCell ⟨w.heap.size, 4, none⟩ u4).cell? ⟨f, 0, none⟩ = some x ∧
    (((((w6.setCell ⟨w.heap.size, 0, none⟩ u0).setCell ⟨w.heap.size, 1, none⟩ u1).setCell ⟨w.heap.size, 2, none⟩ u2).setCell ⟨w.heap.size, 3, none⟩ u3).setCell ⟨w.heap.size, 4, none⟩ u4).cell? ⟨f, 0 + 1, none⟩ = some y ∧
    Below w.heap.size w (((((w6.setCell ⟨w.heap.size, 0, none⟩ u0).setCell ⟨w.heap.size, 1, none⟩ u1).setCell ⟨w.heap.size, 2, none⟩ u2).setCell ⟨w.heap.size, 3, none⟩ u3).setCell ⟨w.heap.size, 4, none⟩ u4) := by
  have hne : ∀ i j, (⟨w.heap.size, j, none⟩ : Addr) ≠ ⟨f, i, none⟩ := fun i j e => by injection e with e; exact hf e.symm
  refine ⟨?_, ?_, ((((low.setCell (Nat.le_refl _) _).setCell (Nat.le_refl _) _).setCell (Nat.le_refl _) _).setCell (Nat.le_refl _) _).setCell (Nat.le_refl _) _⟩
  · rw [World.cell?_setCell_other _ _ _ _ (hne 0 4), World.cell?_setCell_other _ _ _ _ (hne 0 3), World.cell?_setCell_other _ _ _ _ (hne 0 2), World.cell?_setCell_other _ _ _ _ (hne 0 1), World.cell?_setCell_other _ _ _ _ (hne 0 0)]
    exact q0
  · rw [World.cell?_setCell_other _ _ _ _ (hne _ 4), World.cell?_setCell_other _ _ _ _ (hne _ 3), World.cell?_setCell_other _ _ _ _ (hne _ 2), World.cell?_setCell_other _ _ _ _ (hne _ 1), World.cell?_setCell_other _ _ _ _ (hne _ 0)]
    exact q1
/-- Decode refuses. -/
def DecBad (s : ByteArray) (w : World) (e : Ending) (w' : World) : Prop :=
  ∃ f, e = .returned (.tuple #[planV emptyA L0, .iface 71 (.pointer (some ⟨f, 0, none⟩))]) ∧ w'.cell? ⟨f, 0, none⟩ = some (.int .i64 (decA s)) ∧ w'.cell? ⟨f, 0 + 1, none⟩ = some (.int .i64 (decE s)) ∧ Below w.heap.size w w'

set_option maxHeartbeats 4000000 in
set_option maxRecDepth 100000 in
theorem dec_short (A : Addr) (c : Nat) (s : ByteArray) (w : World) (hA : At w A s) (hn : s.size < 4) :
    Calls Tryd.prog 15 #[.slice (some A) s.size c] w fun e w' => DecBad s w e w' := by
  have HN := Lib.hid (new_any A c s (w.alloc (.cells zero28 28)) (hA.keep ((Below.refl _ _).alloc (Nat.le_refl _) _)) (by omega))
  have HE : Hid (decE s = 20 ∧ decA s = 0) := ⟨by unfold decE; rw [if_pos hn], by unfold decA; rw [if_pos hn]⟩
  have hl : lacks s 0 false 4 = true := lacks_yes (by omega) _
  have HL := Lib.hid hl
  have hni := fun x W => run_neq_iface_nil (P := Tryd.prog) W 33 (by kernel_rfl) 71 x
  clear hA hl hn
  go_enter Tryd.func15, Tryd.ntmps15
  go_wp2_with fail
  refine HN.out.mono ?_
  rintro e w1 ⟨g, b, cap, rfl, hR, hg, _, hB⟩
  have HM := Lib.hid (DM.start hR hg hB)
  clear hR hg hB HN
  go_wp2_with fail
  refine (text_any HM.out.rd 4).mono ?_
  rintro e w2 ⟨rfl, hR, hO⟩
  rw [show nextAt s (0, false).1 (0, false).2 4 = 0 by simp [nextAt, HL.out], show lacks s (0, false).1 (0, false).2 4 = true from HL.out] at hR
  rw [show readS s (0, false).1 (0, false).2 4 = ⟨#[]⟩ by simp [readS, HL.out]]
  have hM := HM.out.grow (σ' := (0, true)) hR hO
  clear HM hR hO
  have HM := Lib.hid hM
  have k0 := (box1 hM.box).2
  clear hM
  go_wp2_with fail
  refine (err_told HM.out.rd).mono ?_
  rintro e w3 ⟨f, rfl, q0, q1, hB⟩
  have hI := is37 71 (.pointer (some ⟨f, 0, none⟩)) 20 true w3 (is43_fail_yes f 0 20 w3 q1)
  have HI := Lib.hid hI
  have hM := HM.out.below hB
  clear HM q0 q1 hB hI k0
  have HM := Lib.hid hM
  have k0 := (box1 hM.box).2
  clear hM
  go_wp2_with fail
  refine HI.out.mono ?_
  rintro e w4 ⟨rfl, hB⟩
  have hM := HM.out.below hB
  clear HM hB k0
  have HM := Lib.hid hM
  have k0 := (box1 hM.box).2
  clear hM
  go_wp2_with fail
  refine (plan_any HM.out.rd).mono ?_
  rintro e w5 ⟨L, rfl, _, hR, hO⟩
  have hst := stay_plan s 0
  rw [hst] at hR
  have hM := HM.out.grow hR hO
  clear HM hR hO k0 hst
  have HM := Lib.hid hM
  have k0 := (box1 hM.box).2
  clear hM
  obtain ⟨r, hr⟩ : ∃ r, r = (dPlan s (0, true)).1 := ⟨_, rfl⟩
  rw [← hr]
  obtain ⟨fr, cs, ps, hs, rs⟩ := r
  obtain ⟨A1, c1, A2, c2, A3, c3, A4, c4⟩ := L
  simp only [planV]
  clear hr
  have hM := HM.out.below ((Below.refl _ w5).alloc (Nat.le_refl _) (.cells #[.int .u16 fr, .slice A1 cs.length c1, .slice A2 ps.length c2, .slice A3 hs.length c3, .slice A4 rs.length c4] 28))
  have km := (box1 hM.box).2
  clear HM k0
  have HM := Lib.hid hM
  clear hM
  go_wp2_with fail
  refine (end_told_bad HM.out.rd).mono ?_
  rintro e w6 ⟨f2, rfl, q0, q1, hB⟩
  have hM := HM.out.below hB
  obtain ⟨d0, d1, d2, d3, d4⟩ := box5 hM.res
  have fz := frozen_of hM.res
  have HQ0 := Lib.hid q0
  have HQ1 := Lib.hid q1
  have hf2 : f2 ≠ w.heap.size := fun e => by
    subst e
    rw [d0] at q0
    simp at q0
  have HF2 := Lib.hid hf2
  clear HM km q0 q1 hB hf2
  have HM := Lib.hid hM
  clear hM
  go_wp2_with fail
  refine bodyPost_ret (v := .tuple #[planV emptyA L0, .iface 71 (.pointer (some ⟨f2, 0, none⟩))]) (by simp [results, Tryd.results15, go_sem, planV, emptyA, L0, d0, d1, d2, d3, d4]) rfl ?_
  obtain ⟨z0, z1, z2⟩ := dec_end (u0 := .int .u16 0) (u1 := .slice none 0 0) (u2 := .slice none 0 0) (u3 := .slice none 0 0) (u4 := .slice none 0 0) HM.out.low HQ0.out HQ1.out HF2.out
  exact ⟨f2, rfl, by rw [HE.out.2]; exact z0, by rw [HE.out.1]; exact z1, z2⟩

/-- The first four bytes. -/
theorem magic_of {s : ByteArray} (h4 : 4 ≤ s.size) : (magicB s = true → s.extract 0 4 = ⟨#[80, 85, 82, 49]⟩) ∧ (magicB s = false → s.extract 0 4 ≠ ⟨#[80, 85, 82, 49]⟩) := by
  have hb : ∀ i, i < 4 → byteI s i = ((s.extract 0 4).data.toList.getD i 0).toNat := fun i hi => by
    unfold byteI
    rw [Lib.extract_data]
    simp only [List.getD_eq_getElem?_getD, List.drop_zero, Nat.sub_zero]
    rw [List.getElem?_take_of_lt hi]
  have hl : (s.extract 0 4).data.toList.length = 4 := by
    rw [Lib.extract_data]
    have : s.data.toList.length = s.size := by simp
    simp
    omega
  constructor
  · intro h
    unfold magicB at h
    obtain ⟨h0, h1, h2, h3⟩ := of_decide_eq_true h
    rw [hb 0 (by omega)] at h0
    rw [hb 1 (by omega)] at h1
    rw [hb 2 (by omega)] at h2
    rw [hb 3 (by omega)] at h3
    apply ByteArray.ext
    apply Array.toList_inj.1
    generalize (s.extract 0 4).data.toList = l at hl h0 h1 h2 h3
    match l, hl with
    | [a, b, c, d], _ =>
      simp at h0 h1 h2 h3
      have e0 : a = 80 := UInt8.toNat_inj.1 (show a.toNat = 80 by omega)
      have e1 : b = 85 := UInt8.toNat_inj.1 (show b.toNat = 85 by omega)
      have e2 : c = 82 := UInt8.toNat_inj.1 (show c.toNat = 82 by omega)
      have e3 : d = 49 := UInt8.toNat_inj.1 (show d.toNat = 49 by omega)
      rw [e0, e1, e2, e3]
  · intro h e
    unfold magicB at h
    refine of_decide_eq_false h ?_
    rw [hb 0 (by omega), hb 1 (by omega), hb 2 (by omega), hb 3 (by omega), e]
    exact ⟨rfl, rfl, rfl, rfl⟩

set_option maxHeartbeats 4000000 in
set_option maxRecDepth 100000 in
theorem dec_magic (A : Addr) (c : Nat) (s : ByteArray) (w : World) (hA : At w A s) (hn : 4 ≤ s.size) (hs : s.size ≤ 1000000) (hm : magicB s = false) :
    Calls Tryd.prog 15 #[.slice (some A) s.size c] w fun e w' => DecBad s w e w' := by
  have HN := Lib.hid (new_any A c s (w.alloc (.cells zero28 28)) (hA.keep ((Below.refl _ _).alloc (Nat.le_refl _) _)) (by omega))
  have HE : Hid (decE s = 30 ∧ decA s = 0) := ⟨by unfold decE; rw [if_neg (by omega), if_pos hm], by unfold decA; rw [if_neg (by omega), if_pos hm]⟩
  have hl : lacks s 0 false 4 = false := lacks_ok (by omega)
  have HL := Lib.hid hl
  obtain ⟨t, ht⟩ : ∃ t, t = s.extract 0 4 := ⟨_, rfl⟩
  have HT := Lib.hid ht
  have hne : (t.toList == [80, 85, 82, 49]) = false := by
    have := (magic_of hn).2 hm
    rw [← ht] at this
    rw [Bool.eq_false_iff]
    intro h
    apply this
    have h := eq_of_beq h
    apply ByteArray.ext
    apply Array.toList_inj.1
    rw [← ByteArray.toList_eq, h]
  have hni := fun x W => run_neq_iface_nil (P := Tryd.prog) W 33 (by kernel_rfl) 71 x
  clear hA hl hn ht hs hm
  go_enter Tryd.func15, Tryd.ntmps15
  go_wp2_with fail
  refine HN.out.mono ?_
  rintro e w1 ⟨g, b, cap, rfl, hR, hg, _, hB⟩
  have HM := Lib.hid (DM.start hR hg hB)
  clear hR hg hB HN
  go_wp2_with fail
  refine (text_any HM.out.rd 4).mono ?_
  rintro e w2 ⟨rfl, hR, hO⟩
  rw [show nextAt s (0, false).1 (0, false).2 4 = 4 by simp [nextAt, HL.out], show lacks s (0, false).1 (0, false).2 4 = false from HL.out] at hR
  rw [show readS s (0, false).1 (0, false).2 4 = t by simp [readS, HL.out, HT.out]]
  have hM := HM.out.grow (σ' := (4, false)) hR hO
  clear HM hR hO
  have HM := Lib.hid hM
  have k0 := (box1 hM.box).2
  clear hM
  go_wp2_with fail
  refine (err_ok HM.out.rd).mono ?_
  rintro e w3 ⟨rfl, rfl⟩
  go_wp2_with fail
  refine (is37_nil 20 w2).mono ?_
  rintro e w4 ⟨rfl, hB⟩
  have hM := HM.out.below hB
  clear HM hB k0
  have HM := Lib.hid hM
  clear hM
  go_wp2_with fail
  refine (failure2_told 0 30 w4).mono ?_
  rintro e w6 ⟨f2, rfl, q0, q1, hB⟩
  have hM := HM.out.below hB
  obtain ⟨d0, d1, d2, d3, d4⟩ := box5 hM.res
  have fz := frozen_of hM.res
  have HQ0 := Lib.hid q0
  have HQ1 := Lib.hid q1
  have hf2 : f2 ≠ w.heap.size := fun e => by
    subst e
    rw [d0] at q0
    simp at q0
  have HF2 := Lib.hid hf2
  clear HM q0 q1 hB hf2
  have HM := Lib.hid hM
  clear hM
  go_wp2_with fail
  refine bodyPost_ret (v := .tuple #[planV emptyA L0, .iface 71 (.pointer (some ⟨f2, 0, none⟩))]) (by simp [results, Tryd.results15, go_sem, planV, emptyA, L0, d0, d1, d2, d3, d4]) rfl ?_
  obtain ⟨z0, z1, z2⟩ := dec_end (u0 := .int .u16 0) (u1 := .slice none 0 0) (u2 := .slice none 0 0) (u3 := .slice none 0 0) (u4 := .slice none 0 0) HM.out.low HQ0.out HQ1.out HF2.out
  exact ⟨f2, rfl, by rw [HE.out.2]; exact z0, by rw [HE.out.1]; exact z1, z2⟩

/-- Decode gives a plan. -/
def DecOk (s : ByteArray) (w : World) (e : Ending) (w' : World) : Prop :=
  ∃ L, e = .returned (.tuple #[planV (decP s) L, .nilIface]) ∧ PlanAt w' (decP s) L ∧ Below w.heap.size w w'
theorem own_below {w w' : World} {base E C n : Nat} {v : Value} {xs : List Value} (h : w.ownsRow base E C v n xs) (hb : Below w.heap.size w w') : w'.ownsRow base E C v n xs := by
  refine World.ownsRow.kept h (only_below hb none) ?_
  cases v.ownBlock <;> simp

set_option maxHeartbeats 4000000 in
set_option maxRecDepth 100000 in
theorem dec_bad (A : Addr) (c : Nat) (s : ByteArray) (w : World) (hA : At w A s) (hn : 4 ≤ s.size) (hs : s.size ≤ 1000000) (hm : magicB s = true) (hd : (dPlan s (4, false)).2.2 = true) :
    Calls Tryd.prog 15 #[.slice (some A) s.size c] w fun e w' => DecBad s w e w' := by
  have HN := Lib.hid (new_any A c s (w.alloc (.cells zero28 28)) (hA.keep ((Below.refl _ _).alloc (Nat.le_refl _) _)) (by omega))
  have HE : Hid (decE s = 20 ∧ decA s = (dPlan s (4, false)).2.1) := ⟨by unfold decE; rw [if_neg (by omega), if_neg (by rw [hm]; simp), if_pos hd], by unfold decA; rw [if_neg (by omega), if_neg (by rw [hm]; simp), if_pos hd]⟩
  have hl : lacks s 0 false 4 = false := lacks_ok (by omega)
  have HL := Lib.hid hl
  have HT := Lib.hid ((magic_of hn).1 hm)
  have HD := Lib.hid hd
  have hni := fun x W => run_neq_iface_nil (P := Tryd.prog) W 33 (by kernel_rfl) 71 x
  clear hA hl hn hs hm hd
  go_enter Tryd.func15, Tryd.ntmps15
  go_wp2_with fail
  refine HN.out.mono ?_
  rintro e w1 ⟨g, b, cap, rfl, hR, hg, _, hB⟩
  have HM := Lib.hid (DM.start hR hg hB)
  clear hR hg hB HN
  go_wp2_with fail
  refine (text_any HM.out.rd 4).mono ?_
  rintro e w2 ⟨rfl, hR, hO⟩
  rw [show nextAt s (0, false).1 (0, false).2 4 = 4 by simp [nextAt, HL.out], show lacks s (0, false).1 (0, false).2 4 = false from HL.out] at hR
  rw [show readS s (0, false).1 (0, false).2 4 = ⟨#[80, 85, 82, 49]⟩ by simp [readS, HL.out, HT.out]]
  have hM := HM.out.grow (σ' := (4, false)) hR hO
  clear HM hR hO
  have HM := Lib.hid hM
  have k0 := (box1 hM.box).2
  clear hM
  go_wp2_with fail
  refine (plan_any HM.out.rd).mono ?_
  rintro e w5 ⟨L, rfl, hPO, hR, hO⟩
  have HLO := Lib.hid hPO
  have hbase := HM.out.low.size
  have hlt := (Array.getElem?_eq_some_iff.1 HM.out.res).1
  obtain ⟨⟨fr, cs, ps, hs, rs⟩, hr⟩ : ∃ r, r = (dPlan s (4, false)).1 := ⟨_, rfl⟩
  obtain ⟨σ5, hσ⟩ : ∃ q, q = (dPlan s (4, false)).2 := ⟨_, rfl⟩
  rw [← hr] at HLO
  rw [← hr]
  rw [← hσ] at hR
  have HRR := Lib.hid hr
  have HS5 := Lib.hid hσ
  have hM := HM.out.grow hR hO
  clear HM hR hO k0 hPO hr hσ
  have hM := hM.below ((Below.refl _ w5).alloc (Nat.le_refl _) (.cells #[.int .u16 fr, .slice L.a1 cs.length L.c1, .slice L.a2 ps.length L.c2, .slice L.a3 hs.length L.c3, .slice L.a4 rs.length L.c4] 28))
  have km := (box1 hM.box).2
  have HM := Lib.hid hM
  clear hM
  simp only [planV]
  go_wp2_with fail
  have hrd := HM.out.rd
  have e5 : σ5 = (σ5.1, true) := by rw [← HD.out, HS5.out]
  rw [e5] at hrd
  refine (end_told_bad hrd).mono ?_
  clear hrd e5
  rintro e w6 ⟨f2, rfl, q0, q1, hB⟩
  have hM := HM.out.below hB
  obtain ⟨d0, d1, d2, d3, d4⟩ := box5 hM.res
  have fz := frozen_of hM.res
  have HQ0 := Lib.hid q0
  have HQ1 := Lib.hid q1
  have hf2 : f2 ≠ w.heap.size := fun e => by
    subst e
    rw [d0] at q0
    simp at q0
  have HF2 := Lib.hid hf2
  clear HM km q0 q1 hB hf2
  have HM := Lib.hid hM
  clear hM
  go_wp2_with fail
  refine bodyPost_ret (v := .tuple #[planV emptyA L0, .iface 71 (.pointer (some ⟨f2, 0, none⟩))]) (by simp [results, Tryd.results15, go_sem, planV, emptyA, L0, d0, d1, d2, d3, d4]) rfl ?_
  obtain ⟨z0, z1, z2⟩ := dec_end (u0 := .int .u16 0) (u1 := .slice none 0 0) (u2 := .slice none 0 0) (u3 := .slice none 0 0) (u4 := .slice none 0 0) HM.out.low HQ0.out HQ1.out HF2.out
  exact ⟨f2, rfl, by rw [HE.out.2, ← HS5.out]; exact z0, by rw [HE.out.1]; exact z1, z2⟩

set_option maxHeartbeats 4000000 in
set_option maxRecDepth 100000 in
theorem dec_more (A : Addr) (c : Nat) (s : ByteArray) (w : World) (hA : At w A s) (hn : 4 ≤ s.size) (hs : s.size ≤ 1000000) (hm : magicB s = true) (hd : (dPlan s (4, false)).2.2 = false ∧ (dPlan s (4, false)).2.1 < s.size) :
    Calls Tryd.prog 15 #[.slice (some A) s.size c] w fun e w' => DecBad s w e w' := by
  have HN := Lib.hid (new_any A c s (w.alloc (.cells zero28 28)) (hA.keep ((Below.refl _ _).alloc (Nat.le_refl _) _)) (by omega))
  have HE : Hid (decE s = 21 ∧ decA s = (dPlan s (4, false)).2.1) := ⟨by unfold decE; rw [if_neg (by omega), if_neg (by rw [hm]; simp), if_neg (by rw [hd.1]; simp), if_pos hd.2], by unfold decA; rw [if_neg (by omega), if_neg (by rw [hm]; simp), if_neg (by rw [hd.1]; simp), if_pos hd.2]⟩
  have hl : lacks s 0 false 4 = false := lacks_ok (by omega)
  have HL := Lib.hid hl
  have HT := Lib.hid ((magic_of hn).1 hm)
  have HD := Lib.hid hd
  have hni := fun x W => run_neq_iface_nil (P := Tryd.prog) W 33 (by kernel_rfl) 71 x
  clear hA hl hn hs hm hd
  go_enter Tryd.func15, Tryd.ntmps15
  go_wp2_with fail
  refine HN.out.mono ?_
  rintro e w1 ⟨g, b, cap, rfl, hR, hg, _, hB⟩
  have HM := Lib.hid (DM.start hR hg hB)
  clear hR hg hB HN
  go_wp2_with fail
  refine (text_any HM.out.rd 4).mono ?_
  rintro e w2 ⟨rfl, hR, hO⟩
  rw [show nextAt s (0, false).1 (0, false).2 4 = 4 by simp [nextAt, HL.out], show lacks s (0, false).1 (0, false).2 4 = false from HL.out] at hR
  rw [show readS s (0, false).1 (0, false).2 4 = ⟨#[80, 85, 82, 49]⟩ by simp [readS, HL.out, HT.out]]
  have hM := HM.out.grow (σ' := (4, false)) hR hO
  clear HM hR hO
  have HM := Lib.hid hM
  have k0 := (box1 hM.box).2
  clear hM
  go_wp2_with fail
  refine (plan_any HM.out.rd).mono ?_
  rintro e w5 ⟨L, rfl, hPO, hR, hO⟩
  have HLO := Lib.hid hPO
  have hbase := HM.out.low.size
  have hlt := (Array.getElem?_eq_some_iff.1 HM.out.res).1
  obtain ⟨⟨fr, cs, ps, hs, rs⟩, hr⟩ : ∃ r, r = (dPlan s (4, false)).1 := ⟨_, rfl⟩
  obtain ⟨σ5, hσ⟩ : ∃ q, q = (dPlan s (4, false)).2 := ⟨_, rfl⟩
  rw [← hr] at HLO
  rw [← hr]
  rw [← hσ] at hR
  have HRR := Lib.hid hr
  have HS5 := Lib.hid hσ
  have hM := HM.out.grow hR hO
  clear HM hR hO k0 hPO hr hσ
  have hM := hM.below ((Below.refl _ w5).alloc (Nat.le_refl _) (.cells #[.int .u16 fr, .slice L.a1 cs.length L.c1, .slice L.a2 ps.length L.c2, .slice L.a3 hs.length L.c3, .slice L.a4 rs.length L.c4] 28))
  have km := (box1 hM.box).2
  have HM := Lib.hid hM
  clear hM
  simp only [planV]
  go_wp2_with fail
  have hrd := HM.out.rd
  have e5 : σ5 = (σ5.1, false) := by rw [← HD.out.1, HS5.out]
  rw [e5] at hrd
  refine (end_told_more hrd (by show σ5.1 < _; rw [HS5.out]; exact HD.out.2)).mono ?_
  clear hrd e5
  rintro e w6 ⟨f2, rfl, q0, q1, hB⟩
  have hM := HM.out.below hB
  obtain ⟨d0, d1, d2, d3, d4⟩ := box5 hM.res
  have fz := frozen_of hM.res
  have HQ0 := Lib.hid q0
  have HQ1 := Lib.hid q1
  have hf2 : f2 ≠ w.heap.size := fun e => by
    subst e
    rw [d0] at q0
    simp at q0
  have HF2 := Lib.hid hf2
  clear HM km q0 q1 hB hf2
  have HM := Lib.hid hM
  clear hM
  go_wp2_with fail
  refine bodyPost_ret (v := .tuple #[planV emptyA L0, .iface 71 (.pointer (some ⟨f2, 0, none⟩))]) (by simp [results, Tryd.results15, go_sem, planV, emptyA, L0, d0, d1, d2, d3, d4]) rfl ?_
  obtain ⟨z0, z1, z2⟩ := dec_end (u0 := .int .u16 0) (u1 := .slice none 0 0) (u2 := .slice none 0 0) (u3 := .slice none 0 0) (u4 := .slice none 0 0) HM.out.low HQ0.out HQ1.out HF2.out
  exact ⟨f2, rfl, by rw [HE.out.2, ← HS5.out]; exact z0, by rw [HE.out.1]; exact z1, z2⟩

set_option maxHeartbeats 4000000 in
set_option maxRecDepth 100000 in
theorem dec_ok (A : Addr) (c : Nat) (s : ByteArray) (w : World) (hA : At w A s) (hn : 4 ≤ s.size) (hs : s.size ≤ 1000000) (hm : magicB s = true) (hd : (dPlan s (4, false)).2.2 = false ∧ ¬ (dPlan s (4, false)).2.1 < s.size) :
    Calls Tryd.prog 15 #[.slice (some A) s.size c] w fun e w' => DecOk s w e w' := by
  have HN := Lib.hid (new_any A c s (w.alloc (.cells zero28 28)) (hA.keep ((Below.refl _ _).alloc (Nat.le_refl _) _)) (by omega))
  have HE : Hid (decP s = (dPlan s (4, false)).1) := by show _ = _; unfold decP; rw [if_pos (by unfold decE; rw [if_neg (by omega), if_neg (by rw [hm]; simp), if_neg (by rw [hd.1]; simp), if_neg hd.2])]
  have hl : lacks s 0 false 4 = false := lacks_ok (by omega)
  have HL := Lib.hid hl
  have HT := Lib.hid ((magic_of hn).1 hm)
  have HD := Lib.hid hd
  have hni := fun x W => run_neq_iface_nil (P := Tryd.prog) W 33 (by kernel_rfl) 71 x
  clear hA hl hn hs hm hd
  go_enter Tryd.func15, Tryd.ntmps15
  go_wp2_with fail
  refine HN.out.mono ?_
  rintro e w1 ⟨g, b, cap, rfl, hR, hg, _, hB⟩
  have HM := Lib.hid (DM.start hR hg hB)
  clear hR hg hB HN
  go_wp2_with fail
  refine (text_any HM.out.rd 4).mono ?_
  rintro e w2 ⟨rfl, hR, hO⟩
  rw [show nextAt s (0, false).1 (0, false).2 4 = 4 by simp [nextAt, HL.out], show lacks s (0, false).1 (0, false).2 4 = false from HL.out] at hR
  rw [show readS s (0, false).1 (0, false).2 4 = ⟨#[80, 85, 82, 49]⟩ by simp [readS, HL.out, HT.out]]
  have hM := HM.out.grow (σ' := (4, false)) hR hO
  clear HM hR hO
  have HM := Lib.hid hM
  have k0 := (box1 hM.box).2
  clear hM
  go_wp2_with fail
  refine (plan_any HM.out.rd).mono ?_
  rintro e w5 ⟨L, rfl, hPO, hR, hO⟩
  have HLO := Lib.hid hPO
  have hbase := HM.out.low.size
  have hlt := (Array.getElem?_eq_some_iff.1 HM.out.res).1
  obtain ⟨⟨fr, cs, ps, hs, rs⟩, hr⟩ : ∃ r, r = (dPlan s (4, false)).1 := ⟨_, rfl⟩
  obtain ⟨σ5, hσ⟩ : ∃ q, q = (dPlan s (4, false)).2 := ⟨_, rfl⟩
  rw [← hr] at HLO
  rw [← hr]
  rw [← hσ] at hR
  have HRR := Lib.hid hr
  have HS5 := Lib.hid hσ
  have hM := HM.out.grow hR hO
  clear HM hR hO k0 hPO hr hσ
  have hM := hM.below ((Below.refl _ w5).alloc (Nat.le_refl _) (.cells #[.int .u16 fr, .slice L.a1 cs.length L.c1, .slice L.a2 ps.length L.c2, .slice L.a3 hs.length L.c3, .slice L.a4 rs.length L.c4] 28))
  have km := (box1 hM.box).2
  have HM := Lib.hid hM
  clear hM
  simp only [planV]
  go_wp2_with fail
  have hrd := HM.out.rd
  have e5 : σ5 = (σ5.1, false) := by rw [← HD.out.1, HS5.out]
  rw [e5] at hrd
  have hrow := heap_alloc_new w5 (.cells #[.int .u16 fr, .slice L.a1 cs.length L.c1, .slice L.a2 ps.length L.c2, .slice L.a3 hs.length L.c3, .slice L.a4 rs.length L.c4] 28)
  refine (end_told_ok hrd (by show ¬ σ5.1 < _; rw [HS5.out]; exact HD.out.2)).mono ?_
  clear hrd e5
  rintro e w6 ⟨rfl, hB⟩
  have hM := HM.out.below hB
  obtain ⟨d0, d1, d2, d3, d4⟩ := box5 hM.res
  have fz := frozen_of hM.res
  obtain ⟨y0, y1, y2, y3, y4⟩ := box5 ((hB.block _ (by simp)).trans hrow)
  have HPO := Lib.hid ((HLO.out.map (fun _ _ _ _ _ _ h => World.ownsRow.alloc h _)).map (fun _ _ _ _ _ _ h => own_below h hB))
  clear HM km hB hrow
  have HM := Lib.hid hM
  have hsz : w.heap.size < w6.heap.size := (Array.getElem?_eq_some_iff.1 hM.res).1
  clear hM
  go_wp2_with fail
  refine bodyPost_ret (v := .tuple #[planV (fr, cs, ps, hs, rs) L, .nilIface]) (by simp [results, Tryd.results15, go_sem, planV, d0, d1, d2, d3, d4]) rfl ?_
  refine ⟨L, by rw [HE.out, ← HRR.out], ?_, ?_⟩
  · rw [HE.out, ← HRR.out]
    exact (HPO.out.map (fun _ _ _ _ _ hne h => own_set5 h HM.out.res hne)).at
  · exact ((((HM.out.low.setCell (Nat.le_refl _) _).setCell (Nat.le_refl _) _).setCell (Nat.le_refl _) _).setCell (Nat.le_refl _) _).setCell (Nat.le_refl _) _
end Go.Proofs.YtkgkjkghdllkhaaDoor
