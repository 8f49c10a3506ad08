/-
  What the document answers of a use, as a number.
-/
import Derived.Test.YtdicmalfnfpmmaaDoorDoW
namespace Go.Proofs.YtdicmalfnfpmmaaDoor
open Go.RowKit

/-- What is answered, and the words behind it. -/
def RP (A : Option Addr) (n : Nat) (f' : Nat → Int) (c' ans er : Int) (w : World) (e : Ending) (w' : World) : Prop :=
  ∃ A' d', e = .returned (.tuple #[.agg #[.slice A' n d', .int .i64 c'], .int .u32 ans, .int .i64 er]) ∧ Us w' A' n f' ∧ Below w.heap.size w w' ∧ (A' = A ∨ ∀ x, A' = some x → w.heap.size ≤ x.block)
theorem two_set {w1 : World} {s : Nat} {u0 v0 u v : Value} {o : Obj} (h0 : w1.cell? ⟨s, 0, none⟩ = some u0) (h1 : w1.cell? ⟨s, 1, none⟩ = some v0) :
    (((w1.setCell ⟨s, 0, none⟩ u).setCell ⟨s, 1, none⟩ v).alloc o).cell? ⟨s, 0, none⟩ = some u ∧ (((w1.setCell ⟨s, 0, none⟩ u).setCell ⟨s, 1, none⟩ v).alloc o).cell? ⟨s, 1, none⟩ = some v := by
  have a0 : (w1.setCell ⟨s, 0, none⟩ u).cell? ⟨s, 0, none⟩ = some u := World.cell?_setCell_same _ _ _ h0
  have a1 : (w1.setCell ⟨s, 0, none⟩ u).cell? ⟨s, 1, none⟩ = some v0 := by rw [World.cell?_setCell_other _ _ _ _ (by simp)]; exact h1
  have b0 : ((w1.setCell ⟨s, 0, none⟩ u).setCell ⟨s, 1, none⟩ v).cell? ⟨s, 0, none⟩ = some u := by rw [World.cell?_setCell_other _ _ _ _ (by simp)]; exact a0
  have b1 : ((w1.setCell ⟨s, 0, none⟩ u).setCell ⟨s, 1, none⟩ v).cell? ⟨s, 1, none⟩ = some v := World.cell?_setCell_same _ _ _ a1
  exact ⟨kept b0 ((Below.refl _ _).alloc (Nat.le_refl _) _), kept b1 ((Below.refl _ _).alloc (Nat.le_refl _) _)⟩
theorem Us.far {w : World} {A : Option Addr} {n s o' : Nat} {f : Nat → Int} (h : Us w A n f) (hA : ∀ b o, A = some ⟨b, o, none⟩ → 0 < n → s ≠ b) (v : Value) : Us (w.setCell ⟨s, o', none⟩ v) A n f := fun i hi => by
  obtain ⟨b, o, e, hc⟩ := h i hi
  refine ⟨b, o, e, ?_⟩
  rw [World.cell?_of_block (w := w) (Below.heap_setCell _ _ _ _ (fun e' => hA b o e (by omega) e'.symm))]
  exact hc


set_option maxHeartbeats 4000000 in
set_option maxRecDepth 100000 in
theorem right0 (at' old v er was c c' : Int) (A : Option Addr) (n cap : Nat) (f f' : Nat → Int) (w : World) (hA : Us w A n f)
    (hD : ∀ W, Us W A n f → Calls Tryd.prog 23 #[.agg #[.slice A n cap, .int .i64 c], xV 0 at' old v] W fun e w' => ∃ A' d', e = .returned (.tuple #[.agg #[.slice A' n d', .int .i64 c'], .int .u32 was, .int .i64 er]) ∧ Us w' A' n f' ∧ Below W.heap.size W w' ∧ (A' = A ∨ ∀ x, A' = some x → W.heap.size ≤ x.block)) :
    Calls Tryd.prog 13 #[.agg #[.slice A n cap, .int .i64 c], xV 0 at' old v] w fun e w' => RP A n f' c' was er w e w' := by
  have HD := Lib.hid hD
  unfold xV at HD ⊢
  have hb := trio_below w A n cap c 0 at' old v
  have ht := Trio.new w A n cap c 0 at' old v
  have HU := Lib.hid (hA.keep hb)
  unfold trioW at hb ht HU
  have HB := Lib.hid hb
  have HT := Lib.hid ht
  have HLT := Lib.hid (fun i (hi : i < n) => hA i hi)
  clear hb ht hA hD
  go_enter Tryd.func13, Tryd.ntmps13
  go_wp2_with fail
  with_reducible refine (HD.out _ HU.out).mono ?_
  rintro e w1 ⟨A1, d1, rfl, hu1, hb1, hfar⟩
  have ht1 := HT.out.keep hb1
  have hs1 := ht1.lt
  have HU1 := Lib.hid hu1
  have HB1 := Lib.hid (below_two HB.out hb1)
  have ht2 := ht1.keep (W' := w1.alloc (.cells #[.slice A1 n d1, .int .i64 c'] 29)) ((Below.refl _ _).alloc (Nat.le_refl _) _)
  have y0 := ht2.x0
  have y2 := ht2.x2
  have s0 := ht2.r0
  have s1 := ht2.r1
  have sf := ht2.fz 0
  have sg := ht2.fz 1
  have x0 := ht1.x0
  have x2 := ht1.x2
  have r0 := ht1.r0
  have r1 := ht1.r1
  have rf := ht1.fz 0
  have rg := ht1.fz 1
  have hfar1 : ∀ b o, A1 = some ⟨b, o, none⟩ → 0 < n → w.heap.size + 1 + 1 ≠ b := by
    intro b o e hn
    rcases hfar with e1 | h
    · obtain ⟨b', o', e2, hc⟩ := HLT.out 0 hn
      rw [e1, e2] at e
      injection e with e
      injection e with e _
      have := cell_lt hc
      dsimp only at this
      omega
    · have := h _ e
      simp at this
      omega
  have HFAR := Lib.hid hfar1
  have HFR : Hid (A1 = A ∨ ∀ x, A1 = some x → w.heap.size ≤ x.block) := hfar.imp id fun h x e => by
    have := h x e
    simp at this
    omega
  have HTW := Lib.hid (fun (u v : Value) (o : Obj) => two_set (u := u) (v := v) (o := o) r0 r1)
  clear hu1 hb1 ht1 ht2 hfar hfar1

  go_wp2_with fail
  refine bodyPost_ret (v := .tuple #[.agg #[.slice A1 n d1, .int .i64 c'], .int .u32 was, .int .i64 er]) (by simp [results, Tryd.results13, go_sem, (HTW.out _ _ _).1, (HTW.out _ _ _).2]) rfl ⟨A1, d1, rfl, ?_, ?_, HFR.out⟩
  · exact (((HU1.out.far HFAR.out _).far HFAR.out _).keep ((Below.refl _ _).alloc (Nat.le_refl _) _))
  · exact (((HB1.out.setCell (by simp; omega) _).setCell (by simp; omega) _).alloc (by simp; omega) _)


set_option maxHeartbeats 4000000 in
set_option maxRecDepth 100000 in
theorem right1 (at' old v er was c c' : Int) (A : Option Addr) (n cap : Nat) (f f' : Nat → Int) (w : World) (hA : Us w A n f)
    (hD : ∀ W, Us W A n f → Calls Tryd.prog 23 #[.agg #[.slice A n cap, .int .i64 c], xV 1 at' old v] W fun e w' => ∃ A' d', e = .returned (.tuple #[.agg #[.slice A' n d', .int .i64 c'], .int .u32 was, .int .i64 er]) ∧ Us w' A' n f' ∧ Below W.heap.size W w' ∧ (A' = A ∨ ∀ x, A' = some x → W.heap.size ≤ x.block)) :
    Calls Tryd.prog 13 #[.agg #[.slice A n cap, .int .i64 c], xV 1 at' old v] w fun e w' => RP A n f' c' 0 er w e w' := by
  have HD := Lib.hid hD
  unfold xV at HD ⊢
  have hb := trio_below w A n cap c 1 at' old v
  have ht := Trio.new w A n cap c 1 at' old v
  have HU := Lib.hid (hA.keep hb)
  unfold trioW at hb ht HU
  have HB := Lib.hid hb
  have HT := Lib.hid ht
  have HLT := Lib.hid (fun i (hi : i < n) => hA i hi)
  clear hb ht hA hD
  go_enter Tryd.func13, Tryd.ntmps13
  go_wp2_with fail
  with_reducible refine (HD.out _ HU.out).mono ?_
  rintro e w1 ⟨A1, d1, rfl, hu1, hb1, hfar⟩
  have ht1 := HT.out.keep hb1
  have hs1 := ht1.lt
  have HU1 := Lib.hid hu1
  have HB1 := Lib.hid (below_two HB.out hb1)
  have ht2 := ht1.keep (W' := w1.alloc (.cells #[.slice A1 n d1, .int .i64 c'] 29)) ((Below.refl _ _).alloc (Nat.le_refl _) _)
  have y0 := ht2.x0
  have y2 := ht2.x2
  have s0 := ht2.r0
  have s1 := ht2.r1
  have sf := ht2.fz 0
  have sg := ht2.fz 1
  have x0 := ht1.x0
  have x2 := ht1.x2
  have r0 := ht1.r0
  have r1 := ht1.r1
  have rf := ht1.fz 0
  have rg := ht1.fz 1
  have hfar1 : ∀ b o, A1 = some ⟨b, o, none⟩ → 0 < n → w.heap.size + 1 + 1 ≠ b := by
    intro b o e hn
    rcases hfar with e1 | h
    · obtain ⟨b', o', e2, hc⟩ := HLT.out 0 hn
      rw [e1, e2] at e
      injection e with e
      injection e with e _
      have := cell_lt hc
      dsimp only at this
      omega
    · have := h _ e
      simp at this
      omega
  have HFAR := Lib.hid hfar1
  have HFR : Hid (A1 = A ∨ ∀ x, A1 = some x → w.heap.size ≤ x.block) := hfar.imp id fun h x e => by
    have := h x e
    simp at this
    omega
  have HTW := Lib.hid (fun (u v : Value) (o : Obj) => two_set (u := u) (v := v) (o := o) r0 r1)
  clear hu1 hb1 ht1 ht2 hfar hfar1

  go_wp2_with fail
  refine bodyPost_ret (v := .tuple #[.agg #[.slice A1 n d1, .int .i64 c'], .int .u32 0, .int .i64 er]) (by simp [results, Tryd.results13, go_sem, (HTW.out _ _ _).1, (HTW.out _ _ _).2]) rfl ⟨A1, d1, rfl, ?_, ?_, HFR.out⟩
  · exact (((HU1.out.far HFAR.out _).far HFAR.out _).keep ((Below.refl _ _).alloc (Nat.le_refl _) _))
  · exact (((HB1.out.setCell (by simp; omega) _).setCell (by simp; omega) _).alloc (by simp; omega) _)


set_option maxHeartbeats 4000000 in
set_option maxRecDepth 100000 in
theorem right2 (at' old v er was c c' : Int) (A : Option Addr) (n cap : Nat) (f f' : Nat → Int) (w : World) (hA : Us w A n f)
    (hD : ∀ W, Us W A n f → Calls Tryd.prog 23 #[.agg #[.slice A n cap, .int .i64 c], xV 2 at' old v] W fun e w' => ∃ A' d', e = .returned (.tuple #[.agg #[.slice A' n d', .int .i64 c'], .int .u32 was, .int .i64 er]) ∧ Us w' A' n f' ∧ Below W.heap.size W w' ∧ (A' = A ∨ ∀ x, A' = some x → W.heap.size ≤ x.block)) :
    Calls Tryd.prog 13 #[.agg #[.slice A n cap, .int .i64 c], xV 2 at' old v] w fun e w' => RP A n f' c' (if er = 0 ∧ was = old then 1 else 0) er w e w' := by
  have HD := Lib.hid hD
  unfold xV at HD ⊢
  have hb := trio_below w A n cap c 2 at' old v
  have ht := Trio.new w A n cap c 2 at' old v
  have HU := Lib.hid (hA.keep hb)
  unfold trioW at hb ht HU
  have HB := Lib.hid hb
  have HT := Lib.hid ht
  have HLT := Lib.hid (fun i (hi : i < n) => hA i hi)
  clear hb ht hA hD
  go_enter Tryd.func13, Tryd.ntmps13
  go_wp2_with fail
  with_reducible refine (HD.out _ HU.out).mono ?_
  rintro e w1 ⟨A1, d1, rfl, hu1, hb1, hfar⟩
  have ht1 := HT.out.keep hb1
  have hs1 := ht1.lt
  have HU1 := Lib.hid hu1
  have HB1 := Lib.hid (below_two HB.out hb1)
  have ht2 := ht1.keep (W' := w1.alloc (.cells #[.slice A1 n d1, .int .i64 c'] 29)) ((Below.refl _ _).alloc (Nat.le_refl _) _)
  have y0 := ht2.x0
  have y2 := ht2.x2
  have s0 := ht2.r0
  have s1 := ht2.r1
  have sf := ht2.fz 0
  have sg := ht2.fz 1
  have x0 := ht1.x0
  have x2 := ht1.x2
  have r0 := ht1.r0
  have r1 := ht1.r1
  have rf := ht1.fz 0
  have rg := ht1.fz 1
  have hfar1 : ∀ b o, A1 = some ⟨b, o, none⟩ → 0 < n → w.heap.size + 1 + 1 ≠ b := by
    intro b o e hn
    rcases hfar with e1 | h
    · obtain ⟨b', o', e2, hc⟩ := HLT.out 0 hn
      rw [e1, e2] at e
      injection e with e
      injection e with e _
      have := cell_lt hc
      dsimp only at this
      omega
    · have := h _ e
      simp at this
      omega
  have HFAR := Lib.hid hfar1
  have HFR : Hid (A1 = A ∨ ∀ x, A1 = some x → w.heap.size ≤ x.block) := hfar.imp id fun h x e => by
    have := h x e
    simp at this
    omega
  have HTW := Lib.hid (fun (u v : Value) (o : Obj) => two_set (u := u) (v := v) (o := o) r0 r1)
  clear hu1 hb1 ht1 ht2 hfar hfar1

  by_cases h0 : er = 0
  · subst h0
    by_cases h1 : was = old
    · subst h1
      go_wp2_with fail
      refine bodyPost_ret (v := .tuple #[.agg #[.slice A1 n d1, .int .i64 c'], .int .u32 1, .int .i64 0]) (by simp [results, Tryd.results13, go_sem, (HTW.out _ _ _).1, (HTW.out _ _ _).2]) rfl ⟨A1, d1, by first | rfl | simp, ?_, ?_, HFR.out⟩
      · exact (((HU1.out.far HFAR.out _).far HFAR.out _).keep ((Below.refl _ _).alloc (Nat.le_refl _) _))
      · exact (((HB1.out.setCell (by simp; omega) _).setCell (by simp; omega) _).alloc (by simp; omega) _)
    · go_wp2_with fail
      refine bodyPost_ret (v := .tuple #[.agg #[.slice A1 n d1, .int .i64 c'], .int .u32 0, .int .i64 0]) (by simp [results, Tryd.results13, go_sem, (HTW.out _ _ _).1, (HTW.out _ _ _).2]) rfl ⟨A1, d1, by first | rfl | simp [h1], ?_, ?_, HFR.out⟩
      · exact (((HU1.out.far HFAR.out _).far HFAR.out _).keep ((Below.refl _ _).alloc (Nat.le_refl _) _))
      · exact (((HB1.out.setCell (by simp; omega) _).setCell (by simp; omega) _).alloc (by simp; omega) _)
  · go_wp2_with fail
    refine bodyPost_ret (v := .tuple #[.agg #[.slice A1 n d1, .int .i64 c'], .int .u32 0, .int .i64 er]) (by simp [results, Tryd.results13, go_sem, (HTW.out _ _ _).1, (HTW.out _ _ _).2]) rfl ⟨A1, d1, by first | rfl | simp [h0], ?_, ?_, HFR.out⟩
    · exact (((HU1.out.far HFAR.out _).far HFAR.out _).keep ((Below.refl _ _).alloc (Nat.le_refl _) _))
    · exact (((HB1.out.setCell (by simp; omega) _).setCell (by simp; omega) _).alloc (by simp; omega) _)


set_option maxHeartbeats 4000000 in
set_option maxRecDepth 100000 in
theorem right3 (at' old v er was c c' : Int) (A : Option Addr) (n cap : Nat) (f f' : Nat → Int) (w : World) (hA : Us w A n f)
    (hD : ∀ W, Us W A n f → Calls Tryd.prog 23 #[.agg #[.slice A n cap, .int .i64 c], xV 3 at' old v] W fun e w' => ∃ A' d', e = .returned (.tuple #[.agg #[.slice A' n d', .int .i64 c'], .int .u32 was, .int .i64 er]) ∧ Us w' A' n f' ∧ Below W.heap.size W w' ∧ (A' = A ∨ ∀ x, A' = some x → W.heap.size ≤ x.block)) :
    Calls Tryd.prog 13 #[.agg #[.slice A n cap, .int .i64 c], xV 3 at' old v] w fun e w' => RP A n f' c' was er w e w' := by
  have HD := Lib.hid hD
  unfold xV at HD ⊢
  have hb := trio_below w A n cap c 3 at' old v
  have ht := Trio.new w A n cap c 3 at' old v
  have HU := Lib.hid (hA.keep hb)
  unfold trioW at hb ht HU
  have HB := Lib.hid hb
  have HT := Lib.hid ht
  have HLT := Lib.hid (fun i (hi : i < n) => hA i hi)
  clear hb ht hA hD
  go_enter Tryd.func13, Tryd.ntmps13
  go_wp2_with fail
  with_reducible refine (HD.out _ HU.out).mono ?_
  rintro e w1 ⟨A1, d1, rfl, hu1, hb1, hfar⟩
  have ht1 := HT.out.keep hb1
  have hs1 := ht1.lt
  have HU1 := Lib.hid hu1
  have HB1 := Lib.hid (below_two HB.out hb1)
  have ht2 := ht1.keep (W' := w1.alloc (.cells #[.slice A1 n d1, .int .i64 c'] 29)) ((Below.refl _ _).alloc (Nat.le_refl _) _)
  have y0 := ht2.x0
  have y2 := ht2.x2
  have s0 := ht2.r0
  have s1 := ht2.r1
  have sf := ht2.fz 0
  have sg := ht2.fz 1
  have x0 := ht1.x0
  have x2 := ht1.x2
  have r0 := ht1.r0
  have r1 := ht1.r1
  have rf := ht1.fz 0
  have rg := ht1.fz 1
  have hfar1 : ∀ b o, A1 = some ⟨b, o, none⟩ → 0 < n → w.heap.size + 1 + 1 ≠ b := by
    intro b o e hn
    rcases hfar with e1 | h
    · obtain ⟨b', o', e2, hc⟩ := HLT.out 0 hn
      rw [e1, e2] at e
      injection e with e
      injection e with e _
      have := cell_lt hc
      dsimp only at this
      omega
    · have := h _ e
      simp at this
      omega
  have HFAR := Lib.hid hfar1
  have HFR : Hid (A1 = A ∨ ∀ x, A1 = some x → w.heap.size ≤ x.block) := hfar.imp id fun h x e => by
    have := h x e
    simp at this
    omega
  have HTW := Lib.hid (fun (u v : Value) (o : Obj) => two_set (u := u) (v := v) (o := o) r0 r1)
  clear hu1 hb1 ht1 ht2 hfar hfar1

  go_wp2_with fail
  refine bodyPost_ret (v := .tuple #[.agg #[.slice A1 n d1, .int .i64 c'], .int .u32 was, .int .i64 er]) (by simp [results, Tryd.results13, go_sem, (HTW.out _ _ _).1, (HTW.out _ _ _).2]) rfl ⟨A1, d1, rfl, ?_, ?_, HFR.out⟩
  · exact (((HU1.out.far HFAR.out _).far HFAR.out _).keep ((Below.refl _ _).alloc (Nat.le_refl _) _))
  · exact (((HB1.out.setCell (by simp; omega) _).setCell (by simp; omega) _).alloc (by simp; omega) _)


set_option maxHeartbeats 4000000 in
set_option maxRecDepth 100000 in
theorem right4 (at' old v er was c c' : Int) (A : Option Addr) (n cap : Nat) (f f' : Nat → Int) (w : World) (hA : Us w A n f)
    (hD : ∀ W, Us W A n f → Calls Tryd.prog 23 #[.agg #[.slice A n cap, .int .i64 c], xV 4 at' old v] W fun e w' => ∃ A' d', e = .returned (.tuple #[.agg #[.slice A' n d', .int .i64 c'], .int .u32 was, .int .i64 er]) ∧ Us w' A' n f' ∧ Below W.heap.size W w' ∧ (A' = A ∨ ∀ x, A' = some x → W.heap.size ≤ x.block)) :
    Calls Tryd.prog 13 #[.agg #[.slice A n cap, .int .i64 c], xV 4 at' old v] w fun e w' => RP A n f' c' was er w e w' := by
  have HD := Lib.hid hD
  unfold xV at HD ⊢
  have hb := trio_below w A n cap c 4 at' old v
  have ht := Trio.new w A n cap c 4 at' old v
  have HU := Lib.hid (hA.keep hb)
  unfold trioW at hb ht HU
  have HB := Lib.hid hb
  have HT := Lib.hid ht
  have HLT := Lib.hid (fun i (hi : i < n) => hA i hi)
  clear hb ht hA hD
  go_enter Tryd.func13, Tryd.ntmps13
  go_wp2_with fail
  with_reducible refine (HD.out _ HU.out).mono ?_
  rintro e w1 ⟨A1, d1, rfl, hu1, hb1, hfar⟩
  have ht1 := HT.out.keep hb1
  have hs1 := ht1.lt
  have HU1 := Lib.hid hu1
  have HB1 := Lib.hid (below_two HB.out hb1)
  have ht2 := ht1.keep (W' := w1.alloc (.cells #[.slice A1 n d1, .int .i64 c'] 29)) ((Below.refl _ _).alloc (Nat.le_refl _) _)
  have y0 := ht2.x0
  have y2 := ht2.x2
  have s0 := ht2.r0
  have s1 := ht2.r1
  have sf := ht2.fz 0
  have sg := ht2.fz 1
  have x0 := ht1.x0
  have x2 := ht1.x2
  have r0 := ht1.r0
  have r1 := ht1.r1
  have rf := ht1.fz 0
  have rg := ht1.fz 1
  have hfar1 : ∀ b o, A1 = some ⟨b, o, none⟩ → 0 < n → w.heap.size + 1 + 1 ≠ b := by
    intro b o e hn
    rcases hfar with e1 | h
    · obtain ⟨b', o', e2, hc⟩ := HLT.out 0 hn
      rw [e1, e2] at e
      injection e with e
      injection e with e _
      have := cell_lt hc
      dsimp only at this
      omega
    · have := h _ e
      simp at this
      omega
  have HFAR := Lib.hid hfar1
  have HFR : Hid (A1 = A ∨ ∀ x, A1 = some x → w.heap.size ≤ x.block) := hfar.imp id fun h x e => by
    have := h x e
    simp at this
    omega
  have HTW := Lib.hid (fun (u v : Value) (o : Obj) => two_set (u := u) (v := v) (o := o) r0 r1)
  clear hu1 hb1 ht1 ht2 hfar hfar1

  go_wp2_with fail
  refine bodyPost_ret (v := .tuple #[.agg #[.slice A1 n d1, .int .i64 c'], .int .u32 was, .int .i64 er]) (by simp [results, Tryd.results13, go_sem, (HTW.out _ _ _).1, (HTW.out _ _ _).2]) rfl ⟨A1, d1, rfl, ?_, ?_, HFR.out⟩
  · exact (((HU1.out.far HFAR.out _).far HFAR.out _).keep ((Below.refl _ _).alloc (Nat.le_refl _) _))
  · exact (((HB1.out.setCell (by simp; omega) _).setCell (by simp; omega) _).alloc (by simp; omega) _)


set_option maxHeartbeats 4000000 in
set_option maxRecDepth 100000 in
theorem right5 (at' old v er was c c' : Int) (A : Option Addr) (n cap : Nat) (f f' : Nat → Int) (w : World) (hA : Us w A n f)
    (hD : ∀ W, Us W A n f → Calls Tryd.prog 23 #[.agg #[.slice A n cap, .int .i64 c], xV 5 at' old v] W fun e w' => ∃ A' d', e = .returned (.tuple #[.agg #[.slice A' n d', .int .i64 c'], .int .u32 was, .int .i64 er]) ∧ Us w' A' n f' ∧ Below W.heap.size W w' ∧ (A' = A ∨ ∀ x, A' = some x → W.heap.size ≤ x.block)) :
    Calls Tryd.prog 13 #[.agg #[.slice A n cap, .int .i64 c], xV 5 at' old v] w fun e w' => RP A n f' c' was er w e w' := by
  have HD := Lib.hid hD
  unfold xV at HD ⊢
  have hb := trio_below w A n cap c 5 at' old v
  have ht := Trio.new w A n cap c 5 at' old v
  have HU := Lib.hid (hA.keep hb)
  unfold trioW at hb ht HU
  have HB := Lib.hid hb
  have HT := Lib.hid ht
  have HLT := Lib.hid (fun i (hi : i < n) => hA i hi)
  clear hb ht hA hD
  go_enter Tryd.func13, Tryd.ntmps13
  go_wp2_with fail
  with_reducible refine (HD.out _ HU.out).mono ?_
  rintro e w1 ⟨A1, d1, rfl, hu1, hb1, hfar⟩
  have ht1 := HT.out.keep hb1
  have hs1 := ht1.lt
  have HU1 := Lib.hid hu1
  have HB1 := Lib.hid (below_two HB.out hb1)
  have ht2 := ht1.keep (W' := w1.alloc (.cells #[.slice A1 n d1, .int .i64 c'] 29)) ((Below.refl _ _).alloc (Nat.le_refl _) _)
  have y0 := ht2.x0
  have y2 := ht2.x2
  have s0 := ht2.r0
  have s1 := ht2.r1
  have sf := ht2.fz 0
  have sg := ht2.fz 1
  have x0 := ht1.x0
  have x2 := ht1.x2
  have r0 := ht1.r0
  have r1 := ht1.r1
  have rf := ht1.fz 0
  have rg := ht1.fz 1
  have hfar1 : ∀ b o, A1 = some ⟨b, o, none⟩ → 0 < n → w.heap.size + 1 + 1 ≠ b := by
    intro b o e hn
    rcases hfar with e1 | h
    · obtain ⟨b', o', e2, hc⟩ := HLT.out 0 hn
      rw [e1, e2] at e
      injection e with e
      injection e with e _
      have := cell_lt hc
      dsimp only at this
      omega
    · have := h _ e
      simp at this
      omega
  have HFAR := Lib.hid hfar1
  have HFR : Hid (A1 = A ∨ ∀ x, A1 = some x → w.heap.size ≤ x.block) := hfar.imp id fun h x e => by
    have := h x e
    simp at this
    omega
  have HTW := Lib.hid (fun (u v : Value) (o : Obj) => two_set (u := u) (v := v) (o := o) r0 r1)
  clear hu1 hb1 ht1 ht2 hfar hfar1

  go_wp2_with fail
  refine bodyPost_ret (v := .tuple #[.agg #[.slice A1 n d1, .int .i64 c'], .int .u32 was, .int .i64 er]) (by simp [results, Tryd.results13, go_sem, (HTW.out _ _ _).1, (HTW.out _ _ _).2]) rfl ⟨A1, d1, rfl, ?_, ?_, HFR.out⟩
  · exact (((HU1.out.far HFAR.out _).far HFAR.out _).keep ((Below.refl _ _).alloc (Nat.le_refl _) _))
  · exact (((HB1.out.setCell (by simp; omega) _).setCell (by simp; omega) _).alloc (by simp; omega) _)

end Go.Proofs.YtdicmalfnfpmmaaDoor