/-
  Waiters in memory; the parts of their steps.
-/
import Derived.Test.YtcjhbmkpfclmfaaDoorChg
namespace Go.Proofs.YtcjhbmkpfclmfaaDoor
open Go.RowKit

/-- What a waiter's numbers keep. -/
structure Wf (t : Tk) : Prop where
  ar : -1000 ≤ t.at' ∧ t.at' ≤ 1000
  nn : 1 ≤ t.n ∧ t.n ≤ 8
  ps : 0 ≤ t.psd ∧ t.psd ≤ t.rds ∧ t.rds ≤ 1000
  pl : t.ph ≤ 4 ∧ (t.ph < 4 → t.psd < t.rds)
  cm : t.psd ≤ t.came ∧ t.came ≤ t.psd + 1
  c0 : t.ph = 0 → t.came = t.psd
  c1 : 1 ≤ t.ph → t.ph ≤ 3 → t.came = t.psd + 1
/-- A waiter's cells, in block B. -/
structure Cel (w : World) (B : Nat) (a n r p c q : Int) : Prop where
  c0 : w.cell? ⟨B, 0, none⟩ = some (.int .i64 a)
  c1 : w.cell? ⟨B, 1, none⟩ = some (.int .i64 n)
  c2 : w.cell? ⟨B, 2, none⟩ = some (.int .i64 r)
  c3 : w.cell? ⟨B, 3, none⟩ = some (.int .i64 p)
  c4 : w.cell? ⟨B, 4, none⟩ = some (.int .i64 c)
  c5 : w.cell? ⟨B, 5, none⟩ = some (.int .i64 q)
  fz : ∀ j, w.frozen? ⟨B, j, none⟩ = false
section
variable {w w' : World} {B : Nat} {a n r p c q : Int}
theorem Cel.same (h : Cel w B a n r p c q) (e : w'.heap[B]? = w.heap[B]?) : Cel w' B a n r p c q :=
  ⟨by rw [World.cell?_of_block (w := w) e]; exact h.c0, by rw [World.cell?_of_block (w := w) e]; exact h.c1, by rw [World.cell?_of_block (w := w) e]; exact h.c2, by rw [World.cell?_of_block (w := w) e]; exact h.c3, by rw [World.cell?_of_block (w := w) e]; exact h.c4, by rw [World.cell?_of_block (w := w) e]; exact h.c5,
   fun j => by rw [World.frozen?_of_block (w := w) e]; exact h.fz j⟩
theorem Cel.lt (h : Cel w B a n r p c q) : B < w.heap.size := cell_lt h.c0
theorem Cel.keep (h : Cel w B a n r p c q) (hB : Below w.heap.size w w') : Cel w' B a n r p c q := h.same (hB.block _ h.lt)
theorem Cel.else {g b : Nat} (h : Cel w B a n r p c q) (hE : Else g b w w') (hg : g ≠ B) (hb : b ≠ B) : Cel w' B a n r p c q := h.same (hE.block _ h.lt (fun e => hg e.symm) (fun e => hb e.symm))
theorem Cel.drew (h : Cel w B a n r p c q) : Cel w.drew B a n r p c q := ⟨h.c0, h.c1, h.c2, h.c3, h.c4, h.c5, h.fz⟩
theorem Cel.setPh (h : Cel w B a n r p c q) (x : Int) : Cel (w.setCell ⟨B, 3, none⟩ (.int .i64 x)) B a n r x c q :=
  ⟨by rw [World.cell?_setCell_other _ _ _ _ (by simp)]; exact h.c0, by rw [World.cell?_setCell_other _ _ _ _ (by simp)]; exact h.c1, by rw [World.cell?_setCell_other _ _ _ _ (by simp)]; exact h.c2, World.cell?_setCell_same _ _ _ h.c3, by rw [World.cell?_setCell_other _ _ _ _ (by simp)]; exact h.c4, by rw [World.cell?_setCell_other _ _ _ _ (by simp)]; exact h.c5, fun j => by rw [World.frozen?_setCell]; exact h.fz j⟩
theorem Cel.setCame (h : Cel w B a n r p c q) (x : Int) : Cel (w.setCell ⟨B, 4, none⟩ (.int .i64 x)) B a n r p x q :=
  ⟨by rw [World.cell?_setCell_other _ _ _ _ (by simp)]; exact h.c0, by rw [World.cell?_setCell_other _ _ _ _ (by simp)]; exact h.c1, by rw [World.cell?_setCell_other _ _ _ _ (by simp)]; exact h.c2, by rw [World.cell?_setCell_other _ _ _ _ (by simp)]; exact h.c3, World.cell?_setCell_same _ _ _ h.c4, by rw [World.cell?_setCell_other _ _ _ _ (by simp)]; exact h.c5, fun j => by rw [World.frozen?_setCell]; exact h.fz j⟩
theorem Cel.setPsd (h : Cel w B a n r p c q) (x : Int) : Cel (w.setCell ⟨B, 5, none⟩ (.int .i64 x)) B a n r p c x :=
  ⟨by rw [World.cell?_setCell_other _ _ _ _ (by simp)]; exact h.c0, by rw [World.cell?_setCell_other _ _ _ _ (by simp)]; exact h.c1, by rw [World.cell?_setCell_other _ _ _ _ (by simp)]; exact h.c2, by rw [World.cell?_setCell_other _ _ _ _ (by simp)]; exact h.c3, by rw [World.cell?_setCell_other _ _ _ _ (by simp)]; exact h.c4, World.cell?_setCell_same _ _ _ h.c5, fun j => by rw [World.frozen?_setCell]; exact h.fz j⟩
end
/-- A waiter in memory. -/
structure TakerAt (w : World) (B : Nat) (t : Tk) : Prop where
  cel : Cel w B t.at' t.n t.rds t.ph t.came t.psd
  wf : Wf t
theorem TakerAt.same {w w' : World} {B : Nat} {t : Tk} (h : TakerAt w B t) (e : w'.heap[B]? = w.heap[B]?) : TakerAt w' B t := ⟨h.cel.same e, h.wf⟩
theorem TakerAt.lt {w : World} {B : Nat} {t : Tk} (h : TakerAt w B t) : B < w.heap.size := h.cel.lt
theorem TakerAt.keep {w w' : World} {B : Nat} {t : Tk} (h : TakerAt w B t) (hB : Below w.heap.size w w') : TakerAt w' B t := h.same (hB.block _ h.lt)
theorem TakerAt.drew {w : World} {B : Nat} {t : Tk} (h : TakerAt w B t) : TakerAt w.drew B t := ⟨h.cel.drew, h.wf⟩
/-- The blocks that a step may change. -/
def ST (g b B : Nat) (k : Nat) : Prop := k = g ∨ k = b ∨ k = B
theorem chg_else {g b B : Nat} {w w' : World} (h : Else g b w w') : Chg (ST g b B) w w' := (Chg.of_else h).mono fun _ hk => hk.elim .inl fun e => .inr (.inl e)
theorem Chg.setB {g b B j : Nat} {w w' : World} (h : Chg (ST g b B) w w') (v : Value) : Chg (ST g b B) w (w'.setCell ⟨B, j, none⟩ v) := h.set (a := ⟨B, j, none⟩) (.inr (.inr rfl)) v
theorem afterS0 (x : Int) : afterS 0 0 0 x = x := rfl
theorem afterS1 (v x : Int) : afterS 1 0 v x = v := rfl
theorem afterS3 (x : Int) : afterS 3 0 1 x = inc x := inc_wrap x
theorem setF_upd' (f : Nat → Int) (i : Nat) (v : Int) : setF f i v = upd f i v := rfl
theorem else_drew {g b : Nat} {w w' : World} (h : Else g b w.drew w') : Else g b w w' := ⟨h.os, h.tape, h.output, h.size, h.block⟩
theorem below_drew {w w' : World} (h : Below w.drew.heap.size w.drew w') : Below w.heap.size w w' := ⟨h.os, h.tape, h.output, h.size, h.block⟩
theorem below_drewN {n : Nat} {w w' : World} (h : Below n w w') (k : Nat) : Below n w (w'.drewN k) := ⟨h.os, h.tape, h.output, h.size, h.block⟩
/-- What a part of a step leaves: the words, the waiter's cells, the rest. -/
def StepQ (g b n B : Nat) (f : Nat → Int) (c : Int) (a nn r p cm q : Int) (w w' : World) : Prop := (∃ c', c ≤ c' ∧ c' ≤ c + 1 ∧ MemAt w' g b n f c') ∧ Cel w' B a nn r p cm q ∧ Chg (ST g b B) w w'
section
variable (i B g b n : Nat) (a nn r p cm q : Int) (f : Nat → Int) (c : Int) (w : World)
set_option maxHeartbeats 2000000 in
set_option maxRecDepth 100000 in
theorem sense_any (hT : Cel w B a nn r p cm q) (hq : 0 ≤ q ∧ q ≤ 1000) :
    Calls Tryd.prog 35 #[.pointer (some ⟨B, 0, none⟩)] w fun e w' => e = .returned (.int .u32 ((q + 1) % 2)) ∧ w = w' := by
  have k5 := hT.c5
  have hw : IntKind.u32.wrap (q + 1) = q + 1 := by rw [IntKind.wrap_u32']; omega
  have hm : (q + 1).tmod 2 = (q + 1) % 2 := Int.tmod_eq_emod_of_nonneg (by omega)
  have hw2 : IntKind.u32.wrap ((q + 1) % 2) = (q + 1) % 2 := by rw [IntKind.wrap_u32']; omega
  clear hT
  go_enter Tryd.func35, Tryd.ntmps35
  go_wp2_with fail
  go_ret
  exact ⟨rfl, rfl⟩
set_option maxHeartbeats 2000000 in
set_option maxRecDepth 100000 in
theorem ahead_any (hT : Cel w B a nn r p cm q) :
    Calls Tryd.prog 25 #[.pointer (some ⟨B, 0, none⟩)] w fun e w' => e = .returned (.int .i64 (if q = r then 4 else 0)) ∧ Below w.heap.size w w' := by
  have k5 := hT.c5
  have k2 := hT.c2
  clear hT
  by_cases h : q = r
  · subst h
    rw [if_pos rfl]
    go_enter Tryd.func25, Tryd.ntmps25
    go_wp2_with fail
    go_quiet (fail)
    go_wp2_with fail
    go_ret
    exact ⟨rfl, below_drewN (Below.refl _ _) _⟩
  · rw [if_neg h]
    go_enter Tryd.func25, Tryd.ntmps25
    go_wp2_with fail
    go_quiet (fail)
    go_wp2_with fail
    go_ret
    exact ⟨rfl, below_drewN (Below.refl _ _) _⟩
set_option maxHeartbeats 2000000 in
set_option maxRecDepth 100000 in
theorem pass_ok (hT : Cel w B a nn r p cm q) (hq : 0 ≤ q ∧ q ≤ 1000) :
    Calls Tryd.prog 34 #[.pointer (some ⟨B, 0, none⟩), .int .i64 0] w fun e w' => e = .returned (.tuple #[.int .i64 (if q + 1 = r then 4 else 0), .int .i64 0]) ∧ Below w.heap.size (w.setCell ⟨B, 5, none⟩ (.int .i64 (q + 1))) w' := by
  have k5 := hT.c5
  have z5 := hT.fz 5
  have HA := Lib.hid (ahead_any B a nn r p cm (q + 1) _ (hT.setPsd (q + 1)))
  obtain ⟨x, hx⟩ : ∃ x, x = (if q + 1 = r then (4 : Int) else 0) := ⟨_, rfl⟩
  rw [← hx] at HA ⊢
  clear hT hx
  go_enter Tryd.func34, Tryd.ntmps34
  go_wp2_with fail
  with_reducible refine HA.out.mono ?_
  rintro e w1 ⟨rfl, hB1⟩
  go_wp2_with fail
  go_ret2
  exact ⟨rfl, by simpa using hB1⟩
set_option maxHeartbeats 2000000 in
set_option maxRecDepth 100000 in
theorem pass_no (w : World) :
    Calls Tryd.prog 34 #[.pointer (some ⟨B, 0, none⟩), .int .i64 81] w fun e w' => e = .returned (.tuple #[.int .i64 4, .int .i64 81]) ∧ w = w' := by
  go_enter Tryd.func34, Tryd.ntmps34
  go_wp2_with fail
  go_ret2
  exact ⟨rfl, rfl⟩
set_option maxHeartbeats 2000000 in
set_option maxRecDepth 100000 in
theorem arrive_yes (hT : Cel w B a nn r p cm q) (hgB : g ≠ B) (hbB : b ≠ B) (hG : GOk w) (hM : MemAt w g b n f c) (hn : n ≤ 4096) (ha : a = i) (hi : i < n) (hc : 0 ≤ c ∧ c ≤ 1000000) (hnn : 1 ≤ nn ∧ nn ≤ 8) (hcm : 0 ≤ cm ∧ cm ≤ 1001) :
    Calls Tryd.prog 33 #[.pointer (some ⟨B, 0, none⟩), .pointer (some ⟨g, 0, none⟩)] w fun e w' => e = .returned (.tuple #[.int .i64 (if f i = nn - 1 then 1 else 3), .int .i64 0]) ∧ StepQ g b n B (upd f i (inc (f i))) c a nn r p (cm + 1) q w w' := by
  have HA := Lib.hid (add_yes 1 i g b n f c w hG hM hn hi hc)
  have k0 := hT.c0
  have HT := Lib.hid hT
  have hw : IntKind.u32.wrap (nn - 1) = nn - 1 := by rw [IntKind.wrap_u32']; omega
  subst ha
  have hBg : B ≠ g := fun e => hgB e.symm
  have hBb : B ≠ b := fun e => hbB e.symm
  clear hG hM hn hc hT
  go_enter Tryd.func33, Tryd.ntmps33
  go_wp2_with fail
  with_reducible refine HA.out.mono ?_
  rintro e w1 ⟨rfl, hM1, hE1⟩
  have HT1 := Lib.hid (HT.out.else hE1 hgB hbB)
  have HM1 := Lib.hid hM1
  have HE1 := Lib.hid (chg_else (B := B) hE1)
  have z4 := HT1.out.fz 4
  have q1 := HT1.out.c1
  have q4 := HT1.out.c4
  clear hM1 hE1 k0
  by_cases hx : f i = nn - 1
  · go_wp2_with fail
    go_ret2
    rw [afterS3] at HM1
    exact ⟨by first | rfl | simp [hx], ⟨c + 1, by omega, Int.le_refl _, by first | exact HM1.out.setOut hBg hBb _ | (rw [← hx]; exact HM1.out.setOut hBg hBb _)⟩, HT1.out.setCame _, HE1.out.setB _⟩
  · go_wp2_with fail
    go_ret2
    rw [afterS3] at HM1
    exact ⟨by first | rfl | simp [hx], ⟨c + 1, by omega, Int.le_refl _, by first | exact HM1.out.setOut hBg hBb _ | (rw [← hx]; exact HM1.out.setOut hBg hBb _)⟩, HT1.out.setCame _, HE1.out.setB _⟩
set_option maxHeartbeats 2000000 in
set_option maxRecDepth 100000 in
theorem arrive_no (hT : Cel w B a nn r p cm q) (hG : GOk w) (hM : MemAt w g b n f c) (hn : n ≤ 4096) (hi : ¬ (0 ≤ a ∧ a < n)) :
    Calls Tryd.prog 33 #[.pointer (some ⟨B, 0, none⟩), .pointer (some ⟨g, 0, none⟩)] w fun e w' => e = .returned (.tuple #[.int .i64 4, .int .i64 81]) ∧ StepQ g b n B f c a nn r p cm q w w' := by
  have HA := Lib.hid (add_no 1 a g b n f c w hG hM hn hi)
  have k0 := hT.c0
  have HT := Lib.hid hT
  have HM := Lib.hid hM
  clear hG hM hn hT hi
  go_enter Tryd.func33, Tryd.ntmps33
  go_wp2_with fail
  with_reducible refine HA.out.mono ?_
  rintro e w1 ⟨rfl, hB1⟩
  have HT1 := Lib.hid (HT.out.keep hB1)
  have HM1 := Lib.hid (HM.out.keep hB1)
  have HE1 := Lib.hid (Chg.of_below (S := ST g b B) hB1)
  clear hB1 k0
  go_wp2_with fail
  go_ret2
  exact ⟨rfl, ⟨c, Int.le_refl _, by omega, HM1.out⟩, HT1.out, HE1.out⟩
set_option maxHeartbeats 2000000 in
set_option maxRecDepth 100000 in
theorem check_yes (hT : Cel w B a nn r p cm q) (hgB : g ≠ B) (hbB : b ≠ B) (hG : GOk w) (hM : MemAt w g b n f c) (hn : n ≤ 4096) (ha : a + 1 = i) (hi : i < n) (hc : 0 ≤ c ∧ c ≤ 1000000) (hq : 0 ≤ q ∧ q ≤ 1000) :
    Calls Tryd.prog 36 #[.pointer (some ⟨B, 0, none⟩), .pointer (some ⟨g, 0, none⟩)] w fun e w' =>
      e = .returned (.tuple #[.int .i64 (if f i = (q + 1) % 2 then (if q + 1 = r then 4 else 0) else 3), .int .i64 0]) ∧ StepQ g b n B f c a nn r p cm (if f i = (q + 1) % 2 then q + 1 else q) w w' := by
  have HA := Lib.hid (load_yes i g b n f c w hG hM hn hi hc)
  have k0 := hT.c0
  have HT := Lib.hid hT
  rw [show a = (i : Int) - 1 by omega] at k0
  have hBg : B ≠ g := fun e => hgB e.symm
  have hBb : B ≠ b := fun e => hbB e.symm
  have HQ := Lib.hid hq
  obtain ⟨x, hxx⟩ : ∃ x, x = (if q + 1 = r then (4 : Int) else 0) := ⟨_, rfl⟩
  rw [← hxx]
  have HX := Lib.hid hxx
  clear hG hM hc hT hq hxx
  go_enter Tryd.func36, Tryd.ntmps36
  go_wp2_with fail
  with_reducible refine HA.out.mono ?_
  rintro e w1 ⟨rfl, hM1, hE1⟩
  have HT1 := Lib.hid (HT.out.else hE1 hgB hbB)
  have hM2 : MemAt w1 g b n f (c + 1) := hM1.congr fun j _ => by rw [afterS0]; exact setF_same f i j
  have HM1 := Lib.hid hM2
  have HE1 := Lib.hid (chg_else (B := B) hE1)
  have HS := Lib.hid (sense_any B a nn r p cm q w1 HT1.out HQ.out)
  have HP := Lib.hid (pass_ok B a nn r p cm q w1 HT1.out HQ.out)
  rw [← HX.out] at HP
  clear hM1 hM2 hE1 k0
  by_cases hx : f i = (q + 1) % 2
  · go_wp2_with fail
    with_reducible refine HS.out.mono ?_
    rintro e w2 ⟨rfl, rfl⟩
    go_wp2_with fail
    with_reducible refine HP.out.mono ?_
    rintro e w2 ⟨rfl, hB2⟩
    have HB2 := Lib.hid hB2
    clear hB2
    go_wp2_with fail
    go_ret2
    refine ⟨by first | rfl | simp [hx], ⟨c + 1, by omega, Int.le_refl _, (HM1.out.setOut hBg hBb _).keep (by simpa using HB2.out)⟩, ?_, (HE1.out.setB _).trans (Chg.of_below (by simpa using HB2.out))⟩
    try rw [if_pos hx]
    exact (HT1.out.setPsd _).keep (by simpa using HB2.out)
  · go_wp2_with fail
    with_reducible refine HS.out.mono ?_
    rintro e w2 ⟨rfl, rfl⟩
    go_wp2_with fail
    go_ret2
    refine ⟨by first | rfl | simp [hx], ⟨c + 1, by omega, Int.le_refl _, HM1.out⟩, ?_, HE1.out⟩
    first | exact HT1.out | (rw [if_neg hx]; exact HT1.out)
set_option maxHeartbeats 2000000 in
set_option maxRecDepth 100000 in
theorem check_no (hT : Cel w B a nn r p cm q) (hG : GOk w) (hM : MemAt w g b n f c) (hn : n ≤ 4096) (hi : ¬ (0 ≤ a + 1 ∧ a + 1 < n)) (hq : 0 ≤ q ∧ q ≤ 1000) (har : -1000 ≤ a ∧ a ≤ 1000) :
    Calls Tryd.prog 36 #[.pointer (some ⟨B, 0, none⟩), .pointer (some ⟨g, 0, none⟩)] w fun e w' => ∃ x : Int, e = .returned (.tuple #[.int .i64 x, .int .i64 81]) ∧ StepQ g b n B f c a nn r p cm q w w' := by
  have HA := Lib.hid (load_no (a + 1) g b n f c w hG hM hn hi)
  have k0 := hT.c0
  have HT := Lib.hid hT
  have HM := Lib.hid hM
  have HQ := Lib.hid hq
  obtain ⟨r0, r1⟩ := har
  clear hG hM hn hT hi hq
  go_enter Tryd.func36, Tryd.ntmps36
  go_wp2_with fail
  with_reducible refine HA.out.mono ?_
  rintro e w1 ⟨rfl, hB1⟩
  have HT1 := Lib.hid (HT.out.keep hB1)
  have HM1 := Lib.hid (HM.out.keep hB1)
  have HE1 := Lib.hid (Chg.of_below (S := ST g b B) hB1)
  have HS := Lib.hid (sense_any B a nn r p cm q w1 HT1.out HQ.out)
  have HP := Lib.hid (pass_no B w1)
  clear hB1 k0
  by_cases hx : 0 = (q + 1) % 2
  · go_wp2_with fail
    with_reducible refine HS.out.mono ?_
    rintro e w2 ⟨rfl, rfl⟩
    go_wp2_with fail
    with_reducible refine HP.out.mono ?_
    rintro e w2 ⟨rfl, rfl⟩
    go_wp2_with fail
    go_ret2
    exact ⟨4, rfl, ⟨c, Int.le_refl _, by omega, HM1.out⟩, HT1.out, HE1.out⟩
  · go_wp2_with fail
    with_reducible refine HS.out.mono ?_
    rintro e w2 ⟨rfl, rfl⟩
    go_wp2_with fail
    go_ret2
    exact ⟨3, rfl, ⟨c, Int.le_refl _, by omega, HM1.out⟩, HT1.out, HE1.out⟩
end
end Go.Proofs.YtcjhbmkpfclmfaaDoor
