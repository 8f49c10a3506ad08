/-
  Takers in memory; their five steps.
-/
import Derived.Test.YtdegfadahlcgnaaDoorChg
namespace Go.Proofs.YtdegfadahlcgnaaDoor
open Go.RowKit

/-- A taker in memory, in block B. -/
structure TakerAt (w : World) (B : Nat) (t : Tk) : Prop where
  c0 : w.cell? ⟨B, 0, none⟩ = some (.int .i64 t.at')
  c1 : w.cell? ⟨B, 1, none⟩ = some (.int .i64 t.cl)
  c2 : w.cell? ⟨B, 2, none⟩ = some (.int .i64 t.left)
  c3 : w.cell? ⟨B, 3, none⟩ = some (.int .i64 t.ph)
  c4 : w.cell? ⟨B, 4, none⟩ = some (.int .u32 t.tk)
  c5 : w.cell? ⟨B, 5, none⟩ = some (.int .u32 t.ld)
  fz : ∀ j, w.frozen? ⟨B, j, none⟩ = false
  ub : 0 ≤ t.left ∧ t.left ≤ 1000
  ar : -1000 ≤ t.at' ∧ t.at' ≤ 1000
  pl : t.ph ≤ 5 ∧ (t.ph < 5 → 1 ≤ t.left)
theorem TakerAt.same {w w' : World} {B : Nat} {t : Tk} (h : TakerAt w B t) (e : w'.heap[B]? = w.heap[B]?) : TakerAt w' B t :=
  ⟨by rw [World.cell?_of_block (w := w) e]; exact h.c0, by rw [World.cell?_of_block (w := w) e]; exact h.c1, by rw [World.cell?_of_block (w := w) e]; exact h.c2, by rw [World.cell?_of_block (w := w) e]; exact h.c3, by rw [World.cell?_of_block (w := w) e]; exact h.c4, by rw [World.cell?_of_block (w := w) e]; exact h.c5,
   fun j => by rw [World.frozen?_of_block (w := w) e]; exact h.fz j, h.ub, h.ar, h.pl⟩
theorem TakerAt.lt {w : World} {B : Nat} {t : Tk} (h : TakerAt w B t) : B < w.heap.size := cell_lt h.c0
theorem TakerAt.keep {w w' : World} {B : Nat} {t : Tk} (h : TakerAt w B t) (hB : Below w.heap.size w w') : TakerAt w' B t := h.same (hB.block _ h.lt)
theorem TakerAt.else {w w' : World} {B g b : Nat} {t : Tk} (h : TakerAt w B t) (hE : Else g b w w') (hg : g ≠ B) (hb : b ≠ B) : TakerAt w' B t := h.same (hE.block _ h.lt (fun e => hg e.symm) (fun e => hb e.symm))
theorem TakerAt.drew {w : World} {B : Nat} {t : Tk} (h : TakerAt w B t) : TakerAt w.drew B t := ⟨h.c0, h.c1, h.c2, h.c3, h.c4, h.c5, h.fz, h.ub, h.ar, h.pl⟩
/-- The same cells are a taker that differs only in what memory doesn't hold. -/
theorem TakerAt.as {w : World} {B : Nat} {t t' : Tk} (h : TakerAt w B t) (e0 : t'.at' = t.at') (e1 : t'.cl = t.cl) (e2 : t'.left = t.left) (e3 : t'.ph = t.ph) (e4 : t'.tk = t.tk) (e5 : t'.ld = t.ld) : TakerAt w B t' :=
  ⟨by rw [e0]; exact h.c0, by rw [e1]; exact h.c1, by rw [e2]; exact h.c2, by rw [e3]; exact h.c3, by rw [e4]; exact h.c4, by rw [e5]; exact h.c5, h.fz, by rw [e2]; exact h.ub, by rw [e0]; exact h.ar, by rw [e2, e3]; exact h.pl⟩
theorem TakerAt.setTk {w : World} {B : Nat} {t : Tk} (h : TakerAt w B t) (x : Int) : TakerAt (w.setCell ⟨B, 4, none⟩ (.int .u32 x)) B { t with tk := x } :=
  ⟨by rw [World.cell?_setCell_other _ _ _ _ (by simp)]; exact h.c0, by rw [World.cell?_setCell_other _ _ _ _ (by simp)]; exact h.c1, by rw [World.cell?_setCell_other _ _ _ _ (by simp)]; exact h.c2, by rw [World.cell?_setCell_other _ _ _ _ (by simp)]; exact h.c3, World.cell?_setCell_same _ _ _ h.c4, by rw [World.cell?_setCell_other _ _ _ _ (by simp)]; exact h.c5, fun j => by rw [World.frozen?_setCell]; exact h.fz j, h.ub, h.ar, h.pl⟩
theorem TakerAt.setLd {w : World} {B : Nat} {t : Tk} (h : TakerAt w B t) (x : Int) : TakerAt (w.setCell ⟨B, 5, none⟩ (.int .u32 x)) B { t with ld := x } :=
  ⟨by rw [World.cell?_setCell_other _ _ _ _ (by simp)]; exact h.c0, by rw [World.cell?_setCell_other _ _ _ _ (by simp)]; exact h.c1, by rw [World.cell?_setCell_other _ _ _ _ (by simp)]; exact h.c2, by rw [World.cell?_setCell_other _ _ _ _ (by simp)]; exact h.c3, by rw [World.cell?_setCell_other _ _ _ _ (by simp)]; exact h.c4, World.cell?_setCell_same _ _ _ h.c5, fun j => by rw [World.frozen?_setCell]; exact h.fz j, h.ub, h.ar, h.pl⟩
theorem TakerAt.setPh {w : World} {B : Nat} {t : Tk} (h : TakerAt w B t) (p : Nat) (hp : p ≤ 5 ∧ (p < 5 → 1 ≤ t.left)) : TakerAt (w.setCell ⟨B, 3, none⟩ (.int .i64 p)) B { t with ph := p } :=
  ⟨by rw [World.cell?_setCell_other _ _ _ _ (by simp)]; exact h.c0, by rw [World.cell?_setCell_other _ _ _ _ (by simp)]; exact h.c1, by rw [World.cell?_setCell_other _ _ _ _ (by simp)]; exact h.c2, World.cell?_setCell_same _ _ _ h.c3, by rw [World.cell?_setCell_other _ _ _ _ (by simp)]; exact h.c4, by rw [World.cell?_setCell_other _ _ _ _ (by simp)]; exact h.c5, fun j => by rw [World.frozen?_setCell]; exact h.fz j, h.ub, h.ar, hp⟩
/-- One time less, before the next step is set: the fields alone. -/
structure TakerPre (w : World) (B : Nat) (p0 : Int) (t : Tk) : Prop where
  c0 : w.cell? ⟨B, 0, none⟩ = some (.int .i64 t.at')
  c1 : w.cell? ⟨B, 1, none⟩ = some (.int .i64 t.cl)
  c2 : w.cell? ⟨B, 2, none⟩ = some (.int .i64 t.left)
  c3 : w.cell? ⟨B, 3, none⟩ = some (.int .i64 p0)
  c4 : w.cell? ⟨B, 4, none⟩ = some (.int .u32 t.tk)
  c5 : w.cell? ⟨B, 5, none⟩ = some (.int .u32 t.ld)
  fz : ∀ j, w.frozen? ⟨B, j, none⟩ = false
  ub : 0 ≤ t.left ∧ t.left ≤ 1000
  ar : -1000 ≤ t.at' ∧ t.at' ≤ 1000
theorem TakerAt.pre {w : World} {B : Nat} {t : Tk} (h : TakerAt w B t) (p : Nat) : TakerPre w B t.ph { t with ph := p } := ⟨h.c0, h.c1, h.c2, h.c3, h.c4, h.c5, h.fz, h.ub, h.ar⟩
theorem TakerAt.lessPre {w : World} {B : Nat} {t : Tk} (h : TakerAt w B t) (p : Nat) (h1 : 1 ≤ t.left) : TakerPre (w.setCell ⟨B, 2, none⟩ (.int .i64 (t.left - 1))) B t.ph { t with left := t.left - 1, ph := p } :=
  ⟨by rw [World.cell?_setCell_other _ _ _ _ (by simp)]; exact h.c0, by rw [World.cell?_setCell_other _ _ _ _ (by simp)]; exact h.c1, World.cell?_setCell_same _ _ _ h.c2, by rw [World.cell?_setCell_other _ _ _ _ (by simp)]; exact h.c3, by rw [World.cell?_setCell_other _ _ _ _ (by simp)]; exact h.c4, by rw [World.cell?_setCell_other _ _ _ _ (by simp)]; exact h.c5,
   fun j => by rw [World.frozen?_setCell]; exact h.fz j, by have := h.ub; show 0 ≤ t.left - 1 ∧ t.left - 1 ≤ 1000; omega, h.ar⟩
theorem TakerPre.set {w : World} {B : Nat} {p0 : Int} {t : Tk} (h : TakerPre w B p0 t) (hp : t.ph ≤ 5 ∧ (t.ph < 5 → 1 ≤ t.left)) : TakerAt (w.setCell ⟨B, 3, none⟩ (.int .i64 t.ph)) B t :=
  ⟨by rw [World.cell?_setCell_other _ _ _ _ (by simp)]; exact h.c0, by rw [World.cell?_setCell_other _ _ _ _ (by simp)]; exact h.c1, by rw [World.cell?_setCell_other _ _ _ _ (by simp)]; exact h.c2, World.cell?_setCell_same _ _ _ h.c3, by rw [World.cell?_setCell_other _ _ _ _ (by simp)]; exact h.c4, by rw [World.cell?_setCell_other _ _ _ _ (by simp)]; exact h.c5,
   fun j => by rw [World.frozen?_setCell]; exact h.fz j, h.ub, h.ar, hp⟩
/-- The blocks that a step may change. -/
def ST (g b B : Nat) (k : Nat) : Prop := k = g ∨ k = b ∨ k = B
theorem chg_else {g b B : Nat} {w w' : World} (h : Else g b w w') : Chg (ST g b B) w w' := (Chg.of_else h).mono fun _ hk => hk.elim .inl fun e => .inr (.inl e)
theorem Chg.setB {g b B j : Nat} {w w' : World} (h : Chg (ST g b B) w w') (v : Value) : Chg (ST g b B) w (w'.setCell ⟨B, j, none⟩ v) := h.set (a := ⟨B, j, none⟩) (.inr (.inr rfl)) v
theorem afterS0 (x : Int) : afterS 0 0 0 x = x := rfl
theorem afterS1 (v x : Int) : afterS 1 0 v x = v := rfl
theorem afterS3 (x : Int) : afterS 3 0 1 x = inc x := inc_wrap x
theorem setF_upd' (f : Nat → Int) (i : Nat) (v : Int) : setF f i v = upd f i v := rfl
/-- What a step leaves: the words, the taker, the rest. -/
def StepQ (g b n B : Nat) (f : Nat → Int) (c : Int) (p0 : Int) (t : Tk) (w w' : World) : Prop := (∃ c', c ≤ c' ∧ c' ≤ c + 1 ∧ MemAt w' g b n f c') ∧ TakerPre w' B p0 t ∧ Chg (ST g b B) w w'
theorem else_drew {g b : Nat} {w w' : World} (h : Else g b w.drew w') : Else g b w w' := ⟨h.os, h.tape, h.output, h.size, h.block⟩
theorem below_drew {w w' : World} (h : Below w.drew.heap.size w.drew w') : Below w.heap.size w w' := ⟨h.os, h.tape, h.output, h.size, h.block⟩
section
variable (i B g b n : Nat) (t : Tk) (f : Nat → Int) (c : Int) (w : World)
set_option maxHeartbeats 2000000 in
set_option maxRecDepth 100000 in
theorem draw_yes (hT : TakerAt w B t) (hgB : g ≠ B) (hbB : b ≠ B) (hG : GOk w) (hM : MemAt w g b n f c) (hn : n ≤ 4096) (ha : t.at' = i) (hi : i < n) (hc : 0 ≤ c ∧ c ≤ 1000000):
    Calls Tryd.prog 38 #[.pointer (some ⟨B, 0, none⟩), .pointer (some ⟨g, 0, none⟩)] w fun e w' => e = .returned (.tuple #[.int .i64 1, .int .i64 0]) ∧ StepQ g b n B (upd f i (inc (f i))) c t.ph { t with tk := f i, ph := 1 } w w' := by
  have HA := Lib.hid (add_yes 1 i g b n f c w hG hM hn hi hc)
  have k0 := hT.c0
  have k1 := hT.c1
  have k2 := hT.c2
  have k4 := hT.c4
  have k5 := hT.c5
  obtain ⟨r0, r1⟩ := hT.ar
  have HT := Lib.hid hT
  rw [ha] at k0
  have hBg : B ≠ g := fun e => hgB e.symm
  have hBb : B ≠ b := fun e => hbB e.symm
  clear hG hM hn hc hT
  go_enter Tryd.func38, Tryd.ntmps38
  go_wp2_with fail
  with_reducible refine HA.out.mono ?_
  rintro e w1 ⟨rfl, hM1, hE1⟩
  have HT1 := Lib.hid (HT.out.else hE1 hgB hbB)
  have HM1 := Lib.hid hM1
  have HE1 := Lib.hid (chg_else (B := B) hE1)
  have z2 := HT1.out.fz 2
  have z4 := HT1.out.fz 4
  have z5 := HT1.out.fz 5
  have q0 := HT1.out.c0
  have q1 := HT1.out.c1
  have q2 := HT1.out.c2
  have q4 := HT1.out.c4
  have q5 := HT1.out.c5
  clear hM1 hE1 k0 k1 k2 k4 k5
  go_wp2_with fail
  go_ret2
  rw [afterS3] at HM1
  exact ⟨rfl, ⟨c + 1, by omega, Int.le_refl _, HM1.out.setOut hBg hBb _⟩, (HT1.out.setTk _).pre 1, HE1.out.setB _⟩
set_option maxHeartbeats 2000000 in
set_option maxRecDepth 100000 in
theorem draw_no (hT : TakerAt w B t) (hgB : g ≠ B) (hbB : b ≠ B) (hG : GOk w) (hM : MemAt w g b n f c) (hn : n ≤ 4096) (hi : ¬ (0 ≤ t.at' ∧ t.at' < n)):
    Calls Tryd.prog 38 #[.pointer (some ⟨B, 0, none⟩), .pointer (some ⟨g, 0, none⟩)] w fun e w' => e = .returned (.tuple #[.int .i64 1, .int .i64 81]) ∧ StepQ g b n B f c t.ph { t with ph := 5 } w w' := by
  have HA := Lib.hid (add_no 1 t.at' g b n f c w hG hM hn hi)
  have k0 := hT.c0
  have k1 := hT.c1
  have k2 := hT.c2
  have k4 := hT.c4
  have k5 := hT.c5
  obtain ⟨r0, r1⟩ := hT.ar
  have HT := Lib.hid hT
  have HM := Lib.hid hM
  have hBg : B ≠ g := fun e => hgB e.symm
  have hBb : B ≠ b := fun e => hbB e.symm
  clear hG hM hn hT hi
  go_enter Tryd.func38, Tryd.ntmps38
  go_wp2_with fail
  with_reducible refine HA.out.mono ?_
  rintro e w1 ⟨rfl, hB1⟩
  have HT1 := Lib.hid (HT.out.keep hB1)
  have HM1 := Lib.hid (HM.out.keep hB1)
  have HE1 := Lib.hid (Chg.of_below (S := ST g b B) hB1)
  have z2 := HT1.out.fz 2
  have z4 := HT1.out.fz 4
  have z5 := HT1.out.fz 5
  have q0 := HT1.out.c0
  have q1 := HT1.out.c1
  have q2 := HT1.out.c2
  have q4 := HT1.out.c4
  have q5 := HT1.out.c5
  clear hB1 k0 k1 k2 k4 k5
  go_wp2_with fail
  go_ret2
  exact ⟨rfl, ⟨c, Int.le_refl _, by omega, HM1.out⟩, HT1.out.pre 5, HE1.out⟩
set_option maxHeartbeats 2000000 in
set_option maxRecDepth 100000 in
theorem check_yes (hT : TakerAt w B t) (hgB : g ≠ B) (hbB : b ≠ B) (hG : GOk w) (hM : MemAt w g b n f c) (hn : n ≤ 4096) (ha : t.at' + 1 = i) (hi : i < n) (hc : 0 ≤ c ∧ c ≤ 1000000):
    Calls Tryd.prog 39 #[.pointer (some ⟨B, 0, none⟩), .pointer (some ⟨g, 0, none⟩)] w fun e w' => e = .returned (.tuple #[.int .i64 ((if f i = t.tk then 2 else 1 : Nat) : Int), .int .i64 0]) ∧ StepQ g b n B f c t.ph { t with ph := if f i = t.tk then 2 else 1 } w w' := by
  have HA := Lib.hid (load_yes i g b n f c w hG hM hn hi hc)
  have k0 := hT.c0
  have k1 := hT.c1
  have k2 := hT.c2
  have k4 := hT.c4
  have k5 := hT.c5
  obtain ⟨r0, r1⟩ := hT.ar
  have HT := Lib.hid hT
  rw [show t.at' = (i : Int) - 1 by omega] at k0
  have hBg : B ≠ g := fun e => hgB e.symm
  have hBb : B ≠ b := fun e => hbB e.symm
  clear hG hM hn hc hT
  go_enter Tryd.func39, Tryd.ntmps39
  go_wp2_with fail
  with_reducible refine HA.out.mono ?_
  rintro e w1 ⟨rfl, hM1, hE1⟩
  have HT1 := Lib.hid (HT.out.else hE1 hgB hbB)
  have HM1 := Lib.hid hM1
  have HE1 := Lib.hid (chg_else (B := B) hE1)
  have z2 := HT1.out.fz 2
  have z4 := HT1.out.fz 4
  have z5 := HT1.out.fz 5
  have q0 := HT1.out.c0
  have q1 := HT1.out.c1
  have q2 := HT1.out.c2
  have q4 := HT1.out.c4
  have q5 := HT1.out.c5
  clear hM1 hE1 k0 k1 k2 k4 k5
  by_cases hx : f i = t.tk
  · go_wp2_with fail
    go_ret2
    exact ⟨rfl, ⟨c + 1, by omega, Int.le_refl _, HM1.out.congr fun j _ => by rw [afterS0]; exact setF_same f i j⟩, HT1.out.pre 2, HE1.out⟩
  · go_wp2_with fail
    go_ret2
    exact ⟨rfl, ⟨c + 1, by omega, Int.le_refl _, HM1.out.congr fun j _ => by rw [afterS0]; exact setF_same f i j⟩, HT1.out.pre 1, HE1.out⟩
set_option maxHeartbeats 2000000 in
set_option maxRecDepth 100000 in
theorem check_no (hT : TakerAt w B t) (hgB : g ≠ B) (hbB : b ≠ B) (hG : GOk w) (hM : MemAt w g b n f c) (hn : n ≤ 4096) (hi : ¬ (0 ≤ (t.at' + 1) ∧ (t.at' + 1) < n)):
    Calls Tryd.prog 39 #[.pointer (some ⟨B, 0, none⟩), .pointer (some ⟨g, 0, none⟩)] w fun e w' => ∃ p : Int, e = .returned (.tuple #[.int .i64 p, .int .i64 81]) ∧ StepQ g b n B f c t.ph { t with ph := 5 } w w' := by
  have HA := Lib.hid (load_no (t.at' + 1) g b n f c w hG hM hn hi)
  have k0 := hT.c0
  have k1 := hT.c1
  have k2 := hT.c2
  have k4 := hT.c4
  have k5 := hT.c5
  obtain ⟨r0, r1⟩ := hT.ar
  have HT := Lib.hid hT
  have HM := Lib.hid hM
  have hBg : B ≠ g := fun e => hgB e.symm
  have hBb : B ≠ b := fun e => hbB e.symm
  clear hG hM hn hT hi
  go_enter Tryd.func39, Tryd.ntmps39
  go_wp2_with fail
  with_reducible refine HA.out.mono ?_
  rintro e w1 ⟨rfl, hB1⟩
  have HT1 := Lib.hid (HT.out.keep hB1)
  have HM1 := Lib.hid (HM.out.keep hB1)
  have HE1 := Lib.hid (Chg.of_below (S := ST g b B) hB1)
  have z2 := HT1.out.fz 2
  have z4 := HT1.out.fz 4
  have z5 := HT1.out.fz 5
  have q0 := HT1.out.c0
  have q1 := HT1.out.c1
  have q2 := HT1.out.c2
  have q4 := HT1.out.c4
  have q5 := HT1.out.c5
  clear hB1 k0 k1 k2 k4 k5
  by_cases hx : 0 = t.tk
  · go_wp2_with fail
    go_ret2
    exact ⟨2, rfl, ⟨c, Int.le_refl _, by omega, HM1.out⟩, HT1.out.pre 5, HE1.out⟩
  · go_wp2_with fail
    go_ret2
    exact ⟨1, rfl, ⟨c, Int.le_refl _, by omega, HM1.out⟩, HT1.out.pre 5, HE1.out⟩
set_option maxHeartbeats 2000000 in
set_option maxRecDepth 100000 in
theorem loads_yes (hT : TakerAt w B t) (hgB : g ≠ B) (hbB : b ≠ B) (hG : GOk w) (hM : MemAt w g b n f c) (hn : n ≤ 4096) (ha : t.cl = i) (hi : i < n) (hc : 0 ≤ c ∧ c ≤ 1000000):
    Calls Tryd.prog 40 #[.pointer (some ⟨B, 0, none⟩), .pointer (some ⟨g, 0, none⟩)] w fun e w' => e = .returned (.tuple #[.int .i64 3, .int .i64 0]) ∧ StepQ g b n B f c t.ph { t with ld := f i, ph := 3 } w w' := by
  have HA := Lib.hid (load_yes i g b n f c w hG hM hn hi hc)
  have k0 := hT.c0
  have k1 := hT.c1
  have k2 := hT.c2
  have k4 := hT.c4
  have k5 := hT.c5
  obtain ⟨r0, r1⟩ := hT.ar
  have HT := Lib.hid hT
  rw [ha] at k1
  have hBg : B ≠ g := fun e => hgB e.symm
  have hBb : B ≠ b := fun e => hbB e.symm
  clear hG hM hn hc hT
  go_enter Tryd.func40, Tryd.ntmps40
  go_wp2_with fail
  with_reducible refine HA.out.mono ?_
  rintro e w1 ⟨rfl, hM1, hE1⟩
  have HT1 := Lib.hid (HT.out.else hE1 hgB hbB)
  have HM1 := Lib.hid hM1
  have HE1 := Lib.hid (chg_else (B := B) hE1)
  have z2 := HT1.out.fz 2
  have z4 := HT1.out.fz 4
  have z5 := HT1.out.fz 5
  have q0 := HT1.out.c0
  have q1 := HT1.out.c1
  have q2 := HT1.out.c2
  have q4 := HT1.out.c4
  have q5 := HT1.out.c5
  clear hM1 hE1 k0 k1 k2 k4 k5
  go_wp2_with fail
  go_ret2
  exact ⟨rfl, ⟨c + 1, by omega, Int.le_refl _, (HM1.out.congr fun j _ => setF_same f i j).setOut hBg hBb _⟩, (HT1.out.setLd _).pre 3, HE1.out.setB _⟩
set_option maxHeartbeats 2000000 in
set_option maxRecDepth 100000 in
theorem loads_no (hT : TakerAt w B t) (hgB : g ≠ B) (hbB : b ≠ B) (hG : GOk w) (hM : MemAt w g b n f c) (hn : n ≤ 4096) (hi : ¬ (0 ≤ t.cl ∧ t.cl < n)):
    Calls Tryd.prog 40 #[.pointer (some ⟨B, 0, none⟩), .pointer (some ⟨g, 0, none⟩)] w fun e w' => e = .returned (.tuple #[.int .i64 3, .int .i64 81]) ∧ StepQ g b n B f c t.ph { t with ld := 0, ph := 5 } w w' := by
  have HA := Lib.hid (load_no t.cl g b n f c w hG hM hn hi)
  have k0 := hT.c0
  have k1 := hT.c1
  have k2 := hT.c2
  have k4 := hT.c4
  have k5 := hT.c5
  obtain ⟨r0, r1⟩ := hT.ar
  have HT := Lib.hid hT
  have HM := Lib.hid hM
  have hBg : B ≠ g := fun e => hgB e.symm
  have hBb : B ≠ b := fun e => hbB e.symm
  clear hG hM hn hT hi
  go_enter Tryd.func40, Tryd.ntmps40
  go_wp2_with fail
  with_reducible refine HA.out.mono ?_
  rintro e w1 ⟨rfl, hB1⟩
  have HT1 := Lib.hid (HT.out.keep hB1)
  have HM1 := Lib.hid (HM.out.keep hB1)
  have HE1 := Lib.hid (Chg.of_below (S := ST g b B) hB1)
  have z2 := HT1.out.fz 2
  have z4 := HT1.out.fz 4
  have z5 := HT1.out.fz 5
  have q0 := HT1.out.c0
  have q1 := HT1.out.c1
  have q2 := HT1.out.c2
  have q4 := HT1.out.c4
  have q5 := HT1.out.c5
  clear hB1 k0 k1 k2 k4 k5
  go_wp2_with fail
  go_ret2
  exact ⟨rfl, ⟨c, Int.le_refl _, by omega, HM1.out.setOut hBg hBb _⟩, (HT1.out.setLd _).pre 5, HE1.out.setB _⟩
set_option maxHeartbeats 2000000 in
set_option maxRecDepth 100000 in
theorem stores_yes (hT : TakerAt w B t) (hgB : g ≠ B) (hbB : b ≠ B) (hG : GOk w) (hM : MemAt w g b n f c) (hn : n ≤ 4096) (ha : t.cl = i) (hi : i < n) (hc : 0 ≤ c ∧ c ≤ 1000000):
    Calls Tryd.prog 41 #[.pointer (some ⟨B, 0, none⟩), .pointer (some ⟨g, 0, none⟩)] w fun e w' => e = .returned (.tuple #[.int .i64 4, .int .i64 0]) ∧ StepQ g b n B (upd f i (inc t.ld)) c t.ph { t with ph := 4 } w w' := by
  have HA := Lib.hid (fun W (hB : Below w.heap.size w W) => store_yes (inc t.ld) i g b n f c W (hG.keep hB) (hM.keep hB) hn hi hc)
  have k0 := hT.c0
  have k1 := hT.c1
  have k2 := hT.c2
  have k4 := hT.c4
  have k5 := hT.c5
  obtain ⟨r0, r1⟩ := hT.ar
  have HT := Lib.hid hT
  rw [ha] at k1
  simp only [inc] at HA
  have hBg : B ≠ g := fun e => hgB e.symm
  have hBb : B ≠ b := fun e => hbB e.symm
  clear hG hM hn hc hT
  go_enter Tryd.func41, Tryd.ntmps41
  go_wp2_with fail
  go_region_held3 (fun w' => w'.cell? ⟨B, 0, none⟩ = some (.int .i64 t.at') ∧ w'.cell? ⟨B, 1, none⟩ = some (.int .i64 i) ∧ w'.cell? ⟨B, 4, none⟩ = some (.int .u32 t.tk) ∧ w'.cell? ⟨B, 5, none⟩ = some (.int .u32 t.ld)) (go_keep)
    (first
      | (go_at_call 11
         refine (HA.out _ ((Below.refl _ _).drew)).mono ?_
         rintro e w1 ⟨rfl, hM1, hE1⟩
         have HT1 := Lib.hid (HT.out.else (else_drew hE1) hgB hbB)
         have HM1 := Lib.hid hM1
         have HE1 := Lib.hid (chg_else (B := B) (else_drew hE1))
         have z2 := HT1.out.fz 2
         have z4 := HT1.out.fz 4
         have z5 := HT1.out.fz 5
         have q0 := HT1.out.c0
         have q1 := HT1.out.c1
         have q2 := HT1.out.c2
         have q4 := HT1.out.c4
         have q5 := HT1.out.c5
         clear hM1 hE1))
  go_wp2_with fail
  go_ret2
  exact ⟨rfl, ⟨c + 1, by omega, Int.le_refl _, HM1.out⟩, HT1.out.pre 4, HE1.out⟩
set_option maxHeartbeats 2000000 in
set_option maxRecDepth 100000 in
theorem stores_no (hT : TakerAt w B t) (hgB : g ≠ B) (hbB : b ≠ B) (hG : GOk w) (hM : MemAt w g b n f c) (hn : n ≤ 4096) (hi : ¬ (0 ≤ t.cl ∧ t.cl < n)):
    Calls Tryd.prog 41 #[.pointer (some ⟨B, 0, none⟩), .pointer (some ⟨g, 0, none⟩)] w fun e w' => e = .returned (.tuple #[.int .i64 4, .int .i64 81]) ∧ StepQ g b n B f c t.ph { t with ph := 5 } w w' := by
  have HA := Lib.hid (fun W (hB : Below w.heap.size w W) => store_no (inc t.ld) t.cl g b n f c W (hG.keep hB) (hM.keep hB) hn hi)
  have k0 := hT.c0
  have k1 := hT.c1
  have k2 := hT.c2
  have k4 := hT.c4
  have k5 := hT.c5
  obtain ⟨r0, r1⟩ := hT.ar
  have HT := Lib.hid hT
  simp only [inc] at HA
  have HM := Lib.hid hM
  have hBg : B ≠ g := fun e => hgB e.symm
  have hBb : B ≠ b := fun e => hbB e.symm
  clear hG hM hn hT hi
  go_enter Tryd.func41, Tryd.ntmps41
  go_wp2_with fail
  go_region_held3 (fun w' => w'.cell? ⟨B, 0, none⟩ = some (.int .i64 t.at') ∧ w'.cell? ⟨B, 1, none⟩ = some (.int .i64 t.cl) ∧ w'.cell? ⟨B, 4, none⟩ = some (.int .u32 t.tk) ∧ w'.cell? ⟨B, 5, none⟩ = some (.int .u32 t.ld)) (go_keep)
    (first
      | (go_at_call 11
         refine (HA.out _ ((Below.refl _ _).drew)).mono ?_
         rintro e w1 ⟨rfl, hB1⟩
         have HT1 := Lib.hid (HT.out.keep (below_drew hB1))
         have HM1 := Lib.hid (HM.out.keep (below_drew hB1))
         have HE1 := Lib.hid (Chg.of_below (S := ST g b B) (below_drew hB1))
         have z2 := HT1.out.fz 2
         have z4 := HT1.out.fz 4
         have z5 := HT1.out.fz 5
         have q0 := HT1.out.c0
         have q1 := HT1.out.c1
         have q2 := HT1.out.c2
         have q4 := HT1.out.c4
         have q5 := HT1.out.c5
         clear hB1))
  go_wp2_with fail
  go_ret2
  exact ⟨rfl, ⟨c, Int.le_refl _, by omega, HM1.out⟩, HT1.out.pre 5, HE1.out⟩
set_option maxHeartbeats 2000000 in
set_option maxRecDepth 100000 in
theorem release_yes (hT : TakerAt w B t) (hgB : g ≠ B) (hbB : b ≠ B) (hG : GOk w) (hM : MemAt w g b n f c) (hn : n ≤ 4096) (ha : t.at' + 1 = i) (hi : i < n) (hc : 0 ≤ c ∧ c ≤ 1000000) (h1 : 1 ≤ t.left):
    Calls Tryd.prog 42 #[.pointer (some ⟨B, 0, none⟩), .pointer (some ⟨g, 0, none⟩)] w fun e w' => e = .returned (.tuple #[.int .i64 ((if t.left = 1 then 5 else 0 : Nat) : Int), .int .i64 0]) ∧ StepQ g b n B (upd f i (inc t.tk)) c t.ph { t with left := t.left - 1, ph := if t.left = 1 then 5 else 0 } w w' := by
  have HA := Lib.hid (fun W (hB : Below w.heap.size w W) => store_yes (inc t.tk) i g b n f c W (hG.keep hB) (hM.keep hB) hn hi hc)
  have k0 := hT.c0
  have k1 := hT.c1
  have k2 := hT.c2
  have k4 := hT.c4
  have k5 := hT.c5
  obtain ⟨r0, r1⟩ := hT.ar
  have HT := Lib.hid hT
  have u1 := hT.ub.2
  simp only [inc] at HA
  have hw : IntKind.i64.wrap (t.at' + 1) = i := by rw [IntWalk.i64_in _ (by omega)]; exact ha
  clear ha
  have hBg : B ≠ g := fun e => hgB e.symm
  have hBb : B ≠ b := fun e => hbB e.symm
  clear hG hM hn hc hT
  go_enter Tryd.func42, Tryd.ntmps42
  go_wp2_with fail
  go_region_held3 (fun w' => w'.cell? ⟨B, 0, none⟩ = some (.int .i64 t.at') ∧ w'.cell? ⟨B, 1, none⟩ = some (.int .i64 t.cl) ∧ w'.cell? ⟨B, 4, none⟩ = some (.int .u32 t.tk) ∧ w'.cell? ⟨B, 5, none⟩ = some (.int .u32 t.ld)) (go_keep)
    (first
      | (go_at_call 11
         try rw [hw]
         refine (HA.out _ ((Below.refl _ _).drew)).mono ?_
         rintro e w1 ⟨rfl, hM1, hE1⟩
         have HT1 := Lib.hid (HT.out.else (else_drew hE1) hgB hbB)
         have HM1 := Lib.hid hM1
         have HE1 := Lib.hid (chg_else (B := B) (else_drew hE1))
         have z2 := HT1.out.fz 2
         have z4 := HT1.out.fz 4
         have z5 := HT1.out.fz 5
         have q0 := HT1.out.c0
         have q1 := HT1.out.c1
         have q2 := HT1.out.c2
         have q4 := HT1.out.c4
         have q5 := HT1.out.c5
         clear hM1 hE1))
  by_cases hx : t.left = 1
  · have hl : t.left - 1 = 0 := by omega
    go_wp2_with fail
    go_ret2
    exact ⟨rfl, ⟨c + 1, by omega, Int.le_refl _, HM1.out.setOut hBg hBb _⟩, by have := HT1.out.lessPre 5 h1; rw [hl] at this; exact this, HE1.out.setB _⟩
  · have hl : ¬ t.left - 1 = 0 := by omega
    go_wp2_with fail
    go_ret2
    exact ⟨rfl, ⟨c + 1, by omega, Int.le_refl _, HM1.out.setOut hBg hBb _⟩, HT1.out.lessPre 0 h1, HE1.out.setB _⟩
set_option maxHeartbeats 2000000 in
set_option maxRecDepth 100000 in
theorem release_no (hT : TakerAt w B t) (hgB : g ≠ B) (hbB : b ≠ B) (hG : GOk w) (hM : MemAt w g b n f c) (hn : n ≤ 4096) (hi : ¬ (0 ≤ (t.at' + 1) ∧ (t.at' + 1) < n)):
    Calls Tryd.prog 42 #[.pointer (some ⟨B, 0, none⟩), .pointer (some ⟨g, 0, none⟩)] w fun e w' => e = .returned (.tuple #[.int .i64 5, .int .i64 81]) ∧ StepQ g b n B f c t.ph { t with ph := 5 } w w' := by
  have HA := Lib.hid (fun W (hB : Below w.heap.size w W) => store_no (inc t.tk) (t.at' + 1) g b n f c W (hG.keep hB) (hM.keep hB) hn hi)
  have k0 := hT.c0
  have k1 := hT.c1
  have k2 := hT.c2
  have k4 := hT.c4
  have k5 := hT.c5
  obtain ⟨r0, r1⟩ := hT.ar
  have HT := Lib.hid hT
  simp only [inc] at HA
  have hw : IntKind.i64.wrap (t.at' + 1) = t.at' + 1 := IntWalk.i64_in _ (by omega)
  have HM := Lib.hid hM
  have hBg : B ≠ g := fun e => hgB e.symm
  have hBb : B ≠ b := fun e => hbB e.symm
  clear hG hM hn hT hi
  go_enter Tryd.func42, Tryd.ntmps42
  go_wp2_with fail
  go_region_held3 (fun w' => w'.cell? ⟨B, 0, none⟩ = some (.int .i64 t.at') ∧ w'.cell? ⟨B, 1, none⟩ = some (.int .i64 t.cl) ∧ w'.cell? ⟨B, 4, none⟩ = some (.int .u32 t.tk) ∧ w'.cell? ⟨B, 5, none⟩ = some (.int .u32 t.ld)) (go_keep)
    (first
      | (go_at_call 11
         try rw [hw]
         refine (HA.out _ ((Below.refl _ _).drew)).mono ?_
         rintro e w1 ⟨rfl, hB1⟩
         have HT1 := Lib.hid (HT.out.keep (below_drew hB1))
         have HM1 := Lib.hid (HM.out.keep (below_drew hB1))
         have HE1 := Lib.hid (Chg.of_below (S := ST g b B) (below_drew hB1))
         have z2 := HT1.out.fz 2
         have z4 := HT1.out.fz 4
         have z5 := HT1.out.fz 5
         have q0 := HT1.out.c0
         have q1 := HT1.out.c1
         have q2 := HT1.out.c2
         have q4 := HT1.out.c4
         have q5 := HT1.out.c5
         clear hB1))
  go_wp2_with fail
  go_ret2
  exact ⟨rfl, ⟨c, Int.le_refl _, by omega, HM1.out⟩, HT1.out.pre 5, HE1.out⟩
end
end Go.Proofs.YtdegfadahlcgnaaDoor
