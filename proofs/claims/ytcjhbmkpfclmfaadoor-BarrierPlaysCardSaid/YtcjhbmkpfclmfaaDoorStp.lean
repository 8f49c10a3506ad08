/-
  A step of a waiter; a new one; what it tells.
-/
import Derived.Test.YtcjhbmkpfclmfaaDoorTak
import Derived.Test.YtcjhbmkpfclmfaaDoorEnds
namespace Go.Proofs.YtcjhbmkpfclmfaaDoor
open Go.RowKit

theorem keptd {w w' : World} {a : Addr} {v : Value} (hc : w.cell? a = some v) (h : Below w.heap.size w.drew w') : w'.cell? a = some v := kept (w := w.drew) hc h
theorem store_at (v : Int) (i g b n : Nat) (x : Int) (hx : x = i) (f : Nat → Int) (c : Int) (w : World) (hG : GOk w) (hM : MemAt w g b n f c) (hn : n ≤ 4096) (ha : i < n) (hc : 0 ≤ c ∧ c ≤ 1000000) :
    Calls Tryd.prog 9 #[.pointer (some ⟨g, 0, none⟩), .int .i64 x, .int .u32 v] w fun e w' => e = .returned (.int .i64 0) ∧ MemAt w' g b n (upd f i v) (c + 1) ∧ Else g b w w' := by
  subst hx; exact store_yes v i g b n f c w hG hM hn ha hc
section
variable (i B g b n : Nat) (a nn r cm q : Int) (f : Nat → Int) (c : Int) (w : World)
set_option maxHeartbeats 2000000 in
set_option maxRecDepth 100000 in
theorem perf_0 (E : Int) (Q : Int → World → Prop) (hT : Cel w B a nn r 0 cm q)
    (hcall : Calls Tryd.prog 33 #[.pointer (some ⟨B, 0, none⟩), .pointer (some ⟨g, 0, none⟩)] w fun e w' => ∃ x : Int, e = .returned (.tuple #[.int .i64 x, .int .i64 E]) ∧ Q x w') :
    Calls Tryd.prog 31 #[.pointer (some ⟨B, 0, none⟩), .pointer (some ⟨g, 0, none⟩)] w fun e w' => ∃ x : Int, e = .returned (.tuple #[.int .i64 x, .int .i64 E]) ∧ Q x w' := by
  have k3 := hT.c3
  have HC := Lib.hid hcall
  clear hT hcall
  go_enter Tryd.func31, Tryd.ntmps31
  go_wp2_with fail
  with_reducible refine HC.out.mono ?_
  rintro e w1 ⟨x, rfl, hq⟩
  have HQ := Lib.hid hq
  clear hq
  go_wp2_with fail
  go_ret2
  exact ⟨x, rfl, HQ.out⟩
set_option maxHeartbeats 2000000 in
set_option maxRecDepth 100000 in
theorem perf_3 (E : Int) (Q : Int → World → Prop) (hT : Cel w B a nn r 3 cm q)
    (hcall : Calls Tryd.prog 36 #[.pointer (some ⟨B, 0, none⟩), .pointer (some ⟨g, 0, none⟩)] w fun e w' => ∃ x : Int, e = .returned (.tuple #[.int .i64 x, .int .i64 E]) ∧ Q x w') :
    Calls Tryd.prog 31 #[.pointer (some ⟨B, 0, none⟩), .pointer (some ⟨g, 0, none⟩)] w fun e w' => ∃ x : Int, e = .returned (.tuple #[.int .i64 x, .int .i64 E]) ∧ Q x w' := by
  have k3 := hT.c3
  have HC := Lib.hid hcall
  clear hT hcall
  go_enter Tryd.func31, Tryd.ntmps31
  go_wp2_with fail
  with_reducible refine HC.out.mono ?_
  rintro e w1 ⟨x, rfl, hq⟩
  have HQ := Lib.hid hq
  clear hq
  go_wp2_with fail
  go_ret2
  exact ⟨x, rfl, HQ.out⟩
set_option maxHeartbeats 2000000 in
set_option maxRecDepth 100000 in
theorem perf_1 (E : Int) (Q : World → Prop) (hT : Cel w B a nn r 1 cm q)
    (hcall : Calls Tryd.prog 9 #[.pointer (some ⟨g, 0, none⟩), .int .i64 a, .int .u32 0] w fun e w' => e = .returned (.int .i64 E) ∧ Q w') :
    Calls Tryd.prog 31 #[.pointer (some ⟨B, 0, none⟩), .pointer (some ⟨g, 0, none⟩)] w fun e w' => e = .returned (.tuple #[.int .i64 2, .int .i64 E]) ∧ Q w' := by
  have k3 := hT.c3
  have k0 := hT.c0
  have HC := Lib.hid hcall
  clear hT hcall
  go_enter Tryd.func31, Tryd.ntmps31
  go_wp2_with fail
  with_reducible refine HC.out.mono ?_
  rintro e w1 ⟨rfl, hq⟩
  have HQ := Lib.hid hq
  clear hq
  go_wp2_with fail
  go_ret2
  exact ⟨rfl, HQ.out⟩
set_option maxHeartbeats 4000000 in
set_option maxRecDepth 100000 in
theorem perf_2 (E x : Int) (Q : World → Prop) (Q2 : World → Prop) (hT : Cel w B a nn r 2 cm q) (hq : 0 ≤ q ∧ q ≤ 1000) (har : -1000 ≤ a ∧ a ≤ 1000)
    (hcall : ∀ W, Below w.heap.size w W → Calls Tryd.prog 9 #[.pointer (some ⟨g, 0, none⟩), .int .i64 (a + 1), .int .u32 ((q + 1) % 2)] W fun e w' => e = .returned (.int .i64 E) ∧ Q w')
    (hQ : ∀ W, Q W → W.cell? ⟨B, 0, none⟩ = some (.int .i64 a))
    (hQ2 : ∀ W, Q2 W → W.cell? ⟨B, 0, none⟩ = some (.int .i64 a))
    (hpass : ∀ W, Q W → Calls Tryd.prog 34 #[.pointer (some ⟨B, 0, none⟩), .int .i64 E] W fun e w' => e = .returned (.tuple #[.int .i64 x, .int .i64 E]) ∧ Q2 w') :
    Calls Tryd.prog 31 #[.pointer (some ⟨B, 0, none⟩), .pointer (some ⟨g, 0, none⟩)] w fun e w' => e = .returned (.tuple #[.int .i64 x, .int .i64 E]) ∧ Q2 w' := by
  have k3 := hT.c3
  have k0 := hT.c0
  have HS := Lib.hid (fun W (hB : Below w.heap.size w W) => sense_any B a nn r 2 cm q W (hT.keep hB) hq)
  have HC := Lib.hid hcall
  have HP := Lib.hid hpass
  have HQ0 := Lib.hid hQ
  have HQ20 := Lib.hid hQ2
  have hw : IntKind.i64.wrap (a + 1) = a + 1 := IntWalk.i64_in _ (by omega)
  clear hT hcall hpass hQ hQ2 hq
  go_enter Tryd.func31, Tryd.ntmps31
  go_wp2_with fail
  go_region_held3 (fun w' => w'.cell? ⟨B, 0, none⟩ = some (.int .i64 a)) (go_keep)
    (first
      | (go_at_call 35
         refine (HS.out _ ((Below.refl _ _).drew)).mono ?_
         rintro e w1 ⟨rfl, rfl⟩)
      | (go_at_call 9
         try rw [hw]
         refine (HC.out _ ((Below.refl _ _).drew)).mono ?_
         rintro e w2 ⟨rfl, hq⟩
         have y0 := HQ0.out _ hq
         have HQ := Lib.hid hq
         clear hq)
      | (go_at_call 34
         refine (HP.out _ HQ.out).mono ?_
         rintro e w3 ⟨rfl, hq2⟩
         have y2 := HQ20.out _ hq2
         have HQ2 := Lib.hid hq2
         clear hq2))
  all_goals
    go_wp2_with fail
    go_ret2
    exact ⟨rfl, HQ2.out⟩
set_option maxHeartbeats 2000000 in
set_option maxRecDepth 100000 in
theorem after_ok (Q : Int → World → Prop)
    (hcall : Calls Tryd.prog 31 #[.pointer (some ⟨B, 0, none⟩), .pointer (some ⟨g, 0, none⟩)] w fun e w' => ∃ x : Int, e = .returned (.tuple #[.int .i64 x, .int .i64 0]) ∧ Q x w') :
    Calls Tryd.prog 26 #[.pointer (some ⟨B, 0, none⟩), .pointer (some ⟨g, 0, none⟩)] w fun e w' => ∃ x : Int, e = .returned (.int .i64 x) ∧ Q x w' := by
  have HC := Lib.hid hcall
  clear hcall
  go_enter Tryd.func26, Tryd.ntmps26
  go_wp2_with fail
  with_reducible refine HC.out.mono ?_
  rintro e w1 ⟨x, rfl, hq⟩
  have HQ := Lib.hid hq
  clear hq
  go_wp2_with fail
  go_ret
  exact ⟨x, rfl, HQ.out⟩
set_option maxHeartbeats 2000000 in
set_option maxRecDepth 100000 in
theorem after_no (Q : World → Prop)
    (hcall : Calls Tryd.prog 31 #[.pointer (some ⟨B, 0, none⟩), .pointer (some ⟨g, 0, none⟩)] w fun e w' => ∃ x : Int, e = .returned (.tuple #[.int .i64 x, .int .i64 81]) ∧ Q w') :
    Calls Tryd.prog 26 #[.pointer (some ⟨B, 0, none⟩), .pointer (some ⟨g, 0, none⟩)] w fun e w' => e = .returned (.int .i64 4) ∧ Q w' := by
  have HC := Lib.hid hcall
  clear hcall
  go_enter Tryd.func26, Tryd.ntmps26
  go_wp2_with fail
  with_reducible refine HC.out.mono ?_
  rintro e w1 ⟨x, rfl, hq⟩
  have HQ := Lib.hid hq
  clear hq
  go_wp2_with fail
  go_ret
  exact ⟨rfl, HQ.out⟩
theorem stepQ_from {B g b n : Nat} {f : Nat → Int} {c a nn r p cm q : Int} {w W w' : World} (hB : Below w.heap.size w W) (h : StepQ g b n B f c a nn r p cm q W w') : StepQ g b n B f c a nn r p cm q w w' :=
  ⟨h.1, h.2.1, (Chg.of_below hB).trans h.2.2⟩
set_option maxHeartbeats 4000000 in
set_option maxRecDepth 100000 in
theorem step_set (p pr : Nat) (f' : Nat → Int) (cm' q' : Int) (hT : Cel w B a nn r p cm q) (h4 : p ≠ 4)
    (hP : Calls Tryd.prog 26 #[.pointer (some ⟨B, 0, none⟩), .pointer (some ⟨g, 0, none⟩)] w fun e w' => e = .returned (.int .i64 pr) ∧ StepQ g b n B f' c a nn r p cm' q' w w') (hg : g ≠ B) (hb : b ≠ B) :
    Calls Tryd.prog 13 #[.pointer (some ⟨B, 0, none⟩), .pointer (some ⟨g, 0, none⟩)] w fun e w' => e = .returned (.bool (decide (pr = 4))) ∧ StepQ g b n B f' c a nn r pr cm' q' w w' := by
  have k3 := hT.c3
  have HP := Lib.hid hP
  have h4' : ¬ ((p : Int) = 4) := by omega
  have HG := Lib.hid hg
  have HBb := Lib.hid hb
  clear hT hP hg hb h4
  go_enter Tryd.func13, Tryd.ntmps13
  go_wp2_with fail
  with_reducible refine HP.out.mono ?_
  rintro e w1 ⟨rfl, hq⟩
  obtain ⟨⟨c', hc1, hc2, hM⟩, hpre, hC⟩ := hq
  have HM := Lib.hid hM
  have HT := Lib.hid (hpre.setPh pr)
  have HC := Lib.hid hC
  have q3 := hpre.c3
  have z3 := hpre.fz 3
  clear hM hpre hC
  by_cases hx : pr = 4
  · have hx' : (pr : Int) = 4 := by omega
    go_wp2_with fail
    go_ret
    exact ⟨by first | rfl | (simp [hx]; done) | (simp [hx]; omega), ⟨c', hc1, hc2, HM.out.setOut (fun e => HG.out e.symm) (fun e => HBb.out e.symm) _⟩, by first | exact HT.out | (have h := HT.out; rw [hx'] at h ⊢; exact h), HC.out.setB _⟩
  · have hx' : ¬ ((pr : Int) = 4) := by omega
    go_wp2_with fail
    go_ret
    exact ⟨by first | rfl | (simp [hx]; done) | (simp [hx]; omega), ⟨c', hc1, hc2, HM.out.setOut (fun e => HG.out e.symm) (fun e => HBb.out e.symm) _⟩, by first | exact HT.out | (have h := HT.out; rw [hx'] at h ⊢; exact h), HC.out.setB _⟩
set_option maxHeartbeats 2000000 in
set_option maxRecDepth 100000 in
theorem step_over (hT : Cel w B a nn r 4 cm q) :
    Calls Tryd.prog 13 #[.pointer (some ⟨B, 0, none⟩), .pointer (some ⟨g, 0, none⟩)] w fun e w' => e = .returned (.bool true) ∧ w = w' := by
  have k3 := hT.c3
  clear hT
  go_enter Tryd.func13, Tryd.ntmps13
  go_wp2_with fail
  go_ret
  exact ⟨rfl, rfl⟩
set_option maxHeartbeats 2000000 in
set_option maxRecDepth 100000 in
theorem came_any (t : Tk) (hT : TakerAt w B t) : Calls Tryd.prog 16 #[.pointer (some ⟨B, 0, none⟩)] w fun e w' => e = .returned (.int .i64 t.came) ∧ w = w' := by
  have k4 := hT.cel.c4
  clear hT
  go_enter Tryd.func16, Tryd.ntmps16
  go_wp2_with fail
  go_ret
  exact ⟨rfl, rfl⟩
set_option maxHeartbeats 2000000 in
set_option maxRecDepth 100000 in
theorem passed_any (t : Tk) (hT : TakerAt w B t) : Calls Tryd.prog 17 #[.pointer (some ⟨B, 0, none⟩)] w fun e w' => e = .returned (.int .i64 t.psd) ∧ w = w' := by
  have k5 := hT.cel.c5
  clear hT
  go_enter Tryd.func17, Tryd.ntmps17
  go_wp2_with fail
  go_ret
  exact ⟨rfl, rfl⟩
end
/-- What a step of a waiter leaves. -/
def StepP (g b n B : Nat) (t : Tk) (f : Nat → Int) (c : Int) (w : World) (e : Ending) (w' : World) : Prop :=
  e = .returned (.bool (t.next n (f t.wh.toNat)).done) ∧ (∃ c', c ≤ c' ∧ c' ≤ c + 1 ∧ MemAt w' g b n (upd f t.wh.toNat (t.word n (f t.wh.toNat))) c') ∧
    TakerAt w' B (t.next n (f t.wh.toNat)) ∧ Chg (ST g b B) w w'
theorem Wf.pass {t : Tk} (h : Wf t) (h0 : 1 ≤ t.ph ∧ t.ph ≤ 3) : Wf t.pass := by
  have h1 := h.c1 h0.1 h0.2
  have h2 := h.pl.2 (by omega)
  have h3 := h.ps
  unfold Tk.pass
  split
  · rename_i e
    exact ⟨h.ar, h.nn, by show 0 ≤ t.psd + 1 ∧ t.psd + 1 ≤ t.rds ∧ t.rds ≤ 1000; omega, by simp, by show t.psd + 1 ≤ t.came ∧ t.came ≤ t.psd + 1 + 1; omega, by simp, by simp⟩
  · rename_i e
    exact ⟨h.ar, h.nn, by show 0 ≤ t.psd + 1 ∧ t.psd + 1 ≤ t.rds ∧ t.rds ≤ 1000; omega, by refine ⟨by simp, fun _ => ?_⟩; show t.psd + 1 < t.rds; omega, by show t.psd + 1 ≤ t.came ∧ t.came ≤ t.psd + 1 + 1; omega, fun _ => by show t.came = t.psd + 1; omega, by simp⟩
theorem Wf.end {t : Tk} (h : Wf t) : Wf t.end := ⟨h.ar, h.nn, h.ps, ⟨Nat.le_refl _, fun hh => absurd hh (by show ¬ (4 < 4); omega)⟩, h.cm, fun hh => absurd (show (4 : Nat) = 0 from hh) (by omega), fun _ hh => absurd (show (4 : Nat) ≤ 3 from hh) (by omega)⟩
theorem Wf.go {t : Tk} (h : Wf t) (h4 : t.ph ≠ 4) (x : Int) : Wf (t.go x) := by
  have hp := h.pl
  have h3 := h.ps
  rcases cases5 hp.1 with e | e | e | e | e
  · have hc := h.c0 e
    rw [go0 e]
    split
    · exact ⟨h.ar, h.nn, h.ps, ⟨by simp, fun _ => hp.2 (by omega)⟩, by show t.psd ≤ t.came + 1 ∧ t.came + 1 ≤ t.psd + 1; omega, by simp, fun _ _ => by show t.came + 1 = t.psd + 1; omega⟩
    · exact ⟨h.ar, h.nn, h.ps, ⟨by simp, fun _ => hp.2 (by omega)⟩, by show t.psd ≤ t.came + 1 ∧ t.came + 1 ≤ t.psd + 1; omega, by simp, fun _ _ => by show t.came + 1 = t.psd + 1; omega⟩
  · have hc := h.c1 (by omega) (by omega)
    rw [go1 e]
    exact ⟨h.ar, h.nn, h.ps, ⟨by simp, fun _ => hp.2 (by omega)⟩, h.cm, by simp, fun _ _ => hc⟩
  · rw [go2 e]; exact h.pass (by omega)
  · rw [go3 e]
    split
    · exact h.pass (by omega)
    · exact h
  · exact absurd e h4
theorem pass_cells (t : Tk) : t.pass.at' = t.at' ∧ t.pass.n = t.n ∧ t.pass.rds = t.rds ∧ t.pass.came = t.came ∧ t.pass.psd = t.psd + 1 ∧ t.pass.ph = (if t.psd + 1 = t.rds then 4 else 0) ∧ (t.done = false → t.pass.done = decide (t.pass.ph = 4)) := by
  unfold Tk.pass
  split
  · exact ⟨rfl, rfl, rfl, rfl, rfl, rfl, fun _ => rfl⟩
  · exact ⟨rfl, rfl, rfl, rfl, rfl, rfl, fun h => by show t.done = _; rw [h]; rfl⟩
/-- From cells to a waiter. -/
theorem takerAt_of {w : World} {B : Nat} {t : Tk} {a nn r p cm q : Int} (h : Cel w B a nn r p cm q) (hw : Wf t) (e0 : t.at' = a) (e1 : t.n = nn) (e2 : t.rds = r) (e3 : (t.ph : Int) = p) (e4 : t.came = cm) (e5 : t.psd = q) : TakerAt w B t := by
  subst e0 e1 e2 e3 e4 e5; exact ⟨h, hw⟩
set_option maxHeartbeats 1000000 in
theorem step_any (B g b n : Nat) (t : Tk) (f : Nat → Int) (c : Int) (w : World) (hD : t.done = false) (hT : TakerAt w B t) (hgB : g ≠ B) (hbB : b ≠ B) (hG : GOk w) (hM : MemAt w g b n f c) (hn : n ≤ 4096) (hc : 0 ≤ c ∧ c ≤ 1000000) :
    Calls Tryd.prog 13 #[.pointer (some ⟨B, 0, none⟩), .pointer (some ⟨g, 0, none⟩)] w fun e w' => StepP g b n B t f c w e w' := by
  have hW := hT.wf
  have hpl := hW.pl
  have hps := hW.ps
  have hcm := hW.cm
  have hC := hT.cel
  have hq : 0 ≤ t.psd ∧ t.psd ≤ 1000 := by omega
  by_cases h4 : t.ph = 4
  · have ho : t.over n = true := by unfold Tk.over; rw [h4]; rfl
    rw [h4] at hC
    refine (step_over B g _ _ _ _ _ w hC).mono ?_
    rintro e w' ⟨rfl, rfl⟩
    unfold StepP
    rw [next_end ho, word_end ho, upd_self]
    exact ⟨rfl, ⟨c, Int.le_refl _, by omega, hM⟩, takerAt_of hC hW.end rfl rfl rfl rfl rfl rfl, Chg.refl _⟩
  · -- from the step's contract
    have fin : ∀ (pr : Nat) (f' : Nat → Int) (cm' q' : Int), (t.next n (f t.wh.toNat)).done = decide (pr = 4) → f' = upd f t.wh.toNat (t.word n (f t.wh.toNat)) → Wf (t.next n (f t.wh.toNat)) →
        (t.next n (f t.wh.toNat)).at' = t.at' → (t.next n (f t.wh.toNat)).n = t.n → (t.next n (f t.wh.toNat)).rds = t.rds → (t.next n (f t.wh.toNat)).ph = pr → (t.next n (f t.wh.toNat)).came = cm' → (t.next n (f t.wh.toNat)).psd = q' →
        (Calls Tryd.prog 26 #[.pointer (some ⟨B, 0, none⟩), .pointer (some ⟨g, 0, none⟩)] w fun e w' => e = .returned (.int .i64 pr) ∧ StepQ g b n B f' c t.at' t.n t.rds t.ph cm' q' w w') →
        Calls Tryd.prog 13 #[.pointer (some ⟨B, 0, none⟩), .pointer (some ⟨g, 0, none⟩)] w fun e w' => StepP g b n B t f c w e w' := fun pr f' cm' q' hd hf hw e0 e1 e2 e3 e4 e5 hcall => by
      refine (step_set B g b n t.at' t.n t.rds t.came t.psd c w t.ph pr f' cm' q' hC h4 hcall hgB hbB).mono ?_
      rintro e w' ⟨rfl, hM', hC', hCh⟩
      unfold StepP
      rw [hd]
      exact ⟨rfl, by rw [← hf]; exact hM', takerAt_of hC' hw e0 e1 e2 (by rw [e3]) e4 e5, hCh⟩
    by_cases hin : inM n t.wh = true
    · -- the word is there
      have ho : t.over n = false := by unfold Tk.over; rw [hin, decide_eq_false (show ¬ 4 ≤ t.ph by omega)]; rfl
      obtain ⟨i, hi⟩ : ∃ i : Nat, t.wh = i := ⟨t.wh.toNat, by have := inM_yes hin; omega⟩
      have hin' := inM_yes hin
      rw [hi] at hin'
      have hlt : i < n := by omega
      have hti : t.wh.toNat = i := by rw [hi]; omega
      rw [next_go ho, word_go ho, hti] at fin
      have hWg := hW.go h4 (f i)
      rcases cases5 hpl.1 with e | e | e | e | e
      · have hw : t.wh = t.at' := by unfold Tk.wh; rw [e]; rfl
        rw [e] at hC
        have hp : t.puts (f i) = inc (f i) := by unfold Tk.puts; rw [e]; rfl
        rw [hp] at fin
        have hA := arrive_yes i B g b n t.at' t.n t.rds ((0 : Nat) : Int) t.came t.psd f c w hC hgB hbB hG hM hn (by rw [← hw, hi]) hlt hc hW.nn (by omega)
        have hA2 := after_ok B g w (fun x w' => x = (if f i = t.n - 1 then 1 else 3) ∧ StepQ g b n B (upd f i (inc (f i))) c t.at' t.n t.rds ((0 : Nat) : Int) (t.came + 1) t.psd w w') (perf_0 B g t.at' t.n t.rds t.came t.psd w 0 _ hC (hA.mono fun e w' h => ⟨_, h.1, rfl, h.2⟩))
        rw [go0 e] at fin hWg
        by_cases hx : f i = t.n - 1
        · rw [if_pos hx] at fin hWg
          refine fin 1 _ (t.came + 1) t.psd hD rfl hWg rfl rfl rfl rfl rfl rfl (hA2.mono ?_)
          rintro e' w' ⟨x, rfl, hx', hS⟩
          rw [if_pos hx] at hx'
          subst hx'
          rw [e]
          exact ⟨rfl, hS⟩
        · rw [if_neg hx] at fin hWg
          refine fin 3 _ (t.came + 1) t.psd hD rfl hWg rfl rfl rfl rfl rfl rfl (hA2.mono ?_)
          rintro e' w' ⟨x, rfl, hx', hS⟩
          rw [if_neg hx] at hx'
          subst hx'
          rw [e]
          exact ⟨rfl, hS⟩
      · have hw : t.wh = t.at' := by unfold Tk.wh; rw [e]; rfl
        rw [e] at hC
        have hp : t.puts (f i) = 0 := by unfold Tk.puts; rw [e]; rfl
        rw [hp] at fin
        have hA := store_at 0 i g b n t.at' (by rw [← hw, hi]) f c w hG hM hn hlt hc
        have hA1 := perf_1 B g t.at' t.n t.rds t.came t.psd w 0 (fun w' => StepQ g b n B (upd f i 0) c t.at' t.n t.rds ((1 : Nat) : Int) t.came t.psd w w') hC (by
          exact hA.mono fun e w' h => ⟨h.1, ⟨c + 1, by omega, Int.le_refl _, h.2.1⟩, hC.else h.2.2 hgB hbB, chg_else h.2.2⟩)
        have hA2 := after_ok B g w (fun x w' => x = 2 ∧ StepQ g b n B (upd f i 0) c t.at' t.n t.rds ((1 : Nat) : Int) t.came t.psd w w') (hA1.mono fun e w' h => ⟨2, h.1, rfl, h.2⟩)
        rw [go1 e] at fin hWg
        refine fin 2 _ t.came t.psd hD rfl hWg rfl rfl rfl rfl rfl rfl (hA2.mono ?_)
        rintro e' w' ⟨x, rfl, hx', hS⟩
        subst hx'
        rw [e]
        exact ⟨rfl, hS⟩
      · have hw : t.wh = t.at' + 1 := by unfold Tk.wh; rw [e]; rfl
        rw [e] at hC
        have hp : t.puts (f i) = (t.psd + 1) % 2 := by unfold Tk.puts; rw [e]; rfl
        rw [hp] at fin
        obtain ⟨p0, p1, p2, p3, p4, p5, p6⟩ := pass_cells t
        have hA1 := perf_2 B g t.at' t.n t.rds t.came t.psd w 0 (if t.psd + 1 = t.rds then 4 else 0)
          (fun w' => StepQ g b n B (upd f i ((t.psd + 1) % 2)) c t.at' t.n t.rds ((2 : Nat) : Int) t.came t.psd w w')
          (fun w' => StepQ g b n B (upd f i ((t.psd + 1) % 2)) c t.at' t.n t.rds ((2 : Nat) : Int) t.came (t.psd + 1) w w') hC hq hW.ar
          (fun W hB => by
            exact (store_at ((t.psd + 1) % 2) i g b n (t.at' + 1) (by rw [← hw, hi]) f c W (hG.keep hB) (hM.keep hB) hn hlt hc).mono fun e w' h => ⟨h.1, stepQ_from hB ⟨⟨c + 1, by omega, Int.le_refl _, h.2.1⟩, (hC.keep hB).else h.2.2 hgB hbB, chg_else h.2.2⟩⟩)
          (fun W h => h.2.1.c0) (fun W h => h.2.1.c0)
          (fun W h => (pass_ok B t.at' t.n t.rds ((2 : Nat) : Int) t.came t.psd W h.2.1 hq).mono fun e w' h2 => ⟨h2.1, by
            obtain ⟨⟨c', h3, h4, h5⟩, h6, h7⟩ := h
            have hB : Below (W.setCell ⟨B, 5, none⟩ (.int .i64 (t.psd + 1))).heap.size (W.setCell ⟨B, 5, none⟩ (.int .i64 (t.psd + 1))) w' := by simpa using h2.2
            exact ⟨⟨c', h3, h4, (h5.setOut (a := ⟨B, 5, none⟩) (fun e => hgB e.symm) (fun e => hbB e.symm) _).keep hB⟩, (h6.setPsd _).keep hB, (h7.setB _).trans (Chg.of_below hB)⟩⟩)
        have hA2 := after_ok B g w (fun x w' => x = (if t.psd + 1 = t.rds then 4 else 0) ∧ StepQ g b n B (upd f i ((t.psd + 1) % 2)) c t.at' t.n t.rds ((2 : Nat) : Int) t.came (t.psd + 1) w w') (hA1.mono fun e w' h => ⟨_, h.1, rfl, h.2⟩)
        rw [go2 e] at fin hWg
        refine fin t.pass.ph _ t.came (t.psd + 1) (p6 hD) rfl hWg p0 p1 p2 rfl p3 p4 (hA2.mono ?_)
        rintro e' w' ⟨x, rfl, hx', hS⟩
        subst hx'
        rw [e, p5]
        refine ⟨?_, hS⟩
        split <;> rfl
      · have hw : t.wh = t.at' + 1 := by unfold Tk.wh; rw [e]; rfl
        rw [e] at hC
        have hp : t.puts (f i) = f i := by unfold Tk.puts; rw [e]; rfl
        rw [hp, upd_self] at fin
        obtain ⟨p0, p1, p2, p3, p4, p5, p6⟩ := pass_cells t
        have hA := check_yes i B g b n t.at' t.n t.rds ((3 : Nat) : Int) t.came t.psd f c w hC hgB hbB hG hM hn (by rw [← hw, hi]) hlt hc hq
        have hA2 := after_ok B g w (fun x w' => x = (if f i = (t.psd + 1) % 2 then (if t.psd + 1 = t.rds then 4 else 0) else 3) ∧ StepQ g b n B f c t.at' t.n t.rds ((3 : Nat) : Int) t.came (if f i = (t.psd + 1) % 2 then t.psd + 1 else t.psd) w w') (perf_3 B g t.at' t.n t.rds t.came t.psd w 0 _ hC (hA.mono fun e w' h => ⟨_, h.1, rfl, h.2⟩))
        rw [go3 e] at fin hWg
        by_cases hx : f i = t.own
        · have hx1 : f i = (t.psd + 1) % 2 := hx
          rw [if_pos hx] at fin hWg
          refine fin t.pass.ph _ t.came (t.psd + 1) (p6 hD) rfl hWg p0 p1 p2 rfl p3 p4 (hA2.mono ?_)
          rintro e' w' ⟨x, rfl, hx', hS⟩
          rw [if_pos hx1] at hx' hS
          subst hx'
          rw [e, p5]
          refine ⟨?_, hS⟩
          split <;> rfl
        · have hx1 : ¬ f i = (t.psd + 1) % 2 := hx
          rw [if_neg hx] at fin hWg
          refine fin 3 _ t.came t.psd hD rfl hWg rfl rfl rfl e rfl rfl (hA2.mono ?_)
          rintro e' w' ⟨x, rfl, hx', hS⟩
          rw [if_neg hx1] at hx' hS
          subst hx'
          rw [e]
          exact ⟨rfl, hS⟩
      · exact absurd e h4
    · -- the word is missing
      have hin : inM n t.wh = false := by simpa using hin
      have ho : t.over n = true := by unfold Tk.over; rw [hin]; simp
      have hno := inM_no hin
      rw [next_end ho, word_end ho, upd_self] at fin
      have hWe := hW.end
      have wrap : (Calls Tryd.prog 31 #[.pointer (some ⟨B, 0, none⟩), .pointer (some ⟨g, 0, none⟩)] w fun e w' => ∃ x : Int, e = .returned (.tuple #[.int .i64 x, .int .i64 81]) ∧ StepQ g b n B f c t.at' t.n t.rds t.ph t.came t.psd w w') →
          Calls Tryd.prog 13 #[.pointer (some ⟨B, 0, none⟩), .pointer (some ⟨g, 0, none⟩)] w fun e w' => StepP g b n B t f c w e w' := fun h =>
        fin 4 f t.came t.psd rfl rfl hWe rfl rfl rfl rfl rfl rfl (after_no B g w _ h)
      rcases cases5 hpl.1 with e | e | e | e | e
      · have hw : t.wh = t.at' := by unfold Tk.wh; rw [e]; rfl
        rw [e] at hC wrap
        rw [hw] at hno
        exact wrap ((perf_0 B g t.at' t.n t.rds t.came t.psd w 81 (fun _ w' => StepQ g b n B f c t.at' t.n t.rds ((0 : Nat) : Int) t.came t.psd w w') hC ((arrive_no B g b n t.at' t.n t.rds ((0 : Nat) : Int) t.came t.psd f c w hC hG hM hn hno).mono fun e w' h => ⟨_, h.1, h.2⟩)))
      · have hw : t.wh = t.at' := by unfold Tk.wh; rw [e]; rfl
        rw [e] at hC wrap
        rw [hw] at hno
        exact wrap ((perf_1 B g t.at' t.n t.rds t.came t.psd w 81 (fun w' => StepQ g b n B f c t.at' t.n t.rds ((1 : Nat) : Int) t.came t.psd w w') hC ((store_no 0 t.at' g b n f c w hG hM hn hno).mono fun e w' h => ⟨h.1, ⟨c, Int.le_refl _, by omega, hM.keep h.2⟩, hC.keep h.2, Chg.of_below h.2⟩)).mono fun e w' h => ⟨_, h.1, h.2⟩)
      · have hw : t.wh = t.at' + 1 := by unfold Tk.wh; rw [e]; rfl
        rw [e] at hC wrap
        rw [hw] at hno
        exact wrap ((perf_2 B g t.at' t.n t.rds t.came t.psd w 81 4 (fun w' => StepQ g b n B f c t.at' t.n t.rds ((2 : Nat) : Int) t.came t.psd w w') (fun w' => StepQ g b n B f c t.at' t.n t.rds ((2 : Nat) : Int) t.came t.psd w w') hC hq hW.ar
          (fun W hB => (store_no ((t.psd + 1) % 2) (t.at' + 1) g b n f c W (hG.keep hB) (hM.keep hB) hn hno).mono fun e w' h => ⟨h.1, stepQ_from hB ⟨⟨c, Int.le_refl _, by omega, (hM.keep hB).keep h.2⟩, (hC.keep hB).keep h.2, Chg.of_below h.2⟩⟩)
          (fun W h => h.2.1.c0) (fun W h => h.2.1.c0)
          (fun W h => (pass_no B W).mono fun e w' h2 => ⟨h2.1, h2.2 ▸ h⟩)).mono fun e w' h => ⟨_, h.1, h.2⟩)
      · have hw : t.wh = t.at' + 1 := by unfold Tk.wh; rw [e]; rfl
        rw [e] at hC wrap
        rw [hw] at hno
        exact wrap ((perf_3 B g t.at' t.n t.rds t.came t.psd w 81 (fun _ w' => StepQ g b n B f c t.at' t.n t.rds ((3 : Nat) : Int) t.came t.psd w w') hC (check_no B g b n t.at' t.n t.rds ((3 : Nat) : Int) t.came t.psd f c w hC hG hM hn hno hq hW.ar)))
      · exact absurd e h4
/-- A new waiter. -/
def NewP (a n r : Int) (w : World) (e : Ending) (w' : World) : Prop := e = .returned (.tuple #[.pointer (some ⟨w.heap.size, 0, none⟩), .int .i64 0]) ∧ TakerAt w' w.heap.size (tk0 a n (clamp r)) ∧ Below w.heap.size w w' ∧ w.heap.size < w'.heap.size
theorem clamp_rng (r : Int) : 0 ≤ clamp r ∧ clamp r ≤ 1000 := by unfold clamp; omega
theorem tk0_wf {a n r : Int} (ha : -1000 ≤ a ∧ a ≤ 1000) (hn : 1 ≤ n ∧ n ≤ 8) (hr : 0 ≤ r ∧ r ≤ 1000) : Wf (tk0 a n r) := by
  have hp : (tk0 a n r).ph = if 0 = r then 4 else 0 := rfl
  refine ⟨ha, hn, ⟨Int.le_refl _, hr.1, hr.2⟩, ?_, ⟨Int.le_refl _, by show (0 : Int) ≤ 0 + 1; omega⟩, fun _ => rfl, fun h1 h2 => ?_⟩
  · rw [hp]; show _ ∧ (_ → (0 : Int) < r)
    split
    · exact ⟨Nat.le_refl _, fun h => absurd h (by omega)⟩
    · exact ⟨by omega, fun _ => by omega⟩
  · rw [hp] at h1 h2; split at h1 <;> split at h2 <;> omega
set_option maxHeartbeats 2000000 in
set_option maxRecDepth 100000 in
theorem new_bad (a n r : Int) (w : World) (h : ¬ (1 ≤ n ∧ n ≤ 8)) :
    Calls Tryd.prog 10 #[.int .i64 a, .int .i64 n, .int .i64 r] w fun e w' => e = .returned (.tuple #[.pointer none, .int .i64 110]) ∧ w = w' := by
  by_cases h1 : n < 1
  · clear h
    go_enter Tryd.func10, Tryd.ntmps10
    go_wp2_with fail
    go_ret2
    exact ⟨rfl, rfl⟩
  · have h2 : 8 < n := by omega
    clear h
    go_enter Tryd.func10, Tryd.ntmps10
    go_wp2_with fail
    go_ret2
    exact ⟨rfl, rfl⟩
/-- The first phase. -/
def x0 (R : Int) : Int := if 0 = R then 4 else 0
theorem fresh (w : World) (a n R : Int) : Cel (w.alloc (.cells #[.int .i64 a, .int .i64 n, .int .i64 R, .int .i64 0, .int .i64 0, .int .i64 0] 70)) w.heap.size a n R 0 0 0 :=
  ⟨al_new _ _ _ 0 _ rfl rfl, al_new _ _ _ 1 _ rfl rfl, al_new _ _ _ 2 _ rfl rfl, al_new _ _ _ 3 _ rfl rfl, al_new _ _ _ 4 _ rfl rfl, al_new _ _ _ 5 _ rfl rfl, fun j => frozen_at _ _ _ j _ rfl⟩
theorem new_end {a n r R : Int} {w w1 : World} (hR : clamp r = R) (hw : Wf (tk0 a n (clamp r))) (hC : Cel w1 w.heap.size a n R 0 0 0) (hB : Below w.heap.size w w1) (hs : w.heap.size < w1.heap.size) : NewP a n r w (.returned (.tuple #[.pointer (some ⟨w.heap.size, 0, none⟩), .int .i64 0])) (w1.setCell ⟨w.heap.size, 3, none⟩ (.int .i64 (x0 R))) := by
  refine ⟨rfl, takerAt_of (hC.setPh (x0 R)) hw rfl rfl hR ?_ rfl rfl, ?_, by simpa using hs⟩
  · show (((tk0 a n (clamp r)).ph : Nat) : Int) = x0 R
    rw [hR]
    unfold x0
    show (((if 0 = R then 4 else 0 : Nat)) : Int) = _
    split <;> rfl
  · exact hB.setCell (p := ⟨w.heap.size, 3, none⟩) (Nat.le_refl _) _
set_option maxHeartbeats 2000000 in
set_option maxRecDepth 100000 in
theorem new_ok (a n r : Int) (w : World) (ha : -1000 ≤ a ∧ a ≤ 1000) (h1 : 1 ≤ n) (h2 : n ≤ 8) :
    Calls Tryd.prog 10 #[.int .i64 a, .int .i64 n, .int .i64 r] w fun e w' => NewP a n r w e w' := by
  have HT0 := Lib.hid (tk0_wf ha ⟨h1, h2⟩ (clamp_rng r))
  have hcl : clamp r = min (max r 0) 1000 := rfl
  have HCL := Lib.hid hcl
  have hah : ∀ R, Calls Tryd.prog 25 #[.pointer (some ⟨w.heap.size, 0, none⟩)] (w.alloc (.cells #[.int .i64 a, .int .i64 n, .int .i64 R, .int .i64 0, .int .i64 0, .int .i64 0] 70)) fun e w' => e = .returned (.int .i64 (x0 R)) ∧ Below (w.alloc (.cells #[.int .i64 a, .int .i64 n, .int .i64 R, .int .i64 0, .int .i64 0, .int .i64 0] 70)).heap.size (w.alloc (.cells #[.int .i64 a, .int .i64 n, .int .i64 R, .int .i64 0, .int .i64 0, .int .i64 0] 70)) w' :=
    fun R => ahead_any _ _ _ _ _ _ _ _ (fresh w a n R)
  have HA := Lib.hid hah
  clear hcl ha hah
  have e1 : ¬ n < 1 := by omega
  have e2 : ¬ 8 < n := by omega
  go_enter Tryd.func10, Tryd.ntmps10
  go_wp2_with fail
  all_goals
    with_reducible refine (HA.out _).mono ?_
    rintro e w1 ⟨rfl, hB1⟩
    have HC1 := Lib.hid ((fresh w a n _).keep hB1)
    have hs := hB1.size
    have hlt : w.heap.size < w1.heap.size := by simp at hs; omega
    have q3 := HC1.out.c3
    have z3 := HC1.out.fz 3
    have HB1 := Lib.hid (((Below.refl w.heap.size w).alloc (Nat.le_refl _) _).trans (hB1.mono (by simp)))
    have HLT := Lib.hid hlt
    clear hB1 hs hlt
    go_wp2_with fail
    go_ret2
    exact new_end (by have := HCL.out; omega) HT0.out HC1.out HB1.out HLT.out
end Go.Proofs.YtcjhbmkpfclmfaaDoor
