/-
  The chapter's example holds.
-/
import Derived.Test.YtcjhbmkpfclmfaaDoorWts
namespace Go.Proofs.YtcjhbmkpfclmfaaDoor
open Go.RowKit

theorem ints_nil (S : Nat → Prop) (w : World) (q : Nat → Int) : Ints S w none 0 q := fun _ hi => absurd hi (Nat.not_lt_zero _)
/-- Two waiters at one memory, without a machine. -/
structure Duo (w0 wS w : World) (g b Ba Bb : Nat) (s : Sy) (c : Int) : Prop where
  ta : TakerAt w Ba (s.l 0)
  tb : TakerAt w Bb (s.l 1)
  m : MemAt w g b 2 s.f c
  ne : g ≠ Ba ∧ b ≠ Ba ∧ g ≠ Bb ∧ b ≠ Bb ∧ Ba ≠ Bb
  lo : w0.heap.size ≤ g ∧ w0.heap.size ≤ b ∧ w0.heap.size ≤ Ba ∧ w0.heap.size ≤ Bb
  bel : Below w0.heap.size w0 w
  fr : Chg (fun k => k = g ∨ k = b ∨ k = Ba ∨ k = Bb) wS w
theorem duo_a {w0 wS w : World} {g b Ba Bb : Nat} {s : Sy} {c : Int} (h : Duo w0 wS w g b Ba Bb s c) (hG : GOk w0) (hc : 0 ≤ c ∧ c ≤ 1000) {r : Bool} {s' : Sy} (hd : (s.l 0).done = false) (hr : ((s.pick 2 0).l 0).done = r) (hs : s.pick 2 0 = s') :
    Calls Tryd.prog 13 #[.pointer (some ⟨Ba, 0, none⟩), .pointer (some ⟨g, 0, none⟩)] w fun e w' => e = .returned (.bool r) ∧ ∃ c', (0 ≤ c' ∧ c' ≤ c + 1) ∧ Duo w0 wS w' g b Ba Bb s' c' := by
  subst hr hs
  have h6 := six_of hG
  refine (step_any Ba g b 2 (s.l 0) s.f c w hd h.ta h.ne.1 h.ne.2.1 (hG.below h6 h.bel) h.m (by omega) (by omega)).mono ?_
  rintro e w' ⟨rfl, ⟨c', h1, h2, h3⟩, h4, h5⟩
  rw [pick_go hd]
  refine ⟨by simp only [upd_same], c', by omega, ⟨by show TakerAt w' Ba (upd s.l 0 _ 0); rw [upd_same]; exact h4, ?_, h3, h.ne, h.lo, ?_, h.fr.trans (h5.mono fun k hk => by unfold ST at hk; omega)⟩⟩
  · show TakerAt w' Bb (s.l 1)
    exact h.tb.same (h5.block _ h.tb.lt (by have := h.ne; unfold ST; omega))
  · exact h.bel.trans (h5.below (fun k hk => by have := h.lo; unfold ST at hk; omega) h.bel.size)
theorem duo_b {w0 wS w : World} {g b Ba Bb : Nat} {s : Sy} {c : Int} (h : Duo w0 wS w g b Ba Bb s c) (hG : GOk w0) (hc : 0 ≤ c ∧ c ≤ 1000) {r : Bool} {s' : Sy} (hd : (s.l 1).done = false) (hr : ((s.pick 2 1).l 1).done = r) (hs : s.pick 2 1 = s') :
    Calls Tryd.prog 13 #[.pointer (some ⟨Bb, 0, none⟩), .pointer (some ⟨g, 0, none⟩)] w fun e w' => e = .returned (.bool r) ∧ ∃ c', (0 ≤ c' ∧ c' ≤ c + 1) ∧ Duo w0 wS w' g b Ba Bb s' c' := by
  subst hr hs
  have h6 := six_of hG
  refine (step_any Bb g b 2 (s.l 1) s.f c w hd h.tb h.ne.2.2.1 h.ne.2.2.2.1 (hG.below h6 h.bel) h.m (by omega) (by omega)).mono ?_
  rintro e w' ⟨rfl, ⟨c', h1, h2, h3⟩, h4, h5⟩
  rw [pick_go hd]
  refine ⟨by simp only [upd_same], c', by omega, ⟨?_, by show TakerAt w' Bb (upd s.l 1 _ 1); rw [upd_same]; exact h4, h3, h.ne, h.lo, ?_, h.fr.trans (h5.mono fun k hk => by unfold ST at hk; omega)⟩⟩
  · show TakerAt w' Ba (s.l 0)
    exact h.ta.same (h5.block _ h.ta.lt (by have := h.ne; unfold ST; omega))
  · exact h.bel.trans (h5.below (fun k hk => by have := h.lo; unfold ST at hk; omega) h.bel.size)
def aw0 : Sy := ⟨fun _ => tk0 0 2 2, fun _ => 0⟩
def aw1 : Sy := aw0.pick 2 0
def aw2 : Sy := aw1.pick 2 0
def aw3 : Sy := aw2.pick 2 1
def aw4 : Sy := aw3.pick 2 1
def aw5 : Sy := aw4.pick 2 1
def aw6 : Sy := aw5.pick 2 0
theorem awd0 : (aw0.l 0).done = false ∧ ((aw0.pick 2 0).l 0).done = false := by decide +kernel
theorem awd1 : (aw1.l 0).done = false ∧ ((aw1.pick 2 0).l 0).done = false := by decide +kernel
theorem awd2 : (aw2.l 1).done = false ∧ ((aw2.pick 2 1).l 1).done = false := by decide +kernel
theorem awd3 : (aw3.l 1).done = false ∧ ((aw3.pick 2 1).l 1).done = false := by decide +kernel
theorem awd4 : (aw4.l 1).done = false ∧ ((aw4.pick 2 1).l 1).done = false ∧ (aw4.l 0).psd = 0 ∧ (aw4.l 1).came = 1 := by decide +kernel
theorem awd5 : (aw5.l 0).done = false ∧ ((aw5.pick 2 0).l 0).done = false ∧ (aw5.l 1).psd = 1 := by decide +kernel
theorem awd6 : (aw6.l 0).psd = 1 := by decide +kernel
theorem awp : (sy0 1 0 3).count 2 1 40 = 9 := by decide +kernel
set_option maxHeartbeats 8000000 in
set_option maxRecDepth 100000 in
theorem awake_any (w : World) (hG : GOk w) : Calls Tryd.prog 8 #[] w fun e w' => e = .returned (.bool true) ∧ Below w.heap.size w w' := by
  have HG := Lib.hid hG
  have H6 := Lib.hid (six_of hG)
  have hcl : clamp 2 = 2 := by unfold clamp; omega
  have hN0 := fun W => new_ok 0 2 2 W (by omega) (by omega) (by omega)
  simp only [NewP, hcl] at hN0
  have HN := Lib.hid hN0
  clear hG hcl hN0
  go_enter Tryd.func8, Tryd.ntmps8
  go_wp2_with fail
  with_reducible refine (new_one 2 (by omega) (by omega) 2 rfl _).mono ?_
  rintro e w1 ⟨g1, b1, rfl, hM1, hg1, hb1, hB1⟩
  have HM1 := Lib.hid hM1
  have HI1 := Lib.hid (And.intro hg1 hb1)
  have HB1 := Lib.hid hB1
  clear hM1 hg1 hb1 hB1
  go_wp2_with fail
  with_reducible refine (new_one 2 (by omega) (by omega) 2 rfl _).mono ?_
  rintro e w2 ⟨g2, b2, rfl, hM2, hg2, hb2, hB2⟩
  have HM2 := Lib.hid hM2
  have HI2 := Lib.hid (And.intro hg2 hb2)
  have HB2 := Lib.hid hB2
  clear hM2 hg2 hb2 hB2
  go_wp2_with fail
  with_reducible refine (HN.out _).mono ?_
  rintro e w3 ⟨rfl, hT3, hB3, hz3⟩
  have HT3 := Lib.hid hT3
  have HB3 := Lib.hid hB3
  have HZ3 := Lib.hid hz3
  clear hT3 hB3 hz3
  go_wp2_with fail
  with_reducible refine (HN.out _).mono ?_
  rintro e w4 ⟨rfl, hT4, hB4, hz4⟩
  have hb24 : Below w2.heap.size w2 w4 := HB3.out.trans (hB4.mono HB3.out.size)
  have hb14 : Below w1.heap.size w1 w4 := HB2.out.trans (hb24.mono HB2.out.size)
  have hb04 : Below w.heap.size w w4 := HB1.out.trans (hb14.mono HB1.out.size)
  have hD : Duo w w4 w4 g1 b1 w2.heap.size w3.heap.size aw0 0 := ⟨HT3.out.keep hB4, hT4, HM1.out.keep hb14, by
      have := HM1.out.ltg; have := HM1.out.row.lt; have := HB2.out.size; have := HZ3.out; omega, by
      have := HI1.out; have := HB1.out.size; have := HB2.out.size; have := HB3.out.size; omega, hb04, Chg.refl _⟩
  have HD := Lib.hid hD
  have HM24 := Lib.hid (HM2.out.keep hb24)
  have HX : Hid (g2 ≠ g1 ∧ g2 ≠ b1 ∧ b2 ≠ g1 ∧ b2 ≠ b1 ∧ g2 ≠ w2.heap.size ∧ g2 ≠ w3.heap.size ∧ b2 ≠ w2.heap.size ∧ b2 ≠ w3.heap.size) := Lib.hid (by
      have := HI2.out; have := HM1.out.ltg; have := HM1.out.row.lt; have := HM2.out.ltg; have := HM2.out.row.lt; have := HZ3.out; omega)
  clear hT4 hB4 hz4 hb24 hb14 hb04 hD HT3 HB3 HZ3 HN
  go_wp2_with fail
  with_reducible refine (duo_a HD.out HG.out (by omega) awd0.1 awd0.2 (s' := aw1) rfl).mono ?_
  rintro e w5 ⟨rfl, c1, hc, hD⟩
  have HD1 := Lib.hid hD
  have HC1 : Hid (0 ≤ c1 ∧ c1 ≤ 1) := Lib.hid (by omega)
  clear hD hc
  go_wp2_with fail
  with_reducible refine (duo_a HD1.out HG.out (by have := HC1.out; omega) awd1.1 awd1.2 (s' := aw2) rfl).mono ?_
  rintro e w6 ⟨rfl, c2, hc, hD⟩
  have HD2 := Lib.hid hD
  have HC2 : Hid (0 ≤ c2 ∧ c2 ≤ 2) := Lib.hid (by have := HC1.out; omega)
  clear hD hc
  go_wp2_with fail
  with_reducible refine (duo_b HD2.out HG.out (by have := HC2.out; omega) awd2.1 awd2.2 (s' := aw3) rfl).mono ?_
  rintro e w7 ⟨rfl, c3, hc, hD⟩
  have HD3 := Lib.hid hD
  have HC3 : Hid (0 ≤ c3 ∧ c3 ≤ 3) := Lib.hid (by have := HC2.out; omega)
  clear hD hc
  go_wp2_with fail
  with_reducible refine (duo_b HD3.out HG.out (by have := HC3.out; omega) awd3.1 awd3.2 (s' := aw4) rfl).mono ?_
  rintro e w8 ⟨rfl, c4, hc, hD⟩
  have HD4 := Lib.hid hD
  have HC4 : Hid (0 ≤ c4 ∧ c4 ≤ 4) := Lib.hid (by have := HC3.out; omega)
  clear hD hc
  go_wp2_with fail
  have hx := passed_any _ _ _ HD4.out.ta
  rw [awd4.2.2.1] at hx
  with_reducible refine hx.mono ?_
  clear hx
  rintro e w' ⟨rfl, rfl⟩
  go_wp2_with fail
  have hx := came_any _ _ _ HD4.out.tb
  rw [awd4.2.2.2] at hx
  with_reducible refine hx.mono ?_
  clear hx
  rintro e w' ⟨rfl, rfl⟩
  go_wp2_with fail
  with_reducible refine (duo_b HD4.out HG.out (by have := HC4.out; omega) awd4.1 awd4.2.1 (s' := aw5) rfl).mono ?_
  rintro e w9 ⟨rfl, c5, hc, hD⟩
  have HD5 := Lib.hid hD
  have HC5 : Hid (0 ≤ c5 ∧ c5 ≤ 5) := Lib.hid (by have := HC4.out; omega)
  clear hD hc
  go_wp2_with fail
  have hx := passed_any _ _ _ HD5.out.tb
  rw [awd5.2.2] at hx
  with_reducible refine hx.mono ?_
  clear hx
  rintro e w' ⟨rfl, rfl⟩
  go_wp2_with fail
  with_reducible refine (duo_a HD5.out HG.out (by have := HC5.out; omega) awd5.1 awd5.2.1 (s' := aw6) rfl).mono ?_
  rintro e w10 ⟨rfl, c6, hc, hD⟩
  have HD6 := Lib.hid hD
  have HC6 : Hid (0 ≤ c6 ∧ c6 ≤ 6) := Lib.hid (by have := HC5.out; omega)
  clear hD hc
  go_wp2_with fail
  have hx := passed_any _ _ _ HD6.out.ta
  rw [awd6] at hx
  with_reducible refine hx.mono ?_
  clear hx
  rintro e w' ⟨rfl, rfl⟩
  go_wp2_with fail
  have HMk := Lib.hid (HD6.out.fr.mem HM24.out (by have := HX.out; omega) (by have := HX.out; omega))
  have h6' : 6 ≤ g2 ∧ 6 ≤ b2 := by have := HI2.out; have := HB1.out.size; have := H6.out; omega
  with_reducible refine (play_any g2 b2 2 0 1 40 0 1 3 none 0 0 (fun _ => 0) 0 _ rfl rfl (HG.out.below H6.out HD6.out.bel) (by omega) (by omega) (by omega) (by omega) (by omega) HMk.out (by omega) h6' (ints_nil _ _ _) (by omega) (by omega)).mono ?_
  rintro e w11 ⟨rfl, _, hC⟩
  have hawp : ((sy0 1 0 3).runI 2 1 (fun _ => 0) 0).count 2 1 40 = 9 := awp
  rw [hawp]
  have HB11 := Lib.hid (HD6.out.bel.trans (hC.below (fun k hk => by have := HI2.out; have := HB1.out.size; omega) HD6.out.bel.size))
  clear hC hawp h6'
  go_wp2_with fail
  go_ret
  exact ⟨rfl, HB11.out⟩
end Go.Proofs.YtcjhbmkpfclmfaaDoor
