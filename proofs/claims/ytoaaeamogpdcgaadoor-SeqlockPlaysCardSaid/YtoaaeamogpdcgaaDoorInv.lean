/-
  What is kept while a writer and a reader do their steps in whatever order: the counter and the words tell how far the writer is; what a reader has read while the counter stood still is one version.
-/
import Derived.Test.YtoaaeamogpdcgaaDoorAwkW
namespace Go.Proofs.YtoaaeamogpdcgaaDoor
open Go.RowKit

/-- A word of a version; version 0 is noughts. -/
def verN (F : Nat → Ver) (k j : Nat) : Int := if k = 0 then 0 else (F (k - 1)).v j
/-- How often the counter was added to. -/
def Wr.cnt (s : Wr) : Nat := 2 * s.wr + (if s.k.ph = 1 ∨ s.k.ph = 2 then 1 else 0)
/-- How many steps the writer has done. -/
def Wr.tm (s : Wr) : Nat := s.wr * (s.k.n + 2) + (match s.k.ph with | 1 => 1 + s.k.pa | 2 => s.k.n + 1 | _ => 0)
/-- The version whose word j stands there. -/
def Wr.vof (s : Wr) (j : Nat) : Nat := if (s.k.ph = 1 ∧ j < s.k.pa) ∨ s.k.ph = 2 then s.wr + 1 else s.wr
/-- Where, how many words, how many versions, which, the counter at first. -/
structure Cfg where
  at' : Nat
  n : Nat
  L : Nat
  F : Nat → Ver
  c0 : Int
structure Cfg.Ok (g : Cfg) (m : Nat) : Prop where
  n1 : 1 ≤ g.n
  m1 : g.at' + g.n < m
  L1 : 1 ≤ g.L
  L2 : g.L ≤ 1000000
  c1 : 0 ≤ g.c0 ∧ g.c0 < 4294967296 ∧ g.c0 % 2 = 0
structure WInv (g : Cfg) (s : Wr) (f : Nat → Int) : Prop where
  ea : s.k.at' = g.at'
  en : s.k.n = g.n
  eL : s.L = g.L
  eV : s.V = flatV g.n g.F
  p3 : s.k.ph ≤ 3
  wl : s.wr ≤ g.L ∧ (s.k.ph < 3 → s.wr < g.L) ∧ (s.k.ph = 3 → s.wr = g.L)
  pa : s.k.ph < 3 → s.k.pa < g.n ∧ (s.k.ph ≠ 1 → s.k.pa = 0)
  cn : f g.at' = (g.c0 + s.cnt) % 4294967296
  wd : ∀ j, j < g.n → f (g.at' + 1 + j) = verN g.F (s.vof j) j
theorem winv0 (g : Cfg) (m : Nat) (h : g.Ok m) (f : Nat → Int) (h0 : f g.at' = g.c0) (h1 : ∀ j, j < g.n → f (g.at' + 1 + j) = 0) : WInv g (wr0 g.at' g.n g.L (flatV g.n g.F)) f := by
  have h2 := h.n1
  have h3 := h.L1
  have h4 := h.c1
  refine ⟨rfl, rfl, rfl, rfl, by show 0 ≤ 3; omega, ⟨Nat.zero_le _, fun _ => by show 0 < g.L; omega, fun e => by cases e⟩, fun _ => ⟨by show 0 < g.n; omega, fun _ => rfl⟩, ?_, fun j hj => ?_⟩
  · rw [h0]; show g.c0 = (g.c0 + ((2 * 0 + 0 : Nat) : Int)) % 4294967296; omega
  · rw [h1 j hj]; rfl
section
variable {g : Cfg} {m : Nat} {s : Wr} {f : Nat → Int}
theorem WInv.whin (h : WInv g s f) (ho : g.Ok m) (hp : s.k.ph < 3) : ∃ i : Nat, s.k.wh = i ∧ i < m ∧ (s.k.ph ≠ 1 → i = g.at') ∧ (s.k.ph = 1 → i = g.at' + 1 + s.k.pa) := by
  have h1 := h.pa hp
  have h2 := ho.m1
  have h3 := h.ea
  by_cases e : s.k.ph = 1
  · refine ⟨g.at' + 1 + s.k.pa, by rw [wh1 e, h3]; simp, by omega, fun x => absurd e x, fun _ => rfl⟩
  · exact ⟨g.at', by rw [wh02 (by omega), h3], by omega, fun _ => rfl, fun x => absurd x e⟩
theorem verN_flat (g : Cfg) {k j : Nat} (hj : j < g.n) : verN g.F (k + 1) j = flatV g.n g.F (k * g.n + j) := by
  rw [flatV_at hj]; rfl
theorem WInv.step0 (h : WInv g s f) (ho : g.Ok m) (hp : s.k.ph = 0) : WInv g (s.step m) (s.word m f) ∧ (s.step m).tm = s.tm + 1 ∧ (s.step m).cnt = s.cnt + 1 ∧ (s.step m).k.ph = 1 ∧ (s.step m).wr = s.wr := by
  obtain ⟨i, hi, him, h1, _⟩ := h.whin ho (by omega)
  have h1 := h1 (by omega)
  have hpa := h.pa (by omega)
  have hpz := hpa.2 (by omega)
  have ha := h.ea; have hn := h.en; have hL := h.eL; have hV := h.eV; have hwl := h.wl; have hcn := h.cn
  rw [Wr.step0 hp (by omega), Wr.word02 (.inl hp) hi him]
  subst h1
  have hc : Wr.cnt { s with k := { s.k with ph := 1 } } = s.cnt + 1 := by unfold Wr.cnt; rw [hp]; simp
  refine ⟨⟨ha, hn, hL, hV, by show 1 ≤ 3; omega, ⟨hwl.1, fun _ => hwl.2.1 (by omega), fun e => by cases e⟩, fun _ => ⟨hpa.1, fun e => absurd rfl e⟩, ?_, fun j hj => ?_⟩, ?_, hc, rfl, rfl⟩
  · rw [upd_same, hc, hcn]; unfold inc; omega
  · rw [upd_other (by omega), h.wd j hj]
    congr 1
    show s.vof j = Wr.vof { s with k := { s.k with ph := 1 } } j
    unfold Wr.vof
    rw [hp, hpz]; simp
  · unfold Wr.tm; rw [hp]; simp [hpz]
theorem WInv.step1 (h : WInv g s f) (ho : g.Ok m) (hp : s.k.ph = 1) : WInv g (s.step m) (s.word m f) ∧ (s.step m).tm = s.tm + 1 ∧ (s.step m).cnt = s.cnt ∧ ((s.step m).k.ph = 1 ∨ (s.step m).k.ph = 2) ∧ (s.step m).wr = s.wr := by
  obtain ⟨i, hi, him, _, h1⟩ := h.whin ho (by omega)
  have h1 := h1 hp
  have hpa := h.pa (by omega)
  have ha := h.ea; have hn := h.en; have hL := h.eL; have hV := h.eV; have hwl := h.wl; have hcn := h.cn
  rw [Wr.step1 hp (by omega), Wr.word1 hp hi him]
  subst h1
  have hv : s.V (s.wr * s.k.n + s.k.pa) = verN g.F (s.wr + 1) s.k.pa := by rw [hV, hn, verN_flat g hpa.1]
  rw [hv]
  by_cases hx : s.k.pa + 1 < s.k.n
  · rw [Wk.pass_yes hx]
    have hc : Wr.cnt { s with k := { s.k with ph := 1, pa := s.k.pa + 1 } } = s.cnt := by unfold Wr.cnt; rw [hp]
    refine ⟨⟨ha, hn, hL, hV, by show 1 ≤ 3; omega, ⟨hwl.1, fun _ => hwl.2.1 (by omega), fun e => by cases e⟩, fun _ => ⟨by rw [← hn]; exact hx, fun e => absurd rfl e⟩, ?_, fun j hj => ?_⟩, ?_, hc, .inl rfl, rfl⟩
    · rw [upd_other (by omega), hc, hcn]
    · by_cases e : j = s.k.pa
      · subst e
        rw [upd_same]
        congr 1
        show s.wr + 1 = Wr.vof { s with k := { s.k with ph := 1, pa := s.k.pa + 1 } } s.k.pa
        unfold Wr.vof
        rw [if_pos (.inl ⟨rfl, Nat.lt_succ_self _⟩)]
      · rw [upd_other (by omega), h.wd j hj]
        congr 1
        unfold Wr.vof
        simp only [hp]
        by_cases e2 : j < s.k.pa
        · rw [if_pos (by simp [e2]), if_pos (.inl ⟨trivial, by omega⟩)]
        · rw [if_neg (by simp; omega), if_neg (by simp; omega)]
    · unfold Wr.tm; rw [hp]; simp; omega
  · rw [Wk.pass_no hx]
    have hc : Wr.cnt { s with k := { s.k with ph := 2, pa := 0 } } = s.cnt := by unfold Wr.cnt; rw [hp]; simp
    refine ⟨⟨ha, hn, hL, hV, by show 2 ≤ 3; omega, ⟨hwl.1, fun _ => hwl.2.1 (by omega), fun e => by cases e⟩, fun _ => ⟨by have := ho.n1; show 0 < g.n; omega, fun _ => rfl⟩, ?_, fun j hj => ?_⟩, ?_, hc, .inr rfl, rfl⟩
    · rw [upd_other (by omega), hc, hcn]
    · have hv2 : Wr.vof { s with k := { s.k with ph := 2, pa := 0 } } j = s.wr + 1 := by unfold Wr.vof; simp
      rw [hv2]
      by_cases e : j = s.k.pa
      · subst e
        rw [upd_same]
      · rw [upd_other (by omega), h.wd j hj]
        congr 1
        unfold Wr.vof
        rw [if_pos (.inl ⟨hp, by omega⟩)]
    · unfold Wr.tm; rw [hp]; simp; omega
theorem WInv.step2 (h : WInv g s f) (ho : g.Ok m) (hp : s.k.ph = 2) : WInv g (s.step m) (s.word m f) ∧ (s.step m).tm = s.tm + 1 ∧ (s.step m).cnt = s.cnt + 1 ∧ ((s.step m).k.ph = 0 ∨ (s.step m).k.ph = 3) ∧ (s.step m).wr = s.wr + 1 := by
  obtain ⟨i, hi, him, h1, _⟩ := h.whin ho (by omega)
  have h1 := h1 (by omega)
  have hpa := h.pa (by omega)
  have hpz := hpa.2 (by omega)
  have ha := h.ea; have hn := h.en; have hL := h.eL; have hV := h.eV; have hwl := h.wl; have hcn := h.cn
  have hlt := hwl.2.1 (by omega)
  rw [Wr.step2 hp (by omega), Wr.word02 (.inr hp) hi him]
  subst h1
  obtain ⟨q, hq⟩ : ∃ q, q = if s.wr + 1 = s.L then 3 else 0 := ⟨_, rfl⟩
  rw [← hq]
  have hq2 : (q = 0 ∧ s.wr + 1 < g.L) ∨ (q = 3 ∧ s.wr + 1 = g.L) := by
    rw [hq, hL]; split <;> omega
  have hc : Wr.cnt { s with k := { s.k with ph := q }, wr := s.wr + 1 } = s.cnt + 1 := by
    unfold Wr.cnt; rw [hp]
    rcases hq2 with ⟨rfl, _⟩ | ⟨rfl, _⟩ <;> simp <;> omega
  have hn1 := ho.n1
  refine ⟨⟨ha, hn, hL, hV, by show q ≤ 3; omega, ⟨by show s.wr + 1 ≤ g.L; omega, fun hh => by have hh : q < 3 := hh; show s.wr + 1 < g.L; omega, fun hh => by have hh : q = 3 := hh; show s.wr + 1 = g.L; omega⟩, fun hh => ⟨by show s.k.pa < g.n; omega, fun _ => hpz⟩, ?_, fun j hj => ?_⟩, ?_, hc, by show q = 0 ∨ q = 3; omega, rfl⟩
  · rw [upd_same, hc, hcn]; unfold inc; omega
  · rw [upd_other (by omega), h.wd j hj]
    congr 1
    show s.vof j = Wr.vof { s with k := { s.k with ph := q }, wr := s.wr + 1 } j
    unfold Wr.vof
    rw [if_pos (.inr hp)]
    rcases hq2 with ⟨rfl, _⟩ | ⟨rfl, _⟩ <;> simp
  · unfold Wr.tm
    rw [hp]
    rcases hq2 with ⟨rfl, _⟩ | ⟨rfl, _⟩ <;> simp [Nat.succ_mul] <;> omega
/-- The counter never falls, and a writer's step from where it is even changes it. -/
theorem WInv.step (h : WInv g s f) (ho : g.Ok m) : WInv g (s.step m) (s.word m f) ∧ (s.k.ph < 3 → (s.step m).tm = s.tm + 1) ∧ s.cnt ≤ (s.step m).cnt ∧ s.wr ≤ (s.step m).wr ∧ (s.k.ph = 0 → s.cnt < (s.step m).cnt) ∧ (s.k.ph = 3 → s.step m = s ∧ s.word m f = f) := by
  have h3 := h.p3
  have hc : s.k.ph = 0 ∨ s.k.ph = 1 ∨ s.k.ph = 2 ∨ s.k.ph = 3 := by omega
  rcases hc with hp | hp | hp | hp
  · obtain ⟨a, b, c, d, e⟩ := h.step0 ho hp
    exact ⟨a, fun _ => b, by omega, by omega, fun _ => by omega, fun x => by omega⟩
  · obtain ⟨a, b, c, d, e⟩ := h.step1 ho hp
    exact ⟨a, fun _ => b, by omega, by omega, fun x => by omega, fun x => by omega⟩
  · obtain ⟨a, b, c, d, e⟩ := h.step2 ho hp
    exact ⟨a, fun _ => b, by omega, by omega, fun x => by omega, fun x => by omega⟩
  · have e1 : s.step m = s := Wr.step_over (by omega)
    have e2 : s.word m f = f := by unfold Wr.word; rw [if_pos (by omega)]
    rw [e1, e2]
    exact ⟨h, fun x => by omega, Nat.le_refl _, Nat.le_refl _, fun x => by omega, fun _ => ⟨rfl, rfl⟩⟩
/-- Done just when all steps are done. -/
theorem WInv.done (h : WInv g s f) : s.tm ≤ g.L * (g.n + 2) ∧ (s.k.ph = 3 ↔ s.tm = g.L * (g.n + 2)) := by
  have h3 := h.p3
  have hn := h.en
  have hwl := h.wl
  have hc : s.k.ph = 3 ∨ s.k.ph < 3 := by omega
  rcases hc with hp | hp
  · have := hwl.2.2 hp
    have e : s.tm = g.L * (g.n + 2) := by unfold Wr.tm; rw [hp, hn, this]; rfl
    exact ⟨by omega, fun _ => e, fun _ => hp⟩
  · have h1 := hwl.2.1 hp
    have h2 := h.pa hp
    have : (s.wr + 1) * (g.n + 2) ≤ g.L * (g.n + 2) := Nat.mul_le_mul_right _ h1
    rw [Nat.succ_mul] at this
    have : s.tm < g.L * (g.n + 2) := by
      unfold Wr.tm; rw [hn]
      have hc : s.k.ph = 0 ∨ s.k.ph = 1 ∨ s.k.ph = 2 := by omega
      rcases hc with e | e | e <;> rw [e] <;> simp <;> omega
    exact ⟨by omega, fun e => by omega, fun e => by omega⟩
/-- The counter is even just where no version is being written. -/
theorem WInv.even (h : WInv g s f) (ho : g.Ok m) : f g.at' % 2 = 0 ↔ (s.k.ph = 0 ∨ s.k.ph = 3) := by
  have h3 := h.p3
  have h4 := ho.c1
  rw [h.cn]
  unfold Wr.cnt
  by_cases e : s.k.ph = 1 ∨ s.k.ph = 2
  · rw [if_pos e]; omega
  · rw [if_neg e]; omega
end
/-- A reader of the words that began when a writer had written so many versions. -/
structure RInv (g : Cfg) (s : Wr) (f : Nat → Int) (b : Nat) (r : Rd) : Prop where
  ea : r.k.at' = g.at'
  en : r.k.n = g.n
  p3 : r.k.ph ≤ 3
  pa : r.k.ph < 3 → r.k.pa < g.n ∧ (r.k.ph ≠ 1 → r.k.pa = 0)
  bw : b ≤ s.wr
  cn : r.k.ph ≠ 0 → r.cn = (g.c0 + (2 * b : Nat)) % 4294967296
  w1 : r.k.ph = 1 → s.cnt = 2 * b → ∀ j, j < r.k.pa → r.ws j = verN g.F b j
  w2 : r.k.ph = 2 → s.cnt = 2 * b → ∀ j, j < g.n → r.ws j = verN g.F b j
  w3 : r.k.ph = 3 → ∀ j, j < g.n → r.ws j = verN g.F b j
  tr : r.k.ph ≠ 0 → 1 ≤ r.tr
theorem rinv0 (g : Cfg) (m : Nat) (ho : g.Ok m) (s : Wr) (f : Nat → Int) (b : Nat) (hb : b ≤ s.wr) : RInv g s f b (rd0 g.at' g.n) :=
  ⟨rfl, rfl, by show 0 ≤ 3; omega, fun _ => ⟨by have := ho.n1; show 0 < g.n; omega, fun _ => rfl⟩, hb, fun h => absurd rfl h, fun h => absurd h (by show ¬ 0 = 1; omega), fun h => absurd h (by show ¬ 0 = 2; omega), fun h => absurd h (by show ¬ 0 = 3; omega), fun h => absurd rfl h⟩
section
variable {g : Cfg} {m : Nat} {s : Wr} {f : Nat → Int} {b : Nat} {r : Rd}
theorem cnt_ge (s : Wr) : 2 * s.wr ≤ s.cnt := by unfold Wr.cnt; omega
/-- A writer's step between. -/
theorem RInv.write (h : RInv g s f b r) (hw : WInv g s f) (ho : g.Ok m) : RInv g (s.step m) (s.word m f) b r := by
  obtain ⟨_, _, h1, h2, h3, h4⟩ := hw.step ho
  have key : (s.step m).cnt = 2 * b → s.cnt = 2 * b := fun e => by
    have := cnt_ge s
    have := h.bw
    omega
  exact ⟨h.ea, h.en, h.p3, h.pa, by have := h.bw; omega, h.cn, fun hp e => h.w1 hp (key e), fun hp e => h.w2 hp (key e), h.w3, h.tr⟩
theorem RInv.whin (h : RInv g s f b r) (ho : g.Ok m) (hp : r.k.ph < 3) : ∃ i : Nat, r.k.wh = i ∧ i < m ∧ (r.k.ph ≠ 1 → i = g.at') ∧ (r.k.ph = 1 → i = g.at' + 1 + r.k.pa) := by
  have h1 := h.pa hp
  have h2 := ho.m1
  have h3 := h.ea
  by_cases e : r.k.ph = 1
  · refine ⟨g.at' + 1 + r.k.pa, by rw [wh1 e, h3]; simp, by omega, fun x => absurd e x, fun _ => rfl⟩
  · exact ⟨g.at', by rw [wh02 (by omega), h3], by omega, fun _ => rfl, fun x => absurd x e⟩
/-- Where the counter is what it was, nothing was written since. -/
theorem cnt_same (hw : WInv g s f) (ho : g.Ok m) (hb : b ≤ s.wr) (e : f g.at' = (g.c0 + (2 * b : Nat)) % 4294967296) : s.cnt = 2 * b := by
  rw [hw.cn] at e
  have h1 := ho.c1
  have h2 := ho.L2
  have h3 := hw.wl.1
  have h4 := cnt_ge s
  have h5 : s.cnt ≤ 2 * s.wr + 1 := by unfold Wr.cnt; split <;> omega
  omega
theorem cnt_at (e : s.cnt = 2 * b) (hb : b ≤ s.wr) : s.wr = b ∧ ¬ (s.k.ph = 1 ∨ s.k.ph = 2) := by
  have h4 := cnt_ge s
  refine ⟨by omega, fun h => ?_⟩
  unfold Wr.cnt at e
  rw [if_pos h] at e
  omega
/-- A reader's step: where it begins anew, it begins with as many versions as are written. -/
theorem RInv.read (h : RInv g s f b r) (hw : WInv g s f) (ho : g.Ok m) :
    ((r.step m f).tr = r.tr ∧ RInv g s f b (r.step m f) ∨ (r.k.ph = 0 ∧ (r.step m f).tr = r.tr + 1 ∧ RInv g s f s.wr (r.step m f) ∧ (r.step m f).k.ph = 1)) := by
  have h3 := h.p3
  have hc : r.k.ph = 0 ∨ r.k.ph = 1 ∨ r.k.ph = 2 ∨ r.k.ph = 3 := by omega
  have ha := h.ea; have hn := h.en; have hn1 := ho.n1
  rcases hc with hp | hp | hp | hp
  · obtain ⟨i, hi, him, h1, _⟩ := h.whin ho (by omega)
    have h1 := h1 (by omega)
    have hpa := h.pa (by omega)
    have hpz := hpa.2 (by omega)
    subst h1
    rw [Rd.step0 hp hi him]
    by_cases hx : f g.at' % 2 = 1
    · rw [if_pos hx]; exact .inl ⟨rfl, h⟩
    · rw [if_neg hx]
      have hev := (hw.even ho).1 (by omega)
      have hcnt : s.cnt = 2 * s.wr := by unfold Wr.cnt; rw [if_neg (by omega)]; omega
      refine .inr ⟨hp, rfl, ⟨ha, hn, by show 1 ≤ 3; omega, fun _ => ⟨hpa.1, fun e => absurd rfl e⟩, Nat.le_refl _, fun _ => ?_, fun _ _ j hj => ?_, fun e => (nomatch e), fun e => (nomatch e), fun _ => by show 1 ≤ r.tr + 1; omega⟩, rfl⟩
      · show f g.at' = _; rw [hw.cn, hcnt]
      · have hj : j < r.k.pa := hj; omega
  · obtain ⟨i, hi, him, _, h1⟩ := h.whin ho (by omega)
    have h1 := h1 hp
    have hpa := h.pa (by omega)
    subst h1
    rw [Rd.step1 hp hi him]
    have hval : s.cnt = 2 * b → f (g.at' + 1 + r.k.pa) = verN g.F b r.k.pa := fun e => by
      obtain ⟨e1, e2⟩ := cnt_at e h.bw
      rw [hw.wd _ hpa.1]
      congr 1
      unfold Wr.vof
      rw [if_neg (by omega), e1]
    have hall : s.cnt = 2 * b → ∀ j, j < r.k.pa + 1 → upd r.ws r.k.pa (f (g.at' + 1 + r.k.pa)) j = verN g.F b j := fun e j hj => by
      by_cases ej : j = r.k.pa
      · subst ej; rw [upd_same]; exact hval e
      · rw [upd_other ej]; exact h.w1 hp e j (by omega)
    refine .inl ⟨rfl, ?_⟩
    by_cases hx : r.k.pa + 1 < r.k.n
    · rw [Wk.pass_yes hx]
      exact ⟨ha, hn, by show 1 ≤ 3; omega, fun _ => ⟨by rw [← hn]; exact hx, fun e => absurd rfl e⟩, h.bw, fun _ => h.cn (by omega), fun _ e => hall e, fun e => (nomatch e), fun e => (nomatch e), fun _ => h.tr (by omega)⟩
    · rw [Wk.pass_no hx]
      exact ⟨ha, hn, by show 2 ≤ 3; omega, fun _ => ⟨by show 0 < g.n; omega, fun _ => rfl⟩, h.bw, fun _ => h.cn (by omega), fun e => (nomatch e), fun _ e j hj => hall e j (by omega), fun e => (nomatch e), fun _ => h.tr (by omega)⟩
  · obtain ⟨i, hi, him, h1, _⟩ := h.whin ho (by omega)
    have h1 := h1 (by omega)
    have hpa := h.pa (by omega)
    have hpz := hpa.2 (by omega)
    subst h1
    rw [Rd.step2 hp hi him]
    refine .inl ⟨rfl, ?_⟩
    by_cases hx : f g.at' = r.cn
    · rw [if_pos hx]
      have hb := cnt_same hw ho h.bw (by rw [hx]; exact h.cn (by omega))
      exact ⟨ha, hn, by show 3 ≤ 3; omega, fun e => absurd e (by show ¬ 3 < 3; omega), h.bw, fun _ => h.cn (by omega), fun e => (nomatch e), fun e => (nomatch e), fun _ => h.w2 hp hb, fun _ => h.tr (by omega)⟩
    · rw [if_neg hx]
      exact ⟨ha, hn, by show 0 ≤ 3; omega, fun _ => ⟨hpa.1, fun _ => hpz⟩, h.bw, fun e => absurd rfl e, fun e => (nomatch e), fun e => (nomatch e), fun e => (nomatch e), fun e => absurd rfl e⟩
  · rw [Rd.step_over (by omega)]
    exact .inl ⟨rfl, h⟩
theorem RInv.ph3 (h : RInv g s f b r) : decide (3 ≤ r.k.ph) = true ↔ r.k.ph = 3 := by
  have := h.p3
  rw [decide_eq_true_iff]
  omega
end
end Go.Proofs.YtoaaeamogpdcgaaDoor
