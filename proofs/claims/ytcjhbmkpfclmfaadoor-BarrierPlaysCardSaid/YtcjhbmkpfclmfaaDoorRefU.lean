/-
  The document's answer against the program's: a step, a new waiter.
-/
import Derived.Test.YtcjhbmkpfclmfaaDoorRefT
namespace Go.Proofs.YtcjhbmkpfclmfaaDoor
open Go.RowKit

/-- The document's waiter and the program's. -/
structure RR (t : Tk) (r : RT) : Prop where
  cm : r.cm = t.came
  ps : r.ps = t.psd
  done : r.done = t.done
  next : t.done = false → r.next = if t.ph = 4 then 1 else (t.ph : Int) + 1
  fa : r.a = t.at'
  fn : r.n = t.n
  fr : r.r = t.rds
  zero : t.ph = 4 → t.done = false → r.ps = r.r
  wf : Wf t
/-- What Step does, against the program's step. -/
def RStepP (t : Tk) (f : Nat → Int) (U : Option Addr) (w : World) (e : Ending) (w' : World) : Prop :=
  ∃ r' U' d, e = .returned (.tuple #[rV r', .slice U' 4 d]) ∧ RR (t.next 4 (f t.wh.toNat)) r' ∧ Us w' U' 4 (upd f t.wh.toNat (t.word 4 (f t.wh.toNat))) ∧ Below w.heap.size w w' ∧ Anew U w.heap.size U'
theorem rstepP_of {t : Tk} {r' : RT} {f f' : Nat → Int} {U : Option Addr} {w : World} (hR : RR (t.next 4 (f t.wh.toNat)) r') (hf : ∀ i, f' i = upd f t.wh.toNat (t.word 4 (f t.wh.toNat)) i) {e : Ending} {w' : World} (h : RGo r' f' U w e w') : RStepP t f U w e w' := by
  obtain ⟨U', d, h1, h2, h3, h4⟩ := h
  exact ⟨r', U', d, h1, hR, h2.congr fun i _ => hf i, h3, h4⟩
theorem over_of {t : Tk} (h : 4 ≤ t.ph ∨ ¬ (0 ≤ t.wh ∧ t.wh < 4)) : t.over 4 = true := by
  unfold Tk.over
  rcases h with h | h
  · simp [h]
  · rw [inM_ne (by omega)]; simp
theorem over_not {t : Tk} (h : t.ph < 4) (h2 : 0 ≤ t.wh ∧ t.wh < 4) : t.over 4 = false := by
  unfold Tk.over
  rw [inM_of (by omega)]
  simp; omega
theorem rr_end {t : Tk} {r : RT} (h : RR t r) : RR t.end (rEnd r) :=
  ⟨h.cm, h.ps, rfl, fun e => Bool.noConfusion (show true = false from e), h.fa, h.fn, h.fr, fun _ e => Bool.noConfusion (show true = false from e), h.wf.end⟩
/-- A round passed, in both. -/
theorem rr_pass {t : Tk} {a n rr nx cm ps : Int} {dn : Bool} (h : RR t ⟨a, n, rr, nx, cm, ps, dn⟩) (hd : t.done = false) (h0 : 1 ≤ t.ph ∧ t.ph ≤ 3) : RR t.pass ⟨a, n, rr, 1, cm, ps + 1, (ps + 1 == rr)⟩ := by
  obtain ⟨p0, p1, p2, p3, p4, p5, p6⟩ := pass_cells t
  have e1 : cm = t.came := h.cm
  have e2 : ps = t.psd := h.ps
  have e5 : rr = t.rds := h.fr
  have hdn := p6 hd
  rw [p5] at hdn
  have hq : t.pass.done = (ps + 1 == rr) := by
    rw [hdn, e2, e5]
    by_cases hh : t.psd + 1 = t.rds
    · rw [if_pos hh, hh]; simp
    · rw [if_neg hh, beq_eq_false_iff_ne.2 hh]; simp
  refine ⟨by rw [p3]; exact e1, by rw [p4]; show ps + 1 = _; omega, hq.symm, fun hh => ?_, by rw [p0]; exact h.fa, by rw [p1]; exact h.fn, by rw [p2]; exact e5, fun hh hh2 => ?_, h.wf.pass h0⟩
  · rw [p5]
    show (1 : Int) = _
    split <;> split <;> first | rfl | omega
  · rw [hq] at hh2
    rw [p5] at hh
    split at hh
    · rename_i h3
      exact absurd hh2 (by rw [e2, e5, h3]; simp)
    · omega
set_option maxHeartbeats 4000000 in
theorem rstep_any (t : Tk) (r : RT) (U : Option Addr) (cp : Nat) (f : Nat → Int) (w : World) (h : RR t r) (hd : t.done = false) (hU : Us w U 4 f) (hf : ∀ i, i < 4 → 0 ≤ f i ∧ f i < 4294967296) :
    Calls Tryd.prog 12 #[rV r, .slice U 4 cp] w fun e w' => RStepP t f U w e w' := by
  have hW := h.wf
  have hp := hW.pl.1
  have hps := hW.ps
  have hcm := hW.cm
  have har := hW.ar
  have H : RR t r := h
  obtain ⟨e1, e2, e3, e4, e5, e6, e7, e8, _⟩ := h
  have e4 := e4 hd
  obtain ⟨a, n, rr, nx, cm, ps, dn⟩ := r
  simp only at e1 e2 e3 e4 e5 e6 e7 e8
  have hend : t.over 4 = true → ∀ {e w'}, RGo (rEnd ⟨a, n, rr, nx, cm, ps, dn⟩) f U w e w' → RStepP t f U w e w' := fun ho {e w'} hg =>
    rstepP_of (by rw [next_end ho]; exact rr_end H) (fun i => by rw [word_end ho, upd_self]) hg
  rcases cases5 hp with e | e | e | e | e
  · rw [e, if_neg (by omega)] at e4
    obtain rfl : nx = 1 := by omega
    have hl := hW.pl.2 (by omega)
    have hc0 := hW.c0 e
    have hwh : t.wh = a := by unfold Tk.wh; rw [e]; exact e5.symm
    by_cases hi : 0 ≤ a ∧ a < 4
    · have ho : t.over 4 = false := over_not (by omega) (by omega)
      have hfi := hf a.toNat (by omega)
      refine (rstep_go1 a n rr cm ps dn a.toNat U cp f w hU (by omega) (by omega) (by omega) (by omega) (by omega) (by rw [e6]; exact hW.nn) _ _ rfl rfl).mono fun e' w' hg => rstepP_of ?_ (fun i => ?_) hg
      · have hWg := hW.go (by omega) (f a.toNat)
        have hn := hW.nn
        rw [next_go ho, hwh]
        rw [go0 e] at hWg ⊢
        by_cases hx : f a.toNat = t.n - 1
        · have hx2 : inc (f a.toNat) = n := by unfold inc; omega
          rw [if_pos hx] at hWg ⊢
          rw [if_pos hx2]
          exact ⟨by show cm + 1 = t.came + 1; omega, e2, hd.symm, fun _ => rfl, e5, e6, e7, fun hh => absurd (show (1 : Nat) = 4 from hh) (by omega), hWg⟩
        · have hx2 : ¬ inc (f a.toNat) = n := by unfold inc; omega
          rw [if_neg hx] at hWg ⊢
          rw [if_neg hx2]
          exact ⟨by show cm + 1 = t.came + 1; omega, e2, hd.symm, fun _ => rfl, e5, e6, e7, fun hh => absurd (show (3 : Nat) = 4 from hh) (by omega), hWg⟩
      · rw [word_go ho, hwh]
        unfold Tk.puts
        rw [e]
        rfl
    · by_cases h0 : a < 0
      · exact (rstep_miss1a a n rr cm ps dn U cp f w hU (by omega) (by omega) h0).mono fun e' w' hg => hend (over_of (by right; omega)) hg
      · exact (rstep_miss1b a n rr cm ps dn U cp f w hU (by omega) (by omega) (by omega)).mono fun e' w' hg => hend (over_of (by right; omega)) hg
  · rw [e, if_neg (by omega)] at e4
    obtain rfl : nx = 2 := by omega
    have hl := hW.pl.2 (by omega)
    have hwh : t.wh = a := by unfold Tk.wh; rw [e]; exact e5.symm
    by_cases hi : 0 ≤ a ∧ a < 4
    · have ho : t.over 4 = false := over_not (by omega) (by omega)
      refine (rstep_go2 a n rr cm ps dn a.toNat U cp f w hU (by omega) (by omega) (by omega) (by omega) (by omega) (by rw [e6]; exact hW.nn)).mono fun e' w' hg => rstepP_of ?_ (fun i => ?_) hg
      · have hWg := hW.go (by omega) (f a.toNat)
        rw [next_go ho, hwh]
        rw [go1 e] at hWg ⊢
        exact ⟨e1, e2, hd.symm, fun _ => rfl, e5, e6, e7, fun hh => absurd (show (2 : Nat) = 4 from hh) (by omega), hWg⟩
      · rw [word_go ho, hwh]
        unfold Tk.puts
        rw [e]
        rfl
    · by_cases h0 : a < 0
      · exact (rstep_miss2a a n rr cm ps dn U cp f w hU (by omega) (by omega) h0).mono fun e' w' hg => hend (over_of (by right; omega)) hg
      · exact (rstep_miss2b a n rr cm ps dn U cp f w hU (by omega) (by omega) (by omega)).mono fun e' w' hg => hend (over_of (by right; omega)) hg
  · rw [e, if_neg (by omega)] at e4
    obtain rfl : nx = 3 := by omega
    have hl := hW.pl.2 (by omega)
    have hc1 := hW.c1 (by omega) (by omega)
    have hwh : t.wh = a + 1 := by unfold Tk.wh; rw [e, e5]; rfl
    by_cases hi : 0 ≤ a + 1 ∧ a + 1 < 4
    · have ho : t.over 4 = false := over_not (by omega) (by omega)
      refine (rstep_go3 a n rr cm ps dn (a + 1).toNat U cp f w hU (by omega) (by omega) (by omega) (by omega) (by omega) (by rw [e6]; exact hW.nn)).mono fun e' w' hg => rstepP_of ?_ (fun i => ?_) hg
      · rw [next_go ho, hwh, go2 e]
        exact rr_pass H hd (by omega)
      · rw [word_go ho, hwh]
        unfold Tk.puts
        rw [e]
        show upd f (a + 1).toNat (cm % 2) i = upd f (a + 1).toNat t.own i
        unfold Tk.own
        rw [show cm = t.psd + 1 by omega]
    · by_cases h0 : a + 1 < 0
      · exact (rstep_miss3a a n rr cm ps dn U cp f w hU (by omega) (by omega) h0).mono fun e' w' hg => hend (over_of (by right; omega)) hg
      · exact (rstep_miss3b a n rr cm ps dn U cp f w hU (by omega) (by omega) (by omega)).mono fun e' w' hg => hend (over_of (by right; omega)) hg
  · rw [e, if_neg (by omega)] at e4
    obtain rfl : nx = 4 := by omega
    have hl := hW.pl.2 (by omega)
    have hc1 := hW.c1 (by omega) (by omega)
    have hwh : t.wh = a + 1 := by unfold Tk.wh; rw [e, e5]; rfl
    have hown : t.own = cm % 2 := by unfold Tk.own; rw [show cm = t.psd + 1 by omega]
    by_cases hi : 0 ≤ a + 1 ∧ a + 1 < 4
    · have ho : t.over 4 = false := over_not (by omega) (by omega)
      have hput : ∀ i, f i = upd f t.wh.toNat (t.word 4 (f t.wh.toNat)) i := fun i => by
        rw [word_go ho]
        unfold Tk.puts
        rw [e]
        show f i = upd f t.wh.toNat (f t.wh.toNat) i
        rw [upd_self]
      by_cases hx : f (a + 1).toNat = cm % 2
      · refine (rstep_go4a a n rr cm ps dn (a + 1).toNat U cp f w hU (by omega) (by omega) (by omega) (by omega) (by omega) (by rw [e6]; exact hW.nn) hx).mono fun e' w' hg => rstepP_of ?_ hput hg
        rw [next_go ho, hwh, go3 e, if_pos (by rw [hown]; exact hx)]
        exact rr_pass H hd (by omega)
      · refine (rstep_go4b a n rr cm ps dn (a + 1).toNat U cp f w hU (by omega) (by omega) (by omega) (by omega) (by omega) (by rw [e6]; exact hW.nn) hx).mono fun e' w' hg => rstepP_of ?_ hput hg
        rw [next_go ho, hwh, go3 e, if_neg (by rw [hown]; exact hx)]
        exact ⟨e1, e2, hd.symm, fun _ => by rw [e]; rfl, e5, e6, e7, fun hh => absurd hh (by omega), hW⟩
    · by_cases h0 : a + 1 < 0
      · exact (rstep_miss4a a n rr cm ps dn U cp f w hU (by omega) (by omega) h0).mono fun e' w' hg => hend (over_of (by right; omega)) hg
      · exact (rstep_miss4b a n rr cm ps dn U cp f w hU (by omega) (by omega) (by omega)).mono fun e' w' hg => hend (over_of (by right; omega)) hg
  · rw [e, if_pos rfl] at e4
    subst e4
    exact (rstep_zero a n rr cm ps dn U cp f w hU (e8 e hd)).mono fun e' w' hg => hend (over_of (by left; omega)) hg
set_option maxHeartbeats 2000000 in
set_option maxRecDepth 100000 in
/-- A new one. -/
theorem rnew_any (a n r : Int) (w : World) : Calls Tryd.prog 11 #[.int .i64 a, .int .i64 n, .int .i64 r] w fun e w' => e = .returned (rV ⟨a, n, clamp r, 1, 0, 0, false⟩) ∧ Below w.heap.size w w' := by
  obtain ⟨z, hz⟩ : ∃ z, z = clamp r := ⟨_, rfl⟩
  rw [← hz]
  unfold clamp at hz
  by_cases h0 : r < 0
  · have HZ := Lib.hid (show z = 0 by omega)
    clear hz
    go_enter Tryd.func11, Tryd.ntmps11
    go_wp2_with fail
    refine bodyPost_ret (v := .agg #[.int .i64 a, .int .i64 n, .int .i64 0, .int .i64 1, .int .i64 0, .int .i64 0, .bool false]) (by simp [results, Tryd.results11, go_sem]) rfl ⟨by rw [HZ.out]; rfl, ?_⟩
    exact (Below.refl _ _).alloc (Nat.le_refl _) _
  · by_cases h1 : 1000 < r
    · have HZ := Lib.hid (show z = 1000 by omega)
      clear hz
      go_enter Tryd.func11, Tryd.ntmps11
      go_wp2_with fail
      refine bodyPost_ret (v := .agg #[.int .i64 a, .int .i64 n, .int .i64 1000, .int .i64 1, .int .i64 0, .int .i64 0, .bool false]) (by simp [results, Tryd.results11, go_sem]) rfl ⟨by rw [HZ.out]; rfl, ?_⟩
      exact (Below.refl _ _).alloc (Nat.le_refl _) _
    · have HZ := Lib.hid (show z = r by omega)
      clear hz
      go_enter Tryd.func11, Tryd.ntmps11
      go_wp2_with fail
      refine bodyPost_ret (v := .agg #[.int .i64 a, .int .i64 n, .int .i64 r, .int .i64 1, .int .i64 0, .int .i64 0, .bool false]) (by simp [results, Tryd.results11, go_sem]) rfl ⟨by rw [HZ.out]; rfl, ?_⟩
      exact (Below.refl _ _).alloc (Nat.le_refl _) _
theorem rr_new (a n r : Int) (ha : -1000 ≤ a ∧ a ≤ 1000) (hn : 1 ≤ n ∧ n ≤ 8) : RR (tk0 a n (clamp r)) ⟨a, n, clamp r, 1, 0, 0, false⟩ := by
  have hp : (tk0 a n (clamp r)).ph = if 0 = clamp r then 4 else 0 := rfl
  refine ⟨rfl, rfl, rfl, fun _ => ?_, rfl, rfl, rfl, fun h _ => ?_, tk0_wf ha hn (clamp_rng r)⟩
  · rw [hp]
    show (1 : Int) = _
    split <;> split <;> first | rfl | omega
  · rw [hp] at h
    split at h
    · assumption
    · omega
end Go.Proofs.YtcjhbmkpfclmfaaDoor
