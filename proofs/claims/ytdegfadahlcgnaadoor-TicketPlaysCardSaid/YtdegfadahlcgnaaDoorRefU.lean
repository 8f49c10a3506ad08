/-
  The document's answer against the program's: a step, a new taker.
-/
import Derived.Test.YtdegfadahlcgnaaDoorRefT
namespace Go.Proofs.YtdegfadahlcgnaaDoor
open Go.RowKit

/-- The document's taker and the program's. -/
structure RR (t : Tk) (r : RT) : Prop where
  left : r.left = t.left
  tk : r.tk = t.tk
  done : r.done = t.done
  next : r.next = if t.ph = 5 then 1 else (t.ph : Int) + 1
  ac : t.ph ≠ 5 → r.a = t.at' ∧ r.c = t.cl
  v : t.ph = 3 → r.v = t.ld
  zero : t.ph = 5 → t.done = false → r.left = 0
  ph : t.ph ≤ 5 ∧ (t.ph < 5 → 1 ≤ t.left) ∧ t.left ≤ 1000 ∧ (t.ph ≠ 5 → -1000 ≤ t.at' ∧ t.at' ≤ 1000)
/-- What Step does, against the program's step. -/
def RStepP (t : Tk) (f : Nat → Int) (U : Option Addr) (w : World) (e : Ending) (w' : World) : Prop :=
  ∃ r' U' d, e = .returned (.tuple #[rV r', .slice U' 4 d]) ∧ RR (t.next 4 (f t.wh.toNat)) r' ∧ Us w' U' 4 (upd f t.wh.toNat (t.word 4 (f t.wh.toNat))) ∧ Below w.heap.size w w' ∧ Anew U w.heap.size U'
theorem rstepP_of {t : Tk} {r' : RT} {f f' : Nat → Int} {U : Option Addr} {w : World} (hR : RR (t.next 4 (f t.wh.toNat)) r') (hf : ∀ i, f' i = upd f t.wh.toNat (t.word 4 (f t.wh.toNat)) i) {e : Ending} {w' : World} (h : RGo r' f' U w e w') : RStepP t f U w e w' := by
  obtain ⟨U', d, h1, h2, h3, h4⟩ := h
  exact ⟨r', U', d, h1, hR, h2.congr fun i _ => hf i, h3, h4⟩
theorem over_of {t : Tk} (h : 5 ≤ t.ph ∨ ¬ (0 ≤ t.wh ∧ t.wh < 4)) : t.over 4 = true := by
  unfold Tk.over
  rcases h with h | h
  · simp [h]
  · rw [inM_ne (by omega)]; simp
theorem over_not {t : Tk} (h : t.ph < 5) (h2 : 0 ≤ t.wh ∧ t.wh < 4) : t.over 4 = false := by
  unfold Tk.over
  rw [inM_of (by omega)]
  simp; omega
theorem rr_end {t : Tk} {r : RT} (h : RR t r) : RR t.end (rEnd r) := by
  refine ⟨h.left, h.tk, rfl, rfl, fun e => absurd rfl e, fun e => ?_, fun _ e => ?_, ⟨Nat.le_refl _, fun e => ?_, h.ph.2.2.1, fun e => absurd rfl e⟩⟩
  · exact absurd e (by show ¬ (5 = 3); omega)
  · exact Bool.noConfusion (show true = false from e)
  · exact absurd e (by show ¬ (5 < 5); omega)
set_option maxHeartbeats 4000000 in
theorem rstep_any (t : Tk) (r : RT) (U : Option Addr) (cp : Nat) (f : Nat → Int) (w : World) (h : RR t r) (hd : t.done = false) (hU : Us w U 4 f) :
    Calls Tryd.prog 14 #[rV r, .slice U 4 cp] w fun e w' => RStepP t f U w e w' := by
  obtain ⟨hp, hpos, hle, har⟩ := h.ph
  have H : RR t r := h
  obtain ⟨e1, e2, e3, e4, e5, e6, e7, _⟩ := h
  obtain ⟨a, c, left, nx, tk, v, dn⟩ := r
  simp only at e1 e2 e3 e4 e5 e6 e7
  have hend : t.over 4 = true → ∀ {e w'}, RGo (rEnd ⟨a, c, left, nx, tk, v, dn⟩) f U w e w' → RStepP t f U w e w' := fun ho {e w'} hg =>
    rstepP_of (by rw [next_end ho]; exact rr_end H) (fun i => by rw [word_end ho, upd_self]) hg
  rcases cases6 hp with e | e | e | e | e | e
  · rw [e, if_neg (by omega)] at e4
    obtain ⟨ea, ec⟩ := e5 (by omega)
    obtain rfl : nx = 1 := by omega
    have hl := hpos (by omega)
    have hwh : t.wh = a := by unfold Tk.wh; rw [e]; exact ea.symm
    by_cases hi : 0 ≤ a ∧ a < 4
    · have ho : t.over 4 = false := over_not (by omega) (by omega)
      refine (rstep_go0 a c left tk v dn a.toNat U cp f w hU (by omega) (by omega) (by rw [ea]; exact har (by omega)) (by omega) (by omega)).mono fun e' w' hg => rstepP_of ?_ (fun i => ?_) hg
      · rw [next_go ho, hwh]
        unfold Tk.go
        rw [e]
        exact ⟨e1, rfl, e3, rfl, fun _ => ⟨ea, ec⟩, fun hh => absurd hh (by show ¬ (1 = 3); omega), fun hh => absurd hh (by show ¬ (1 = 5); omega), by show 1 ≤ 5; omega, fun _ => hl, hle, fun _ => har (by omega)⟩
      · rw [word_go ho, hwh]
        unfold Tk.puts
        rw [e]
        rfl
    · exact (rstep_miss0 a c left tk v dn U cp f w hU (by omega) (by rw [ea]; exact har (by omega)) hi).mono fun e' w' hg => hend (over_of (by right; omega)) hg
  · rw [e, if_neg (by omega)] at e4
    obtain ⟨ea, ec⟩ := e5 (by omega)
    obtain rfl : nx = 2 := by omega
    have hl := hpos (by omega)
    have hwh : t.wh = a + 1 := by unfold Tk.wh; rw [e, ea]; rfl
    by_cases hi : 0 ≤ a + 1 ∧ a + 1 < 4
    · have ho : t.over 4 = false := over_not (by omega) (by omega)
      refine (rstep_go1 a c left tk v dn (a + 1).toNat U cp f w hU (by omega) (by omega) (by rw [ea]; exact har (by omega)) (by omega) (by omega) _ rfl).mono fun e' w' hg => rstepP_of ?_ (fun i => ?_) hg
      · rw [next_go ho, hwh]
        unfold Tk.go
        rw [e]
        simp only
        by_cases hx : f (a + 1).toNat = t.tk
        · rw [if_pos hx, if_pos (by rw [e2]; exact hx)]
          exact ⟨e1, e2, e3, rfl, fun _ => ⟨ea, ec⟩, fun hh => absurd hh (by show ¬ (2 = 3); omega), fun hh => absurd hh (by show ¬ (2 = 5); omega), by show 2 ≤ 5; omega, fun _ => hl, hle, fun _ => har (by omega)⟩
        · rw [if_neg hx, if_neg (by rw [e2]; exact hx)]
          exact ⟨e1, e2, e3, by rw [e]; rfl, fun _ => ⟨ea, ec⟩, fun hh => absurd hh (by omega), fun hh => absurd hh (by omega), hp, fun _ => hl, hle, fun _ => har (by omega)⟩
      · rw [word_go ho, hwh]
        unfold Tk.puts
        rw [e]
        simp only
        rw [upd_self]
    · exact (rstep_miss1 a c left tk v dn U cp f w hU (by omega) (by rw [ea]; exact har (by omega)) hi).mono fun e' w' hg => hend (over_of (by right; omega)) hg
  · rw [e, if_neg (by omega)] at e4
    obtain ⟨ea, ec⟩ := e5 (by omega)
    obtain rfl : nx = 3 := by omega
    have hl := hpos (by omega)
    have hwh : t.wh = c := by unfold Tk.wh; rw [e]; exact ec.symm
    by_cases hi : 0 ≤ c ∧ c < 4
    · have ho : t.over 4 = false := over_not (by omega) (by omega)
      refine (rstep_go2 a c left tk v dn c.toNat U cp f w hU (by omega) (by omega) (by rw [ea]; exact har (by omega)) (by omega) (by omega)).mono fun e' w' hg => rstepP_of ?_ (fun i => ?_) hg
      · rw [next_go ho, hwh]
        unfold Tk.go
        rw [e]
        exact ⟨e1, e2, e3, rfl, fun _ => ⟨ea, ec⟩, fun _ => rfl, fun hh => absurd hh (by show ¬ (3 = 5); omega), by show 3 ≤ 5; omega, fun _ => hl, hle, fun _ => har (by omega)⟩
      · rw [word_go ho, hwh]
        unfold Tk.puts
        rw [e]
        simp only
        rw [upd_self]
    · exact (rstep_miss2 a c left tk v dn U cp f w hU (by omega) (by rw [ea]; exact har (by omega)) hi).mono fun e' w' hg => hend (over_of (by right; omega)) hg
  · rw [e, if_neg (by omega)] at e4
    obtain ⟨ea, ec⟩ := e5 (by omega)
    obtain rfl : nx = 4 := by omega
    have hl := hpos (by omega)
    have hv := e6 e
    have hwh : t.wh = c := by unfold Tk.wh; rw [e]; exact ec.symm
    by_cases hi : 0 ≤ c ∧ c < 4
    · have ho : t.over 4 = false := over_not (by omega) (by omega)
      refine (rstep_go3 a c left tk v dn c.toNat U cp f w hU (by omega) (by omega) (by rw [ea]; exact har (by omega)) (by omega) (by omega)).mono fun e' w' hg => rstepP_of ?_ (fun i => ?_) hg
      · rw [next_go ho, hwh]
        unfold Tk.go
        rw [e]
        exact ⟨e1, e2, e3, rfl, fun _ => ⟨ea, ec⟩, fun hh => absurd hh (by show ¬ (4 = 3); omega), fun hh => absurd hh (by show ¬ (4 = 5); omega), by show 4 ≤ 5; omega, fun _ => hl, hle, fun _ => har (by omega)⟩
      · rw [word_go ho, hwh]
        unfold Tk.puts
        rw [e, hv]
        rfl
    · exact (rstep_miss3 a c left tk v dn U cp f w hU (by omega) (by rw [ea]; exact har (by omega)) hi).mono fun e' w' hg => hend (over_of (by right; omega)) hg
  · rw [e, if_neg (by omega)] at e4
    obtain ⟨ea, ec⟩ := e5 (by omega)
    obtain rfl : nx = 5 := by omega
    have hl := hpos (by omega)
    have hwh : t.wh = a + 1 := by unfold Tk.wh; rw [e, ea]; rfl
    by_cases hi : 0 ≤ a + 1 ∧ a + 1 < 4
    · have ho : t.over 4 = false := over_not (by omega) (by omega)
      refine (rstep_go4 a c left tk v dn (a + 1).toNat U cp f w hU (by omega) (by omega) (by rw [ea]; exact har (by omega)) (by omega) (by omega)).mono fun e' w' hg => rstepP_of ?_ (fun i => ?_) hg
      · rw [next_go ho, hwh]
        unfold Tk.go
        rw [e]
        simp only
        by_cases h1 : t.left = 1
        · rw [if_pos h1]
          exact ⟨by show left - 1 = 0; omega, e2, by show decide (left = 1) = true; exact decide_eq_true (by omega), rfl, fun hh => absurd rfl hh, fun hh => absurd hh (by show ¬ (5 = 3); omega), fun _ hh => Bool.noConfusion (show true = false from hh), by show 5 ≤ 5; omega, fun hh => absurd hh (by show ¬ (5 < 5); omega), by show (0 : Int) ≤ 1000; omega, fun hh => absurd rfl hh⟩
        · rw [if_neg h1]
          exact ⟨by show left - 1 = t.left - 1; omega, e2, by show decide (left = 1) = t.done; rw [hd]; exact decide_eq_false (by omega), rfl, fun _ => ⟨ea, ec⟩, fun hh => absurd hh (by show ¬ (0 = 3); omega), fun hh => absurd hh (by show ¬ (0 = 5); omega), by show 0 ≤ 5; omega, fun _ => by show 1 ≤ t.left - 1; omega, by show t.left - 1 ≤ 1000; omega, fun _ => har (by omega)⟩
      · rw [word_go ho, hwh]
        unfold Tk.puts
        rw [e, e2]
        rfl
    · exact (rstep_miss4 a c left tk v dn U cp f w hU (by omega) (by rw [ea]; exact har (by omega)) hi).mono fun e' w' hg => hend (over_of (by right; omega)) hg
  · rw [e, if_pos rfl] at e4
    subst e4
    have hl := e7 e hd
    exact (rstep_zero a c left tk v dn U cp f w hU hl).mono fun e' w' hg => hend (over_of (by left; omega)) hg
set_option maxHeartbeats 2000000 in
set_option maxRecDepth 100000 in
/-- A new one. -/
theorem rnew_any (a c times : Int) (w : World) : Calls Tryd.prog 13 #[.int .i64 a, .int .i64 c, .int .i64 times] w fun e w' => e = .returned (rV ⟨a, c, if times < 0 then 0 else times, 1, 0, 0, false⟩) ∧ Below w.heap.size w w' := by
  obtain ⟨z, hz⟩ : ∃ z, z = if times < 0 then 0 else times := ⟨_, rfl⟩
  rw [← hz]
  by_cases h0 : times < 0
  · rw [if_pos h0] at hz
    have HZ := Lib.hid hz
    clear hz
    go_enter Tryd.func13, Tryd.ntmps13
    go_wp2_with fail
    refine bodyPost_ret (v := .agg #[.int .i64 a, .int .i64 c, .int .i64 0, .int .i64 1, .int .u32 0, .int .u32 0, .bool false]) (by simp [results, Tryd.results13, go_sem]) rfl ⟨by rw [HZ.out]; rfl, ?_⟩
    exact (Below.refl _ _).alloc (Nat.le_refl _) _
  · rw [if_neg h0] at hz
    have HZ := Lib.hid hz
    clear hz
    go_enter Tryd.func13, Tryd.ntmps13
    go_wp2_with fail
    refine bodyPost_ret (v := .agg #[.int .i64 a, .int .i64 c, .int .i64 times, .int .i64 1, .int .u32 0, .int .u32 0, .bool false]) (by simp [results, Tryd.results13, go_sem]) rfl ⟨by rw [HZ.out]; rfl, ?_⟩
    exact (Below.refl _ _).alloc (Nat.le_refl _) _
theorem rr_new (a c times : Int) (h : times ≤ 1000) (ha : -1000 ≤ a ∧ a ≤ 1000) : RR (tk0 a c times) ⟨a, c, if times < 0 then 0 else times, 1, 0, 0, false⟩ := by
  unfold tk0
  by_cases h1 : times < 1
  · rw [if_pos h1]
    refine ⟨?_, rfl, rfl, rfl, fun e => absurd rfl e, fun e => absurd e (by show ¬ (5 = 3); omega), fun _ _ => ?_, Nat.le_refl _, fun e => absurd e (by show ¬ (5 < 5); omega), by show (0 : Int) ≤ 1000; omega, fun e => absurd rfl e⟩
    · show (if times < 0 then 0 else times) = 0
      split <;> omega
    · show (if times < 0 then 0 else times) = 0
      split <;> omega
  · rw [if_neg h1]
    refine ⟨?_, rfl, rfl, rfl, fun _ => ⟨rfl, rfl⟩, fun e => absurd e (by show ¬ (0 = 3); omega), fun e => absurd e (by show ¬ (0 = 5); omega), by show 0 ≤ 5; omega, fun _ => by show 1 ≤ times; omega, h, fun _ => ha⟩
    show (if times < 0 then 0 else times) = times
    rw [if_neg (by omega)]

end Go.Proofs.YtdegfadahlcgnaaDoor
