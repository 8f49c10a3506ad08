/-
  The document's writer and reader do what the writer and the reader do.
-/
import Derived.Test.YtoaaeamogpdcgaaDoorRef22
import Derived.Test.YtoaaeamogpdcgaaDoorRefX
namespace Go.Proofs.YtoaaeamogpdcgaaDoor
open Go.RowKit

/-- The document's writer, at a writer. -/
structure WSim (at' : Int) (F : Nat → Ver) (s : Wr) (d : Dw) : Prop where
  ea : s.L ≠ 0 → s.k.at' = at'
  eV : s.V = flatV s.k.n F
  eM : d.M = s.L * (s.k.n + 2)
  pr : s.k.ph ≤ 4 ∧ (s.k.ph < 3 → s.k.pa < s.k.n ∧ (s.k.ph ≠ 1 → s.k.pa = 0))
  wl : (s.k.ph ≠ 3 → s.wr < s.L) ∧ (s.k.ph = 3 → s.wr = s.L)
  id : ∃ o, d.did = s.wr * (s.k.n + 2) + o ∧ o < s.k.n + 2 ∧ (s.k.ph = 0 → o = 0) ∧ (s.k.ph = 1 → o = 1 + s.k.pa) ∧ (s.k.ph = 2 → o = s.k.n + 1) ∧ (s.k.ph = 3 → o = 0)
  dn : (d.done = true → 3 ≤ s.k.ph) ∧ (d.done = false → 3 ≤ s.k.ph → s.L = 0 ∧ s.k.ph = 3)
section
variable {at' : Int} {F : Nat → Ver} {s : Wr} {d : Dw} {m : Nat} {f : Nat → Int}
theorem WSim.written (h : WSim at' F s d) : d.did / (s.k.n + 2) = s.wr := by
  obtain ⟨o, e, ho, _⟩ := h.id
  rw [e]; exact (div_mod_at ho).2
theorem WSim.le (h : WSim at' F s d) : d.did ≤ d.M ∧ (s.k.ph ≠ 3 → d.did < d.M) := by
  obtain ⟨o, e, ho, _, _, _, o3⟩ := h.id
  have hM := h.eM
  by_cases hp : s.k.ph = 3
  · rw [e, hM, o3 hp, h.wl.2 hp]; exact ⟨Nat.le_refl _, fun x => absurd hp x⟩
  · have h1 := h.wl.1 hp
    have : (s.wr + 1) * (s.k.n + 2) ≤ s.L * (s.k.n + 2) := Nat.mul_le_mul_right _ h1
    rw [Nat.succ_mul] at this
    exact ⟨by omega, fun _ => by omega⟩
theorem WSim.lost (h : WSim at' F s d) (hp : s.k.ph < 3) (hx : ¬ (0 ≤ s.k.wh ∧ s.k.wh < m)) : WSim at' F (s.step m) { d with done := true } ∧ s.word m f = f ∧ (s.step m).k.ph = 4 := by
  rw [Wr.step_no hp hx, Wr.word_no hx]
  have hn : s.k.lose.n = s.k.n := by
    unfold Wk.lose; split
    · exact Wk.pass_n _
    · rfl
  have ha : s.k.lose.at' = s.k.at' := by
    unfold Wk.lose; split
    · unfold Wk.pass; split <;> rfl
    · rfl
  obtain ⟨o, e, ho, _⟩ := h.id
  refine ⟨⟨fun x => ha.trans (h.ea x), ?_, ?_, ⟨Nat.le_refl _, fun x => absurd x (by show ¬ 4 < 3; omega)⟩, ⟨fun _ => h.wl.1 (by omega), fun x => absurd x (by show ¬ 4 = 3; omega)⟩, ⟨o, ?_, ?_, fun x => absurd x (by show ¬ 4 = 0; omega), fun x => absurd x (by show ¬ 4 = 1; omega), fun x => absurd x (by show ¬ 4 = 2; omega), fun x => absurd x (by show ¬ 4 = 3; omega)⟩, ⟨fun _ => by show 3 ≤ 4; omega, fun x => by cases x⟩⟩, rfl, rfl⟩
  · show s.V = flatV s.k.lose.n F; rw [hn]; exact h.eV
  · show d.M = s.L * (s.k.lose.n + 2); rw [hn]; exact h.eM
  · show d.did = s.wr * (s.k.lose.n + 2) + o; rw [hn]; exact e
  · show o < s.k.lose.n + 2; rw [hn]; exact ho
theorem WSim.goes (h : WSim at' F s d) (hp : s.k.ph < 3) {i : Nat} (hi : s.k.wh = i) (him : i < m) :
    atS at' s.k.n d.did = i ∧ WSim at' F (s.step m) { d with did := d.did + 1, done := decide (d.did + 1 = d.M) } ∧ decide (d.did + 1 = d.M) = decide (3 ≤ (s.step m).k.ph) ∧ s.word m f = upd f i (if outS s.k.n d.did = true then inc (f i) else vS s.k.n F d.did) ∧ (s.step m).k.n = s.k.n := by
  have hV := h.eV
  have hM := h.eM
  have hpa := h.pr.2 hp
  have hwl := h.wl.1 (by omega)
  have ha := h.ea (by omega)
  have hmul : (s.wr + 1) * (s.k.n + 2) ≤ s.L * (s.k.n + 2) := Nat.mul_le_mul_right _ hwl
  obtain ⟨o, e, ho, o0, o1, o2, _⟩ := h.id
  have hmd := div_mod_at (n := s.k.n) (i := s.wr) ho
  rw [← e] at hmd
  have hc : s.k.ph = 0 ∨ s.k.ph = 1 ∨ s.k.ph = 2 := by omega
  rcases hc with hq | hq | hq
  · have ho0 := o0 hq
    have hpz := hpa.2 (by omega)
    have hout : outS s.k.n d.did = true := by unfold outS; rw [hmd.1, ho0]; rfl
    rw [Nat.succ_mul] at hmul
    have hne : ¬ d.did + 1 = d.M := by omega
    rw [Wr.step0 hq (by omega), Wr.word02 (.inl hq) hi him, hout, if_pos rfl, decide_eq_false hne]
    refine ⟨?_, ⟨fun _ => ha, hV, hM, ⟨by show 1 ≤ 4; omega, fun _ => ⟨hpa.1, fun x => absurd rfl x⟩⟩, ⟨fun _ => hwl, fun x => nomatch x⟩, ⟨1, ?_, ?_, fun x => (nomatch x), fun _ => ?_, fun x => (nomatch x), fun x => (nomatch x)⟩, ⟨fun x => (nomatch x), fun _ x => absurd x (by show ¬ 3 ≤ 1; omega)⟩⟩, ?_, rfl, rfl⟩
    · unfold atS; rw [if_pos hout, ← hi, wh02 (.inl hq), ha]
    · show d.did + 1 = s.wr * (s.k.n + 2) + 1; omega
    · show 1 < s.k.n + 2; omega
    · show 1 = 1 + s.k.pa; omega
    · symm; exact decide_eq_false (by show ¬ 3 ≤ 1; omega)
  · have ho1 := o1 hq
    have hout : outS s.k.n d.did = false := by unfold outS; rw [hmd.1, ho1, beq_false_of_ne (by omega), beq_false_of_ne (by omega)]; rfl
    rw [Nat.succ_mul] at hmul
    have hne : ¬ d.did + 1 = d.M := by omega
    have hv : s.V (s.wr * s.k.n + s.k.pa) = vS s.k.n F d.did := by
      unfold vS; rw [hout, if_neg (by decide), hmd.1, hmd.2, ho1, hV, flatV_at hpa.1]
      congr 1; omega
    rw [Wr.step1 hq (by omega), Wr.word1 hq hi him, hv, hout, if_neg (by decide), decide_eq_false hne]
    refine ⟨?_, ?_, ?_, rfl, Wk.pass_n _⟩
    · unfold atS; rw [hout, if_neg (by decide), hmd.1, ho1, ← hi, wh1 hq, ha]; omega
    · by_cases hx : s.k.pa + 1 < s.k.n
      · rw [Wk.pass_yes hx]
        refine ⟨fun _ => ha, hV, hM, ⟨by show 1 ≤ 4; omega, fun _ => ⟨hx, fun x => absurd rfl x⟩⟩, ⟨fun _ => hwl, fun x => nomatch x⟩, ⟨o + 1, ?_, ?_, fun x => (nomatch x), fun _ => ?_, fun x => (nomatch x), fun x => (nomatch x)⟩, ⟨fun x => (nomatch x), fun _ x => absurd x (by show ¬ 3 ≤ 1; omega)⟩⟩
        · show d.did + 1 = s.wr * (s.k.n + 2) + (o + 1); omega
        · show o + 1 < s.k.n + 2; omega
        · show o + 1 = 1 + (s.k.pa + 1); omega
      · rw [Wk.pass_no hx]
        refine ⟨fun _ => ha, hV, hM, ⟨by show 2 ≤ 4; omega, fun _ => ⟨by show 0 < s.k.n; omega, fun _ => rfl⟩⟩, ⟨fun _ => hwl, fun x => nomatch x⟩, ⟨o + 1, ?_, ?_, fun x => (nomatch x), fun x => (nomatch x), fun _ => ?_, fun x => (nomatch x)⟩, ⟨fun x => (nomatch x), fun _ x => absurd x (by show ¬ 3 ≤ 2; omega)⟩⟩
        · show d.did + 1 = s.wr * (s.k.n + 2) + (o + 1); omega
        · show o + 1 < s.k.n + 2; omega
        · show o + 1 = s.k.n + 1; omega
    · symm
      apply decide_eq_false
      unfold Wk.pass
      split
      · show ¬ 3 ≤ 1; omega
      · show ¬ 3 ≤ 2; omega
  · have ho2 := o2 hq
    have hpz := hpa.2 (by omega)
    have hout : outS s.k.n d.did = true := by unfold outS; rw [hmd.1, ho2]; simp
    have hdd : d.did + 1 = (s.wr + 1) * (s.k.n + 2) := by rw [Nat.succ_mul]; omega
    have hiff : d.did + 1 = d.M ↔ s.wr + 1 = s.L := by
      rw [hdd, hM]
      exact ⟨fun x => Nat.eq_of_mul_eq_mul_right (by omega) x, fun x => by rw [x]⟩
    rw [Wr.step2 hq (by omega), Wr.word02 (.inr hq) hi him, hout, if_pos rfl]
    obtain ⟨p, hp2⟩ : ∃ p, p = if s.wr + 1 = s.L then 3 else 0 := ⟨_, rfl⟩
    rw [← hp2]
    have hp3 : (p = 0 ∧ s.wr + 1 < s.L) ∨ (p = 3 ∧ s.wr + 1 = s.L) := by rw [hp2]; split <;> omega
    have hdec : decide (d.did + 1 = d.M) = decide (3 ≤ p) := decide_eq_decide.2 (by rw [hiff]; omega)
    rw [hdec]
    refine ⟨?_, ⟨fun _ => ha, hV, hM, ⟨by show p ≤ 4; omega, fun _ => ⟨hpa.1, fun _ => hpz⟩⟩, ⟨fun x => by have x : p ≠ 3 := x; show s.wr + 1 < s.L; omega, fun x => by have x : p = 3 := x; show s.wr + 1 = s.L; omega⟩, ⟨0, ?_, ?_, fun _ => rfl, fun x => by (have x : p = 1 := x); omega, fun x => by (have x : p = 2 := x); omega, fun _ => rfl⟩, ⟨fun x => of_decide_eq_true x, fun x x2 => absurd x2 (of_decide_eq_false x)⟩⟩, rfl, rfl, rfl⟩
    · unfold atS; rw [if_pos hout, ← hi, wh02 (.inr hq), ha]
    · show d.did + 1 = (s.wr + 1) * (s.k.n + 2) + 0; omega
    · show 0 < s.k.n + 2; omega
end
theorem wsim_calls {at' : Int} {F : Nat → Ver} {s : Wr} {d : Dw} {f : Nat → Int} {n : Nat} {w : World} (h : WSim at' F s d) (hdn : d.done = false) (hn : s.L = 0 ∨ s.k.n = n) (hO : DwOk w d (atS at' n) (vS n F) (outS n) (eS n)) (U : Option Addr) (cu : Nat) (hU : Us w U 40 f) (hM : d.M ≤ 1000000) :
    Calls Tryd.prog 16 #[dwV d, .slice U 40 cu] w fun e w' => ∃ d' U' cu', e = .returned (.tuple #[dwV d', .slice U' 40 cu']) ∧ Us w' U' 40 (s.word 40 f) ∧ (U' = U ∨ ∃ G, w.heap.size ≤ G ∧ U' = some ⟨G, 0, none⟩) ∧ (d'.pA = d.pA ∧ d'.pV = d.pV ∧ d'.pD = d.pD ∧ d'.pE = d.pE) ∧ WSim at' F (s.step 40) d' ∧ DwOk w' d' (atS at' n) (vS n F) (outS n) (eS n) ∧ d'.M = d.M ∧ d'.done = decide (3 ≤ (s.step 40).k.ph) ∧ Below w.heap.size w w' := by
  by_cases hp : s.k.ph < 3
  · have hlt := h.le.2 (by omega)
    have hwl := h.wl.1 (by omega)
    have hn : s.k.n = n := by omega
    subst hn
    by_cases hx : 0 ≤ s.k.wh ∧ s.k.wh < 40
    · obtain ⟨i, hi⟩ : ∃ i : Nat, s.k.wh = i := ⟨s.k.wh.toNat, by omega⟩
      obtain ⟨h1, h2, h3, h4, _⟩ := h.goes (m := 40) (f := f) hp hi (by omega)
      refine (dw_go2 d _ _ _ _ U cu i f w hU hlt hO h1 (by omega) hM).mono ?_
      rintro e w' ⟨G, c, hG, rfl, hu, _, hB⟩
      rw [← h4] at hu
      have hO2 := hO.keep hB
      exact ⟨_, _, _, rfl, hu, .inr ⟨G, hG, rfl⟩, ⟨rfl, rfl, rfl, rfl⟩, h2, ⟨hO2.a, hO2.v, hO2.dd, hO2.e⟩, rfl, h3, hB⟩
    · obtain ⟨h1, h2, h3⟩ := h.lost (m := 40) (f := f) hp hx
      have hat : ¬ (0 ≤ atS at' s.k.n d.did ∧ atS at' s.k.n d.did < 40) := by
        obtain ⟨o, e, ho, o0, o1, o2, _⟩ := h.id
        have hmd := div_mod_at (n := s.k.n) (i := s.wr) ho
        rw [← e] at hmd
        have hpa := h.pr.2 hp
        have ha := h.ea (by omega)
        have hc : s.k.ph = 1 ∨ s.k.ph = 0 ∨ s.k.ph = 2 := by omega
        rcases hc with hq | hq
        · have hout : outS s.k.n d.did = false := by unfold outS; rw [hmd.1, o1 hq, beq_false_of_ne (by omega), beq_false_of_ne (by omega)]; rfl
          have hw := wh1 hq
          have := o1 hq
          unfold atS
          rw [hout, if_neg (by decide), hmd.1]
          omega
        · have hout : outS s.k.n d.did = true := by
            unfold outS; rw [hmd.1]
            rcases hq with hq | hq
            · rw [o0 hq]; rfl
            · rw [o2 hq]; simp
          have hw := wh02 (k := s.k) hq
          unfold atS
          rw [if_pos hout]
          omega
      refine (dw_miss d _ _ _ _ U cu w hlt hO hat hM).mono ?_
      rintro e w' ⟨rfl, hB⟩
      have hO2 := hO.keep hB
      exact ⟨_, _, _, rfl, by rw [h2]; exact hU.keep hB, .inl rfl, ⟨rfl, rfl, rfl, rfl⟩, h1, ⟨hO2.a, hO2.v, hO2.dd, hO2.e⟩, rfl, by rw [h3]; rfl, hB⟩
  · obtain ⟨hL, hp3⟩ := h.dn.2 hdn (by omega)
    have hd : d.did = d.M := by
      have := h.le.1
      have e := h.eM
      rw [hL, Nat.zero_mul] at e
      omega
    have e1 : s.step 40 = s := Wr.step_over (by omega)
    have e2 : s.word 40 f = f := by unfold Wr.word; rw [if_pos (by omega)]
    rw [e1, e2]
    refine (dw_all d _ w hd).mono ?_
    rintro e w' ⟨rfl, hB⟩
    have hO2 := hO.keep hB
    exact ⟨_, _, _, rfl, hU.keep hB, .inl rfl, ⟨rfl, rfl, rfl, rfl⟩, ⟨h.ea, h.eV, h.eM, h.pr, h.wl, h.id, ⟨fun _ => by omega, fun x => by cases x⟩⟩, ⟨hO2.a, hO2.v, hO2.dd, hO2.e⟩, rfl, by rw [hp3]; rfl, hB⟩
set_option maxHeartbeats 4000000 in
set_option maxRecDepth 100000 in
theorem dr_even2 (d : Dr) (U : Option Addr) (cu i : Nat) (x : Int) (w : World) (f : Nat → Int) (hU : Us w U 40 f) (hx : f i = x) (ha : d.at' = i) (hi : i < 40) (h0 : d.next = 0) (hg : d.got = false) (hN : 1 ≤ d.n ∧ d.n ≤ 32) (ht : 0 ≤ d.tr ∧ d.tr ≤ 1000) (hd : d.done = false) (hf : 0 ≤ x) (hp : x % 2 = 0) :
    Calls Tryd.prog 18 #[drV d, .slice U 40 cu] w fun e w' => ∃ G, w.heap.size ≤ G ∧ G < w'.heap.size ∧ RdGo { d with next := 1, cn := x, pL := some ⟨G, 0, none⟩, nL := 0, cL := 0, tr := d.tr + 1 } w e w' := by
  obtain ⟨a, n, nx, cn, pL, nL, cL, got, done, tr⟩ := d
  have hg : got = false := hg
  have ha : a = i := ha
  have hd : done = false := hd
  have hN : 1 ≤ n ∧ n ≤ 32 := hN
  obtain ⟨hN1, hN2⟩ := hN
  subst hg ha hd
  obtain ⟨b, o, rfl⟩ := hU.head hi
  have hc := hU.cell hi
  rw [hx] at hc
  have hi0 : (0 : Int) ≤ i := by omega
  have hi1 : (i : Int) < 40 := by omega
  have h0 : nx = 0 := h0
  subst h0
  have hz := al_cell (o := .cells #[.int .i64 i, .int .i64 n, .int .i64 0, .int .u32 cn, .slice pL nL cL, .bool false, .bool false, .int .i64 tr] 49) hc
  have hz2 := al_cell (o := .cells #[.int .i64 0, .int .i64 0, .int .i64 0, .int .u32 0, .slice none 0 0, .bool false, .bool false, .int .i64 0] 49) hz
  have hsum : IntKind.i64.wrap (tr + 1) = tr + 1 := IntWalk.i64_in _ (by have : 0 ≤ tr ∧ tr ≤ 1000 := ht; omega)
  have hb : (x.tmod 2 == 0) = true := by rw [Int.tmod_eq_emod_of_nonneg hf, hp]; rfl
  simp only [drV, RdGo]
  clear hU hf hc hz hx hp
  go_enter Tryd.func18, Tryd.ntmps18
  go_wp2_with fail
  refine bodyPost_ret (v := .agg #[.int .i64 i, .int .i64 n, .int .i64 1, .int .u32 x, .slice (some ⟨w.heap.size + 2, 0, none⟩) 0 0, .bool false, .bool false, .int .i64 (tr + 1)]) (by simp [results, Tryd.results18, go_sem]) rfl ⟨w.heap.size + 2, by omega, by simp, rfl, ?_⟩
  repeat (first | exact Below.refl _ _ | refine Below.drew ?_ | refine Below.alloc ?_ (by first | (simp; done) | (simp; omega)) _)
/-- The document's reader, at a reader. -/
structure RSim (at' : Int) (r : Rd) (q : Dr) (w : World) : Prop where
  ea : r.k.at' = at'
  qa : q.at' = at'
  qn : q.n = r.k.n
  pr : r.k.ph ≤ 4 ∧ (r.k.ph < 3 → r.k.pa < r.k.n ∧ (r.k.ph ≠ 1 → r.k.pa = 0))
  n0 : r.k.ph = 0 → q.next = 0
  n1 : r.k.ph = 1 → q.next = 1 + r.k.pa
  n2 : r.k.ph = 2 → q.next = r.k.n + 1
  cn : r.k.ph = 1 ∨ r.k.ph = 2 → q.cn = r.cn
  l1 : r.k.ph = 1 → q.nL = r.k.pa ∧ Us w q.pL r.k.pa r.ws ∧ ∃ b o, q.pL = some ⟨b, o, none⟩ ∧ b < w.heap.size
  l2 : r.k.ph = 2 ∨ r.k.ph = 3 → q.nL = r.k.n ∧ Us w q.pL r.k.n r.ws
  gt : q.got = decide (r.k.ph = 3)
  dn : q.done = decide (3 ≤ r.k.ph)
  tr : q.tr = r.tr
theorem RSim.keep {at' : Int} {r : Rd} {q : Dr} {w w' : World} (h : RSim at' r q w) (hB : Below w.heap.size w w') : RSim at' r q w' :=
  ⟨h.ea, h.qa, h.qn, h.pr, h.n0, h.n1, h.n2, h.cn, fun hp => by obtain ⟨a, b, b1, o1, e1, l⟩ := h.l1 hp; exact ⟨a, b.keep hB, b1, o1, e1, Nat.lt_of_lt_of_le l hB.size⟩, fun hp => ⟨(h.l2 hp).1, (h.l2 hp).2.keep hB⟩, h.gt, h.dn, h.tr⟩
theorem rsim_calls {at' : Int} {r : Rd} {q : Dr} {w : World} {f : Nat → Int} (h : RSim at' r q w) (hdn : q.done = false) (U : Option Addr) (cu : Nat) (hU : Us w U 40 f) (hf : Wf 40 f) (ha : -1000 ≤ at' ∧ at' ≤ 1000) (hn : 1 ≤ r.k.n ∧ r.k.n ≤ 32) (ht : r.tr ≤ 1000) :
    Calls Tryd.prog 18 #[drV q, .slice U 40 cu] w fun e w' => ∃ q', e = .returned (drV q') ∧ RSim at' (r.step 40 f) q' w' ∧ (q'.pL = q.pL ∨ ∀ b o, q'.pL = some ⟨b, o, none⟩ → w.heap.size ≤ b) ∧ Below w.heap.size w w' := by
  have hdd := h.dn
  rw [hdn] at hdd
  have hp : r.k.ph < 3 := by have := of_decide_eq_false hdd.symm; omega
  have hgt : q.got = false := by rw [h.gt]; exact decide_eq_false (by omega)
  have hpa := h.pr.2 hp
  have hqn := h.qn
  have hqa := h.qa
  have hea := h.ea
  have htr := h.tr
  have hN : 1 ≤ q.n ∧ q.n ≤ 32 := by omega
  have hc : r.k.ph = 0 ∨ r.k.ph = 1 ∨ r.k.ph = 2 := by omega
  have hwh : q.wh = r.k.wh := by
    unfold Dr.wh
    rcases hc with hq | hq | hq
    · rw [if_neg (by have := h.n0 hq; omega), wh02 (.inl hq), hqa, hea]
    · have := h.n1 hq
      rw [if_pos (by omega), wh1 hq, hqa, hea, this]; omega
    · rw [if_neg (by have := h.n2 hq; omega), wh02 (.inr hq), hqa, hea]
  by_cases hx : 0 ≤ r.k.wh ∧ r.k.wh < 40
  · obtain ⟨i, hi⟩ : ∃ i : Nat, r.k.wh = i := ⟨r.k.wh.toNat, by omega⟩
    have him : i < 40 := by omega
    rcases hc with hq | hq | hq
    · have hpz := hpa.2 (by omega)
      have hai : q.at' = i := by rw [hqa, ← hea, ← wh02 (k := r.k) (.inl hq), hi]
      have h0 := h.n0 hq
      rw [Rd.step0 hq hi him]
      by_cases ho : f i % 2 = 1
      · rw [if_pos ho]
        refine (dr_odd q U cu i (f i) w f hU rfl hai him h0 hgt hN (by omega) hdn (hf i him).1 ho).mono ?_
        rintro e w' ⟨rfl, hB⟩
        exact ⟨q, rfl, h.keep hB, .inl rfl, hB⟩
      · rw [if_neg ho]
        refine (dr_even2 q U cu i (f i) w f hU rfl hai him h0 hgt hN (by omega) hdn (hf i him).1 (by omega)).mono ?_
        rintro e w' ⟨G, hG, hGl, rfl, hB⟩
        refine ⟨_, rfl, ⟨hea, hqa, hqn, ⟨by show 1 ≤ 4; omega, fun _ => ⟨hpa.1, fun x => absurd rfl x⟩⟩, fun x => (nomatch x), fun _ => ?_, fun x => (nomatch x), fun _ => rfl, fun _ => ⟨?_, fun j hj => absurd hj (by show ¬ j < r.k.pa; omega), G, 0, rfl, hGl⟩, fun x => by rcases x with x | x <;> exact (nomatch x), hgt, ?_, ?_⟩, .inr fun b o e => by (injection e with e; injection e with e1 e2; omega), hB⟩
        · show (1 : Int) = 1 + (r.k.pa : Int); omega
        · show 0 = r.k.pa; omega
        · exact hdn
        · show q.tr + 1 = ((r.tr + 1 : Nat) : Int); omega
    · have hnx := h.n1 hq
      obtain ⟨hnl, hus, lb, lo, hpl, hlb⟩ := h.l1 hq
      rw [Rd.step1 hq hi him]
      have hcn := h.cn (.inl hq)
      obtain ⟨qa, qn, qnx, qcn, pL, nL, cL, got, done, tr⟩ := q
      have hpl : pL = some ⟨lb, lo, none⟩ := hpl
      have hgt : got = false := hgt
      have hdn : done = false := hdn
      have hnl : nL = r.k.pa := hnl
      have hus : Us w pL r.k.pa r.ws := hus
      have hqa : qa = at' := hqa
      have hqn : qn = r.k.n := hqn
      have hnx : qnx = 1 + r.k.pa := hnx
      have hcn : qcn = r.cn := hcn
      have htr : tr = r.tr := htr
      subst hpl hgt hdn hnl
      have hwv := wh1 hq
      show Calls Tryd.prog 18 #[.agg #[.int .i64 qa, .int .i64 qn, .int .i64 qnx, .int .u32 qcn, .slice (some ⟨lb, lo, none⟩) r.k.pa cL, .bool false, .bool false, .int .i64 tr], .slice U 40 cu] w _
      refine (dr_word2 qa qn qnx qcn lb lo r.k.pa cL tr U cu i (f i) w f r.ws hU hus rfl (by omega) him (by omega) (by omega) hlb).mono ?_
      rintro e w' ⟨A, c, rfl, hu, hA, hB⟩
      refine ⟨⟨qa, qn, qnx + 1, qcn, A, r.k.pa + 1, c, false, false, tr⟩, rfl, ?_, .inr hA, hB⟩
      by_cases hx2 : r.k.pa + 1 < r.k.n
      · rw [Wk.pass_yes hx2]
        refine ⟨hea, hqa, hqn, ⟨by show 1 ≤ 4; omega, fun _ => ⟨hx2, fun x => absurd rfl x⟩⟩, fun x => (nomatch x), fun _ => ?_, fun x => (nomatch x), fun _ => hcn, fun _ => ⟨rfl, hu, ?_⟩, fun x => by rcases x with x | x <;> exact (nomatch x), rfl, rfl, htr⟩
        · show qnx + 1 = 1 + ((r.k.pa + 1 : Nat) : Int); omega
        · obtain ⟨b, o, rfl⟩ := hu.head (Nat.lt_succ_self _)
          have hc := cell_lt (hu.cell (Nat.lt_succ_self _))
          exact ⟨b, o, rfl, hc⟩
      · have hpe : r.k.pa + 1 = r.k.n := by omega
        rw [Wk.pass_no hx2]
        refine ⟨hea, hqa, hqn, ⟨by show 2 ≤ 4; omega, fun _ => ⟨by show 0 < r.k.n; omega, fun _ => rfl⟩⟩, fun x => (nomatch x), fun x => (nomatch x), fun _ => ?_, fun _ => hcn, fun x => (nomatch x), fun _ => ⟨hpe, ?_⟩, rfl, rfl, htr⟩
        · show qnx + 1 = (r.k.n : Int) + 1; omega
        · rw [hpe] at hu; exact hu
    · have hpz := hpa.2 (by omega)
      have hai : q.at' = i := by rw [hqa, ← hea, ← wh02 (k := r.k) (.inr hq), hi]
      have h2 := h.n2 hq
      have hl := h.l2 (.inl hq)
      have hcn := h.cn (.inr hq)
      rw [Rd.step2 hq hi him]
      refine (dr_close q U cu i (f i) w f hU rfl hai him (by omega) hgt hN (by omega) hdn).mono ?_
      rintro e w' ⟨rfl, hB⟩
      refine ⟨_, rfl, ?_, .inl rfl, hB⟩
      by_cases he : f i = r.cn
      · rw [if_pos he]
        have hb : (f i == q.cn) = true := beq_iff_eq.2 (by omega)
        rw [hb]
        refine ⟨hea, hqa, hqn, ⟨by show 3 ≤ 4; omega, fun x => absurd x (by show ¬ 3 < 3; omega)⟩, fun x => (nomatch x), fun x => (nomatch x), fun x => (nomatch x), fun x => by rcases x with x | x <;> exact (nomatch x), fun x => (nomatch x), fun _ => ⟨hl.1, hl.2.keep hB⟩, rfl, rfl, htr⟩
      · rw [if_neg he]
        have hb : (f i == q.cn) = false := beq_false_of_ne (by omega)
        rw [hb]
        refine ⟨hea, hqa, hqn, ⟨by show 0 ≤ 4; omega, fun _ => ⟨hpa.1, fun _ => hpz⟩⟩, fun _ => rfl, fun x => (nomatch x), fun x => (nomatch x), fun x => by rcases x with x | x <;> exact (nomatch x), fun x => (nomatch x), fun x => by rcases x with x | x <;> exact (nomatch x), rfl, rfl, htr⟩
  · rw [Rd.step_no hp hx]
    have hnn : r.k.lose.n = r.k.n := by
      unfold Wk.lose; split
      · exact Wk.pass_n _
      · rfl
    have hna : r.k.lose.at' = r.k.at' := by
      unfold Wk.lose; split
      · unfold Wk.pass; split <;> rfl
      · rfl
    refine (dr_miss q U cu w (by rw [hwh]; exact hx) (by omega) ?_ hN hgt).mono ?_
    · rcases hc with hq | hq | hq
      · have := h.n0 hq; omega
      · have := h.n1 hq; omega
      · have := h.n2 hq; omega
    rintro e w' ⟨rfl, hB⟩
    refine ⟨_, rfl, ⟨hna.trans hea, hqa, hqn.trans (by rw [← hnn]), ⟨Nat.le_refl _, fun x => absurd x (by show ¬ 4 < 3; omega)⟩, fun x => (nomatch x), fun x => (nomatch x), fun x => (nomatch x), fun x => by rcases x with x | x <;> exact (nomatch x), fun x => (nomatch x), fun x => by rcases x with x | x <;> exact (nomatch x), hgt, rfl, htr⟩, .inl rfl, hB⟩
theorem DwOk.chg {S : Nat → Prop} {w w' : World} {d : Dw} {fA fV : Nat → Int} {fD fE : Nat → Bool} (h : DwOk w d fA fV fD fE) (hC : Chg S w w') (o1 : Off S d.pA) (o2 : Off S d.pV) (o3 : Off S d.pD) (o4 : Off S d.pE) : DwOk w' d fA fV fD fE :=
  ⟨fun i hi => by obtain ⟨b, o, e, hc⟩ := h.a i hi; exact ⟨b, o, e, hC.cell hc (o1 b o e)⟩, fun i hi => by obtain ⟨b, o, e, hc⟩ := h.v i hi; exact ⟨b, o, e, hC.cell hc (o2 b o e)⟩,
   fun i hi => by obtain ⟨b, o, e, hc⟩ := h.dd i hi; exact ⟨b, o, e, hC.cell hc (o3 b o e)⟩, fun i hi => by obtain ⟨b, o, e, hc⟩ := h.e i hi; exact ⟨b, o, e, hC.cell hc (o4 b o e)⟩⟩
theorem RSim.chg {S : Nat → Prop} {at' : Int} {r : Rd} {q : Dr} {w w' : World} (h : RSim at' r q w) (hC : Chg S w w') (ho : Off S q.pL) : RSim at' r q w' :=
  ⟨h.ea, h.qa, h.qn, h.pr, h.n0, h.n1, h.n2, h.cn, fun hp => by obtain ⟨a, b, b1, o1, e1, l⟩ := h.l1 hp; exact ⟨a, b.chgS hC ho, b1, o1, e1, Nat.lt_of_lt_of_le l hC.size⟩, fun hp => ⟨(h.l2 hp).1, (h.l2 hp).2.chgS hC ho⟩, h.gt, h.dn, h.tr⟩
/-- The places that the document's answer laid. -/
theorem row_at {w : World} {base n : Nat} {e : TypeId} {A : Option Addr} {c : Nat} {g : Nat → Value} (h : w.ownsRow base e 1 (.slice A n c) n ((List.range n).map g)) : ∀ i, i < n → ∃ b o, A = some ⟨b, o, none⟩ ∧ w.cell? ⟨b, o + i, none⟩ = some (g i) := by
  intro i hi
  rcases h.2 with ⟨_, h1⟩ | ⟨G, cap, cur, hv, _⟩
  · omega
  · injection hv with hA _ hC
    subst hA hC
    have hc := World.ownsRow.cellAt h i (show i < n * 1 by omega)
    rw [List.getElem?_map, List.getElem?_range hi] at hc
    exact ⟨G, 0, rfl, by rw [Nat.zero_add]; exact hc⟩
theorem own_form4 {w : World} {base n : Nat} {e : TypeId} {v : Value} {xs : List Value} (h : w.ownsRow base e 1 v n xs) : ∃ A c, v = .slice A n c := by
  rcases h.2 with ⟨rfl, rfl⟩ | ⟨g, cap, cur, rfl, _⟩
  · exact ⟨none, 0, rfl⟩
  · exact ⟨_, _, rfl⟩
theorem dw_rows {at' : Int} {n : Nat} {F : Nat → Ver} {w : World} {Ba M : Nat} {a v d e : Value} (h : Rows4 at' n F w Ba M M M M a v d e) :
    ∃ dw : Dw, .agg #[a, v, d, e, .int .i64 0, .bool false] = dwV dw ∧ dw.M = M ∧ dw.did = 0 ∧ dw.done = false ∧ DwOk w dw (atS at' n) (vS n F) (outS n) (eS n) := by
  obtain ⟨pA, cA, rfl⟩ := own_form4 h.ra
  obtain ⟨pV, cV, rfl⟩ := own_form4 h.rv
  obtain ⟨pD, cD, rfl⟩ := own_form4 h.rd
  obtain ⟨pE, cE, rfl⟩ := own_form4 h.re
  exact ⟨⟨pA, cA, pV, cV, pD, cD, pE, cE, M, 0, false⟩, rfl, rfl, rfl, rfl, ⟨row_at h.ra, row_at h.rv, row_at h.rd, row_at h.re⟩⟩
theorem wsim0 (at' : Int) (n L : Nat) (F : Nat → Ver) (d : Dw) (hn : 1 ≤ n) (hL : 1 ≤ L) (hM : d.M = L * (n + 2)) (h0 : d.did = 0) (h1 : d.done = false) : WSim at' F (wr0 at' n L (flatV n F)) d :=
  ⟨fun _ => rfl, rfl, hM, ⟨by show 0 ≤ 4; omega, fun _ => ⟨by show 0 < n; omega, fun _ => rfl⟩⟩, ⟨fun _ => by show 0 < L; omega, fun x => nomatch x⟩, ⟨0, by rw [h0]; show 0 = 0 * (n + 2) + 0; omega, by show 0 < n + 2; omega, fun _ => rfl, fun x => (nomatch x), fun x => (nomatch x), fun _ => rfl⟩, ⟨fun x => (by rw [h1] at x; cases x), fun _ x => absurd x (by show ¬ 3 ≤ 0; omega)⟩⟩
theorem wsimN (at' : Int) (F : Nat → Ver) (d : Dw) (hM : d.M = 0) (h0 : d.did = 0) (h1 : d.done = false) : WSim at' F (wrN (flatV 0 F)) d :=
  ⟨fun x => absurd rfl x, rfl, by rw [hM]; show 0 = 0 * (0 + 2); omega, ⟨by show 3 ≤ 4; omega, fun x => absurd x (by show ¬ 3 < 3; omega)⟩, ⟨fun x => absurd rfl x, fun _ => rfl⟩, ⟨0, by rw [h0]; show 0 = 0 * (0 + 2) + 0; omega, by show 0 < 0 + 2; omega, fun x => (nomatch x), fun x => (nomatch x), fun x => (nomatch x), fun _ => rfl⟩, ⟨fun x => (by rw [h1] at x; cases x), fun _ _ => ⟨rfl, rfl⟩⟩⟩
theorem WSim.written2 {at' : Int} {F : Nat → Ver} {s : Wr} {d : Dw} {n : Nat} (h : WSim at' F s d) (hn : s.L = 0 ∨ s.k.n = n) : d.did / (n + 2) = s.wr := by
  rcases hn with hn | rfl
  · have hp : s.k.ph = 3 := by
      rcases Nat.lt_or_ge s.wr s.L with h1 | h1
      · omega
      · by_cases e : s.k.ph = 3
        · exact e
        · exact absurd (h.wl.1 e) (by omega)
    have h1 := h.wl.2 hp
    have h2 := h.le.1
    have h3 := h.eM
    rw [hn, Nat.zero_mul] at h3
    rw [show d.did = 0 by omega, Nat.zero_div]; omega
  · exact h.written
theorem rsim0 (at' : Int) (n : Nat) (w : World) (hn : 1 ≤ n) : RSim at' (rd0 at' n) ⟨at', n, 0, 0, none, 0, 0, false, false, 0⟩ w :=
  ⟨rfl, rfl, rfl, ⟨by show 0 ≤ 4; omega, fun _ => ⟨by show 0 < n; omega, fun _ => rfl⟩⟩, fun _ => rfl, fun x => (nomatch x), fun x => (nomatch x), fun x => by rcases x with x | x <;> exact (nomatch x), fun x => (nomatch x), fun x => by rcases x with x | x <;> exact (nomatch x), rfl, rfl, rfl⟩
end Go.Proofs.YtoaaeamogpdcgaaDoor
