/-
  The words say what is under way, behind each step of a sender too.
-/
import Derived.Test.YtnmobalgghggnaaDoorAbs
namespace Go.Proofs.YtnmobalgghggnaaDoor

section
variable {L : List ByteArray} {pl : Nat} {a : Ab}
theorem Ab.stepS0 (h : a.sp = 0) : a.stepS L pl = { a with hd := a.H, sp := 1 } := by cases a; cases h; rfl
theorem Ab.stepS1 (h : a.sp = 1) : a.stepS L pl = if pl ≤ a.T L - a.hd then a.closeS L false else { a with sp := 2 } := by cases a; cases h; rfl
theorem Ab.stepS2 (h : a.sp = 2) : a.stepS L pl = { a with sp := 3 } := by cases a; cases h; rfl
theorem Ab.stepS3 (h : a.sp = 3) : a.stepS L pl = if a.pa + 1 < need (a.cur L).size then { a with pa := a.pa + 1 } else { a with pa := 0, sp := 4 } := by cases a; cases h; rfl
theorem Ab.stepS4 (h : a.sp = 4) : a.stepS L pl = a.closeS L true := by cases a; cases h; rfl
theorem Ab.stepS5 (h : 5 ≤ a.sp) : a.stepS L pl = a := by
  obtain ⟨sp, hd, pa, sent, rp, tl, pb, got⟩ := a
  match sp, h with
  | k + 5, _ => rfl
theorem Ab.stepR0 (h : a.rp = 0) : a.stepR L = { a with tl := a.T L, rp := 1 } := by cases a; cases h; rfl
theorem Ab.stepR1 (h : a.rp = 1) : a.stepR L = if a.H = a.tl then a.closeR ByteArray.empty else { a with rp := 2 } := by cases a; cases h; rfl
theorem Ab.stepR2 (h : a.rp = 2) : a.stepR L = { a with rp := 3 } := by cases a; cases h; rfl
theorem Ab.stepR3 (h : a.rp = 3) : a.stepR L = if a.pb + 1 < need (a.nxt L).size then { a with pb := a.pb + 1 } else { a with pb := 0, rp := 4 } := by cases a; cases h; rfl
theorem Ab.stepR4 (h : a.rp = 4) : a.stepR L = a.closeR (a.nxt L) := by cases a; cases h; rfl
theorem Ab.stepR5 (h : 5 ≤ a.rp) : a.stepR L = a := by
  obtain ⟨sp, hd, pa, sent, rp, tl, pb, got⟩ := a
  match rp, h with
  | k + 5, _ => rfl
theorem out_closeS (b : Bool) : (a.closeS L b).out L = if b = true then a.out L ++ [a.cur L] else a.out L := outK_new L a.sent b
theorem inn_closeR (m : ByteArray) : (a.closeR m).inn = if m.size = 0 then a.inn else a.inn ++ [m] := inK_new a.got m
end
theorem LiesK.mono {f : Nat → Int} {b k k' : Nat} {m : ByteArray} (h : LiesK f b m k) (hk : k' ≤ k) : LiesK f b m k' := ⟨h.1, fun j hj => h.2 j (by omega)⟩
theorem getD_app {l : List ByteArray} {m : ByteArray} {i : Nat} (h : i < l.length) : (l ++ [m]).getD i ByteArray.empty = l.getD i ByteArray.empty := by
  rw [List.getD_eq_getElem?_getD, List.getD_eq_getElem?_getD, List.getElem?_append_left h]
theorem getD_last {l : List ByteArray} {m : ByteArray} : (l ++ [m]).getD l.length ByteArray.empty = m := by
  rw [List.getD_eq_getElem?_getD, List.getElem?_append_right (Nat.le_refl _)]
  simp
section
variable {h0 : Int} {pl sz : Nat} {L : List ByteArray} {a : Ab} {S : Sd} {R : Rv} {f : Nat → Int}
theorem Inv.out_mem (hI : Inv h0 pl sz L a S R f) (hW : S.Wf) {i : Nat} (hi : i < a.T L) : (a.out L).getD i ByteArray.empty ∈ L := by
  have hk : a.sent.length ≤ L.length := by
    have := hW.k
    rw [hI.sc.2.2.2.1, hI.sc.2.2.2.2.1] at this
    exact this
  refine outK_mem L a.sent _ hk _ ?_
  rw [List.getD_eq_getElem?_getD, List.getElem?_eq_getElem hi, Option.getD_some]
  exact List.getElem_mem hi
/-- A word of a letter lies within its place. -/
theorem per_of {m : ByteArray} (h : m.size ≤ sz) {j : Nat} (hj : j < need m.size) : 1 + j < per sz := by
  have := need_mono h
  unfold per
  omega
theorem Inv.q_upd (hI : Inv h0 pl sz L a S R f) (hp : Four4 pl) (hL : ∀ i, i < a.T L → ((a.out L).getD i ByteArray.empty).size ≤ sz) {T k : Nat} (hT : a.T L ≤ T) (hT2 : T < a.H + pl) (hk : k < per sz) (x : Int) :
    ∀ i, a.H ≤ i → i < a.T L → LiesK (upd f (bs h0 pl sz T + k) x) (bs h0 pl sz i) ((a.out L).getD i ByteArray.empty) (need ((a.out L).getD i ByteArray.empty).size) := fun i h1 h2 => by
  refine (hI.q i h1 h2).upd ?_ fun j hj => ?_
  · exact fun e => bs_ne (h0 := h0) (sz := sz) hp (show i ≠ T by omega) (by omega) (by omega) (show 0 < per sz by unfold per; omega) hk e
  · rw [Nat.add_assoc]
    exact bs_ne hp (by omega) (by omega) (by omega) (per_of (hL i h2) hj) hk
theorem inv_s (hI : Inv h0 pl sz L a S R f) (hW : S.Wf) (hp : Four4 pl) (hz : sz ≤ 32) (hL : ∀ m ∈ L, 1 ≤ m.size ∧ m.size ≤ sz) : Inv h0 pl sz L (a.stepS L pl) (S.step 80 f) R (S.word 80 f) := by
  obtain ⟨c1, c2, c3, c4, c5, c6⟩ := hI.sc
  have hpl := hp.le
  have hsp := hW.ph
  rw [c6] at hsp
  have hps := hI.ht
  have hcu : S.cur = a.cur L := by unfold Sd.cur Ab.cur; rw [c4, c5]
  have hmem : ∀ i, i < a.T L → ((a.out L).getD i ByteArray.empty).size ≤ sz := fun i hi => (hL _ (hI.out_mem hW hi)).2
  have hper : 1 ≤ per sz := by unfold per; omega
  by_cases h5 : 5 ≤ a.sp
  · have e1 : S.step 80 f = S := by unfold Sd.step; rw [if_pos (by omega)]
    have e2 : S.word 80 f = f := by unfold Sd.word; rw [if_pos (by omega)]
    rw [e1, e2, Ab.stepS5 h5]
    exact hI
  · have hp5 : S.ph < 5 := by omega
    have hcz := hW.cur hp5
    rw [hcu, c3] at hcz
    have hPa := hI.spa (by omega)
    have hwpa := hW.pa hp5
    have h6 : a.sp = 0 ∨ a.sp = 1 ∨ a.sp = 2 ∨ a.sp = 3 ∨ a.sp = 4 := by omega
    rcases h6 with e | e | e | e | e
    · have hph : S.ph = 0 := by omega
      have hwh : S.wh = (0 : Nat) := by rw [Sd.wh0 hph, c1]; rfl
      rw [Sd.step_yes hwh (by omega) hp5, Sd.word_yes hwh (by omega) hp5, Sd.puts01 (.inl hph), upd_self, Sd.go0 hph, Ab.stepS0 e]
      refine ⟨⟨c1, c2, c3, c4, c5, rfl⟩, hI.rc, fun _ => hPa, hI.rpb, hI.f0, hI.f1, hI.ht, hI.pre, fun _ _ => ⟨hI.f0, Nat.le_refl _, hI.ht.2⟩, fun h => absurd h (by show ¬ 2 ≤ 1; omega), fun h => absurd h (by show ¬ 3 ≤ 1; omega), hI.r1, hI.r2, hI.r3, hI.q⟩
    · have hph : S.ph = 1 := by omega
      have hwh : S.wh = (1 : Nat) := by rw [Sd.wh1 hph, c1]; rfl
      obtain ⟨s1, s2, s3⟩ := hI.s1 (by omega) (by omega)
      rw [Sd.step_yes hwh (by omega) hp5, Sd.word_yes hwh (by omega) hp5, Sd.puts01 (.inr hph), upd_self, Sd.go1 hph, Ab.stepS1 e, s1, hI.f1, used_eq (by omega) (by omega), c2]
      by_cases hx : pl ≤ a.T L - a.hd
      · rw [if_pos hx, if_pos (by omega)]
        have eo : (a.closeS L false).out L = a.out L := by rw [out_closeS]; rfl
        have eT : (a.closeS L false).T L = a.T L := by unfold Ab.T; rw [eo]
        have esp : (a.closeS L false).sp = 5 ∨ (a.closeS L false).sp = 0 := by
          show (if a.sent.length + 1 = L.length then 5 else 0) = 5 ∨ (if a.sent.length + 1 = L.length then 5 else 0) = 0
          split
          · exact .inl rfl
          · exact .inr rfl
        refine ⟨⟨c1, rfl, c3, c4, ?_, ?_⟩, hI.rc, fun _ => hPa, hI.rpb, hI.f0, by rw [eT]; exact hI.f1, by rw [eT]; exact hI.ht, by rw [eo]; exact hI.pre, fun h1 h2 => by omega, fun h1 h2 => by omega, fun h1 h2 => by omega, by rw [eT]; exact hI.r1, hI.r2, ?_, by rw [eT, eo]; exact hI.q⟩
        · show S.sent ++ [false] = a.sent ++ [false]; rw [c5]
        · show (if S.sent.length + 1 = S.L.length then 5 else 0) = if a.sent.length + 1 = L.length then 5 else 0
          rw [c5, c4]
        · have en : (a.closeS L false).nxt L = a.nxt L := by unfold Ab.nxt; rw [eo]; rfl
          rw [en]; exact hI.r3
      · rw [if_neg hx, if_neg (by omega)]
        exact ⟨⟨c1, rfl, c3, c4, c5, rfl⟩, hI.rc, fun _ => hPa, hI.rpb, hI.f0, hI.f1, hI.ht, hI.pre, fun _ _ => ⟨rfl, s2, s3⟩, fun _ _ => ⟨rfl, by show a.T L < a.hd + pl; omega⟩, fun h => absurd h (by show ¬ 3 ≤ 2; omega), hI.r1, hI.r2, hI.r3, hI.q⟩
    · have hph : S.ph = 2 := by omega
      obtain ⟨s1, s2, s3⟩ := hI.s1 (by omega) (by omega)
      obtain ⟨t1, t2⟩ := hI.s2 (by omega) (by omega)
      have hwh : S.wh = ((bs h0 pl sz (a.T L) + 0 : Nat) : Int) := by rw [Sd.wh2 hph, c1, c2, c3, t1, bs_base hp]; rfl
      have hb := bs_lt (h0 := h0) (i := a.T L) hp hz (show 0 < per sz by omega)
      have hpa0 : a.pa = 0 := by rw [← hPa]; exact hwpa.1 (by omega)
      rw [Sd.step_yes hwh hb.2 hp5, Sd.word_yes hwh hb.2 hp5, Sd.puts2 hph, hcu, Sd.go2 hph, Ab.stepS2 e]
      refine ⟨⟨c1, c2, c3, c4, c5, rfl⟩, hI.rc, fun _ => hPa, hI.rpb, ?_, ?_, hI.ht, hI.pre, fun _ _ => ⟨s1, s2, s3⟩, fun _ _ => ⟨t1, t2⟩, fun _ _ => ?_, hI.r1, hI.r2, hI.r3, hI.q_upd hp hmem (Nat.le_refl _) (by omega) (by omega) _⟩
      · rw [upd_other (by omega)]; exact hI.f0
      · rw [upd_other (by omega)]; exact hI.f1
      · refine ⟨?_, fun j hj => absurd hj ?_⟩
        · rw [Nat.add_zero]; exact upd_same
        · show ¬ j < (if (3 : Nat) = 3 then a.pa else _)
          rw [if_pos rfl]; omega
    · have hph : S.ph = 3 := by omega
      obtain ⟨s1, s2, s3⟩ := hI.s1 (by omega) (by omega)
      obtain ⟨t1, t2⟩ := hI.s2 (by omega) (by omega)
      have hl := hI.s3 (by omega) (by omega)
      rw [if_pos e] at hl
      have hpa : a.pa < need (a.cur L).size := by rw [← hPa, ← hcu]; exact hwpa.2 hph
      have hk := per_of (sz := sz) hcz.2 hpa
      have hwh : S.wh = ((bs h0 pl sz (a.T L) + (1 + a.pa) : Nat) : Int) := by rw [Sd.wh3 hph, c1, c2, c3, t1, bs_base hp, hPa]; omega
      have hb := bs_lt (h0 := h0) (i := a.T L) hp hz hk
      have hnew : LiesK (upd f (bs h0 pl sz (a.T L) + (1 + a.pa)) (wordOf (a.cur L) a.pa)) (bs h0 pl sz (a.T L)) (a.cur L) (a.pa + 1) := by
        refine ⟨by rw [upd_other (by omega)]; exact hl.1, fun j hj => ?_⟩
        by_cases ej : j = a.pa
        · subst ej
          rw [show bs h0 pl sz (a.T L) + 1 + a.pa = bs h0 pl sz (a.T L) + (1 + a.pa) by omega]
          exact upd_same
        · rw [upd_other (by omega)]; exact hl.2 j (by omega)
      rw [Sd.step_yes hwh hb.2 hp5, Sd.word_yes hwh hb.2 hp5, Sd.puts3 hph, hcu, hPa, Sd.go3 hph, Ab.stepS3 e, hcu, hPa]
      have hq := hI.q_upd hp hmem (Nat.le_refl _) (show a.T L < a.H + pl by omega) hk (wordOf (a.cur L) a.pa)
      by_cases hx : a.pa + 1 < need (a.cur L).size
      · rw [if_pos hx, if_pos hx]
        refine ⟨⟨c1, c2, c3, c4, c5, c6⟩, hI.rc, fun _ => rfl, hI.rpb, ?_, ?_, hI.ht, hI.pre, fun _ _ => ⟨s1, s2, s3⟩, fun _ _ => ⟨t1, t2⟩, fun _ _ => ?_, hI.r1, hI.r2, hI.r3, hq⟩
        · rw [upd_other (by omega)]; exact hI.f0
        · rw [upd_other (by omega)]; exact hI.f1
        · show LiesK _ _ _ (if a.sp = 3 then a.pa + 1 else _)
          rw [if_pos e]; exact hnew
      · rw [if_neg hx, if_neg hx]
        refine ⟨⟨c1, c2, c3, c4, c5, rfl⟩, hI.rc, fun _ => rfl, hI.rpb, ?_, ?_, hI.ht, hI.pre, fun _ _ => ⟨s1, s2, s3⟩, fun _ _ => ⟨t1, t2⟩, fun _ _ => ?_, hI.r1, hI.r2, hI.r3, hq⟩
        · rw [upd_other (by omega)]; exact hI.f0
        · rw [upd_other (by omega)]; exact hI.f1
        · show LiesK _ _ _ (if (4 : Nat) = 3 then _ else need (a.cur L).size)
          rw [if_neg (by omega)]; exact hnew.mono (by omega)
    · have hph : S.ph = 4 := by omega
      have hwh : S.wh = (1 : Nat) := by rw [Sd.wh4 hph, c1]; rfl
      obtain ⟨s1, s2, s3⟩ := hI.s1 (by omega) (by omega)
      obtain ⟨t1, t2⟩ := hI.s2 (by omega) (by omega)
      have hl := hI.s3 (by omega) (by omega)
      rw [if_neg (by omega)] at hl
      rw [Sd.step_yes hwh (by omega) hp5, Sd.word_yes hwh (by omega) hp5, Sd.puts4 hph, Sd.go4 hph, Ab.stepS4 e, t1, inc_idx]
      have eo : (a.closeS L true).out L = a.out L ++ [a.cur L] := by rw [out_closeS]; rfl
      have eT : (a.closeS L true).T L = a.T L + 1 := by unfold Ab.T; rw [eo]; simp
      have eH : (a.closeS L true).H = a.H := rfl
      have esp : (a.closeS L true).sp = 5 ∨ (a.closeS L true).sp = 0 := by
        show (if a.sent.length + 1 = L.length then 5 else 0) = 5 ∨ (if a.sent.length + 1 = L.length then 5 else 0) = 0
        split
        · exact .inl rfl
        · exact .inr rfl
      refine ⟨⟨c1, c2, c3, c4, ?_, ?_⟩, hI.rc, fun _ => hPa, hI.rpb, ?_, ?_, by rw [eT, eH]; omega, ?_, fun h1 h2 => by omega, fun h1 h2 => by omega, fun h1 h2 => by omega, fun h1 h2 => ?_, hI.r2, fun h1 h2 => ?_, fun i h1 h2 => ?_⟩
      · show S.sent ++ [true] = a.sent ++ [true]; rw [c5]
      · show (if S.sent.length + 1 = S.L.length then 5 else 0) = if a.sent.length + 1 = L.length then 5 else 0
        rw [c5, c4]
      · rw [upd_other (by omega)]; exact hI.f0
      · rw [upd_same, eT]
      · rw [eo, eH]
        show a.inn = _
        rw [List.take_append_of_le_length (by exact hps.1)]
        exact hI.pre
      · obtain ⟨u1, u2, u3⟩ := hI.r1 h1 h2
        exact ⟨u1, u2, by rw [eT]; exact Nat.le_succ_of_le u3⟩
      · have h1 : 3 ≤ a.rp := h1
        have h2 : a.rp ≤ 4 := h2
        obtain ⟨_, u2, u3⟩ := hI.r1 (by omega) (by omega)
        obtain ⟨_, v2⟩ := hI.r2 (by omega) (by omega)
        have en : (a.closeS L true).nxt L = a.nxt L := by
          unfold Ab.nxt
          rw [eo, eH, getD_app (show a.H < (a.out L).length from by have : a.T L = (a.out L).length := rfl; omega)]
        rw [en]; exact hI.r3 h1 h2
      · rw [eH] at h1
        rw [eT] at h2
        rw [eo]
        by_cases ei : i = a.T L
        · subst ei
          rw [show a.T L = (a.out L).length from rfl, getD_last]
          rw [show (a.out L).length = a.T L from rfl]
          have hbb := bs_lt (h0 := h0) (i := a.T L) hp hz (show 0 < per sz by omega)
          exact hl.upd (by omega) (fun j hj => by omega)
        · have hi : i < a.T L := by omega
          rw [getD_app hi]
          have hbb := bs_lt (h0 := h0) (i := i) hp hz (show 0 < per sz by omega)
          exact (hI.q i h1 hi).upd (by omega) (fun j hj => by omega)
end
end Go.Proofs.YtnmobalgghggnaaDoor
