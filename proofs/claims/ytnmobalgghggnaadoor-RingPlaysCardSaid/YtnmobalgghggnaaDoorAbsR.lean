/-
  The words say what is under way, behind each step of a receiver too, and at first.
-/
import Derived.Test.YtnmobalgghggnaaDoorAbsS
namespace Go.Proofs.YtnmobalgghggnaaDoor

section
variable {h0 : Int} {pl sz : Nat} {L : List ByteArray} {a : Ab} {S : Sd} {R : Rv} {f : Nat → Int}
theorem take_next {l : List ByteArray} {k : Nat} (h : k < l.length) : l.take k ++ [l.getD k ByteArray.empty] = l.take (k + 1) := by
  rw [List.take_add_one, List.getElem?_eq_getElem h, List.getD_eq_getElem?_getD, List.getElem?_eq_getElem h, Option.getD_some]
  rfl
theorem inv_r (hI : Inv h0 pl sz L a S R f) (hSW : S.Wf) (hW : R.Wf) (hp : Four4 pl) (hz : sz ≤ 32) (hL : ∀ m ∈ L, 1 ≤ m.size ∧ m.size ≤ sz) : Inv h0 pl sz L (a.stepR L) S (R.step 80 f) (R.word 80 f) := by
  obtain ⟨c1, c2, c3, c4, c5, c6⟩ := hI.rc
  have hpl := hp.le
  have hrp := hW.ph
  rw [c6] at hrp
  have hps := hI.ht
  have hper : 1 ≤ per sz := by unfold per; omega
  by_cases h5 : 5 ≤ a.rp
  · have e1 : R.step 80 f = R := by unfold Rv.step; rw [if_pos (by omega)]
    have e2 : R.word 80 f = f := by unfold Rv.word; rw [if_pos (by omega)]
    rw [e1, e2, Ab.stepR5 h5]
    exact hI
  · have hp5 : R.ph < 5 := by omega
    have hPb := hI.rpb (by omega)
    have hwpa := hW.pa hp5
    have h6 : a.rp = 0 ∨ a.rp = 1 ∨ a.rp = 2 ∨ a.rp = 3 ∨ a.rp = 4 := by omega
    rcases h6 with e | e | e | e | e
    · have hph : R.ph = 0 := by omega
      have hwh : R.wh = (1 : Nat) := by rw [Rv.wh0 hph, c1]; rfl
      rw [Rv.step_yes hwh (by omega) hp5, Rv.word_same (by omega), Rv.go0 hph, Ab.stepR0 e]
      exact ⟨hI.sc, ⟨c1, c2, c3, c4, c5, rfl⟩, hI.spa, fun _ => hPb, hI.f0, hI.f1, hI.ht, hI.pre, hI.s1, hI.s2, hI.s3, fun _ _ => ⟨hI.f1, hps.1, Nat.le_refl _⟩, fun h => absurd h (by show ¬ 2 ≤ 1; omega), fun h => absurd h (by show ¬ 3 ≤ 1; omega), hI.q⟩
    · have hph : R.ph = 1 := by omega
      have hwh : R.wh = (0 : Nat) := by rw [Rv.wh1 hph, c1]; rfl
      obtain ⟨r1, r2, r3⟩ := hI.r1 (by omega) (by omega)
      rw [Rv.step_yes hwh (by omega) hp5, Rv.word_same (by omega), Rv.go1 hph, Ab.stepR1 e]
      by_cases hx : a.H = a.tl
      · rw [if_pos (show f 0 = R.oth by rw [hI.f0, r1, hx]), if_pos hx]
        have ei : (a.closeR ByteArray.empty).inn = a.inn := by rw [inn_closeR]; rfl
        have eH : (a.closeR ByteArray.empty).H = a.H := by unfold Ab.H; rw [ei]
        have erp : (a.closeR ByteArray.empty).rp = 5 ∨ (a.closeR ByteArray.empty).rp = 0 := by
          show (if a.got.length + 1 = 40 then 5 else 0) = 5 ∨ (if a.got.length + 1 = 40 then 5 else 0) = 0
          split
          · exact .inl rfl
          · exact .inr rfl
        refine ⟨hI.sc, ⟨c1, c2, c3, c4, ?_, ?_⟩, hI.spa, fun _ => hPb, by rw [eH]; exact hI.f0, hI.f1, by rw [eH]; exact hI.ht, by rw [ei, eH]; exact hI.pre, by rw [eH]; exact hI.s1, hI.s2, hI.s3, fun h1 h2 => by omega, fun h1 h2 => by omega, fun h1 h2 => by omega, by rw [eH]; exact hI.q⟩
        · show R.got ++ [ByteArray.empty] = a.got ++ [ByteArray.empty]; rw [c5]
        · show (if R.got.length + 1 = R.times then 5 else 0) = if a.got.length + 1 = 40 then 5 else 0
          rw [c5, c4]
      · rw [if_neg (show ¬ f 0 = R.oth by rw [hI.f0, r1, idx_eq (by omega) (by omega)]; exact hx), if_neg hx]
        exact ⟨hI.sc, ⟨c1, c2, c3, c4, c5, rfl⟩, hI.spa, fun _ => hPb, hI.f0, hI.f1, hI.ht, hI.pre, hI.s1, hI.s2, hI.s3, fun _ _ => ⟨r1, r2, r3⟩, fun _ _ => ⟨hI.f0, by show a.H < a.tl; omega⟩, fun h => absurd h (by show ¬ 3 ≤ 2; omega), hI.q⟩
    · have hph : R.ph = 2 := by omega
      obtain ⟨r1, r2, r3⟩ := hI.r1 (by omega) (by omega)
      obtain ⟨u1, u2⟩ := hI.r2 (by omega) (by omega)
      have hwh : R.wh = ((bs h0 pl sz a.H + 0 : Nat) : Int) := by rw [Rv.wh2 hph, c1, c2, c3, u1, bs_base hp]; rfl
      have hb := bs_lt (h0 := h0) (i := a.H) hp hz (show 0 < per sz by omega)
      have hq := hI.q a.H (Nat.le_refl _) (by omega)
      have hsz := hL _ (hI.out_mem hSW (show a.H < a.T L by omega))
      have hpb0 : a.pb = 0 := by rw [← hPb]; exact hwpa.1 (by omega)
      rw [Rv.step_yes hwh hb.2 hp5, Rv.word_same (by omega), Rv.go2 hph, Ab.stepR2 e]
      refine ⟨hI.sc, ⟨c1, c2, c3, c4, c5, rfl⟩, hI.spa, fun _ => hPb, hI.f0, hI.f1, hI.ht, hI.pre, hI.s1, hI.s2, hI.s3, fun _ _ => ⟨r1, r2, r3⟩, fun _ _ => ⟨u1, u2⟩, fun _ _ => ⟨?_, fun j hj => absurd hj ?_⟩, hI.q⟩
      · show upd R.ld 0 (min (max (f (bs h0 pl sz a.H + 0)) 1) (R.sz : Int)) 0 = (a.nxt L).size
        rw [upd_same, Nat.add_zero, hq.1, c3]
        show min (max (((a.nxt L).size : Nat) : Int) 1) (sz : Int) = _
        have h1 : 1 ≤ (a.nxt L).size := hsz.1
        have h2 : (a.nxt L).size ≤ sz := hsz.2
        omega
      · show ¬ j < (if (3 : Nat) = 3 then a.pb else _)
        rw [if_pos rfl]; omega
    · have hph : R.ph = 3 := by omega
      obtain ⟨r1, r2, r3⟩ := hI.r1 (by omega) (by omega)
      obtain ⟨u1, u2⟩ := hI.r2 (by omega) (by omega)
      obtain ⟨l0, l1⟩ := hI.r3 (by omega) (by omega)
      rw [if_pos e] at l1
      have hq := hI.q a.H (Nat.le_refl _) (by omega)
      have hsz := hL _ (hI.out_mem hSW (show a.H < a.T L by omega))
      have hpb : a.pb < need (a.nxt L).size := by
        have := hwpa.2 hph
        rw [l0, Int.toNat_natCast, hPb] at this
        exact this
      have hk := per_of (sz := sz) hsz.2 hpb
      have hwh : R.wh = ((bs h0 pl sz a.H + (1 + a.pb) : Nat) : Int) := by rw [Rv.wh3 hph, c1, c2, c3, u1, bs_base hp, hPb]; omega
      have hb := bs_lt (h0 := h0) (i := a.H) hp hz hk
      have hv : f (bs h0 pl sz a.H + (1 + a.pb)) = wordOf (a.nxt L) a.pb := by
        have := hq.2 a.pb hpb
        rw [Nat.add_assoc] at this
        exact this
      have hnew : ∀ j, j < a.pb + 1 → upd R.ld (1 + a.pb) (wordOf (a.nxt L) a.pb) (1 + j) = wordOf (a.nxt L) j := fun j hj => by
        by_cases ej : j = a.pb
        · subst ej; exact upd_same
        · rw [upd_other (by omega)]; exact l1 j (by omega)
      have hn0 : upd R.ld (1 + a.pb) (wordOf (a.nxt L) a.pb) 0 = (a.nxt L).size := by rw [upd_other (by omega)]; exact l0
      rw [Rv.step_yes hwh hb.2 hp5, Rv.word_same (by omega), Rv.go3 hph, Ab.stepR3 e, hv, hPb, l0, Int.toNat_natCast]
      by_cases hx : a.pb + 1 < need (a.nxt L).size
      · rw [if_pos hx, if_pos hx]
        refine ⟨hI.sc, ⟨c1, c2, c3, c4, c5, c6⟩, hI.spa, fun _ => rfl, hI.f0, hI.f1, hI.ht, hI.pre, hI.s1, hI.s2, hI.s3, fun _ _ => ⟨r1, r2, r3⟩, fun _ _ => ⟨u1, u2⟩, fun _ _ => ⟨hn0, fun j hj => hnew j ?_⟩, hI.q⟩
        have hj : j < (if a.rp = 3 then a.pb + 1 else _) := hj
        rw [if_pos e] at hj
        exact hj
      · rw [if_neg hx, if_neg hx]
        refine ⟨hI.sc, ⟨c1, c2, c3, c4, c5, rfl⟩, hI.spa, fun _ => rfl, hI.f0, hI.f1, hI.ht, hI.pre, hI.s1, hI.s2, hI.s3, fun _ _ => ⟨r1, r2, r3⟩, fun _ _ => ⟨u1, u2⟩, fun _ _ => ⟨hn0, fun j hj => hnew j ?_⟩, hI.q⟩
        have hj : j < (if (4 : Nat) = 3 then _ else need (a.nxt L).size) := hj
        rw [if_neg (by omega)] at hj
        omega
    · have hph : R.ph = 4 := by omega
      obtain ⟨r1, r2, r3⟩ := hI.r1 (by omega) (by omega)
      obtain ⟨u1, u2⟩ := hI.r2 (by omega) (by omega)
      obtain ⟨l0, l1⟩ := hI.r3 (by omega) (by omega)
      rw [if_neg (by omega)] at l1
      have hsz := hL _ (hI.out_mem hSW (show a.H < a.T L by omega))
      have htx : textOf R.ld = a.nxt L := textOf_letter l0 l1
      have hnz : ¬ (a.nxt L).size = 0 := by have : 1 ≤ (a.nxt L).size := hsz.1; omega
      have hwh : R.wh = (0 : Nat) := by rw [Rv.wh4 hph, c1]; rfl
      rw [Rv.step_yes hwh (by omega) hp5, Rv.word_yes hwh (by omega) hp5, Rv.puts4 hph, Rv.go4 hph, Ab.stepR4 e, u1, inc_idx, htx]
      have ei : (a.closeR (a.nxt L)).inn = a.inn ++ [a.nxt L] := by rw [inn_closeR, if_neg hnz]
      have eH : (a.closeR (a.nxt L)).H = a.H + 1 := by unfold Ab.H; rw [ei]; simp
      have eT : (a.closeR (a.nxt L)).T L = a.T L := rfl
      have eo : (a.closeR (a.nxt L)).out L = a.out L := rfl
      have erp : (a.closeR (a.nxt L)).rp = 5 ∨ (a.closeR (a.nxt L)).rp = 0 := by
        show (if a.got.length + 1 = 40 then 5 else 0) = 5 ∨ (if a.got.length + 1 = 40 then 5 else 0) = 0
        split
        · exact .inl rfl
        · exact .inr rfl
      have hlies : ∀ {b k : Nat} {m : ByteArray} {x : Int}, 1 ≤ b → LiesK f b m k → LiesK (upd f 0 x) b m k := fun hb h => h.upd (by omega) (fun j _ => by omega)
      have hbge : ∀ i, 1 ≤ bs h0 pl sz i := fun i => by have := (bs_lt (h0 := h0) (i := i) hp hz (show 0 < per sz by omega)).1; omega
      refine ⟨hI.sc, ⟨c1, c2, c3, c4, ?_, ?_⟩, hI.spa, fun _ => hPb, ?_, ?_, by rw [eT, eH]; omega, ?_, fun h1 h2 => ?_, hI.s2, fun h1 h2 => hlies (hbge _) (hI.s3 h1 h2), fun h1 h2 => by omega, fun h1 h2 => by omega, fun h1 h2 => by omega, fun i h1 h2 => ?_⟩
      · show R.got ++ [a.nxt L] = a.got ++ [a.nxt L]; rw [c5]
      · show (if R.got.length + 1 = R.times then 5 else 0) = if a.got.length + 1 = 40 then 5 else 0
        rw [c5, c4]
      · rw [upd_same, eH]
      · rw [upd_other (by omega), eT]; exact hI.f1
      · rw [ei, eo, eH, hI.pre]
        exact take_next (show a.H < (a.out L).length from by have : a.T L = (a.out L).length := rfl; omega)
      · obtain ⟨s1, s2, s3⟩ := hI.s1 h1 h2
        exact ⟨s1, by rw [eH]; exact Nat.le_succ_of_le s2, s3⟩
      · rw [eH] at h1
        exact hlies (hbge _) (hI.q i (by omega) h2)
/-- The first state. -/
def ab0 (L : List ByteArray) : Ab := ⟨if L.length = 0 then 5 else 0, 0, 0, [], 0, 0, 0, []⟩
theorem inv_0 (hf0 : f 0 = h0) (hf1 : f 1 = h0) (hh : 0 ≤ h0 ∧ h0 < 4294967296) (hp : Four4 pl) : Inv h0 pl sz L (ab0 L) (sd0 0 pl sz L) (rv0 0 pl sz 40) f := by
  have hpl := hp.le
  have esp : (ab0 L).sp = 5 ∨ (ab0 L).sp = 0 := by
    show (if L.length = 0 then 5 else 0) = 5 ∨ (if L.length = 0 then 5 else 0) = 0
    split
    · exact .inl rfl
    · exact .inr rfl
  have hr : (ab0 L).rp = 0 := rfl
  refine ⟨⟨rfl, rfl, rfl, rfl, rfl, rfl⟩, ⟨rfl, rfl, rfl, rfl, rfl, rfl⟩, fun _ => rfl, fun _ => rfl, ?_, ?_, ⟨Nat.le_refl _, Nat.zero_le _⟩, rfl, fun h1 h2 => by omega, fun h1 h2 => by omega, fun h1 h2 => by omega, fun h1 h2 => by omega, fun h1 h2 => by omega, fun h1 h2 => by omega, fun i h1 h2 => absurd h2 (Nat.not_lt_zero _)⟩
  · rw [hf0]
    show h0 = (h0 + ((0 : Nat) : Int)) % 4294967296
    omega
  · rw [hf1]
    show h0 = (h0 + ((0 : Nat) : Int)) % 4294967296
    omega
end
end Go.Proofs.YtnmobalgghggnaaDoor
