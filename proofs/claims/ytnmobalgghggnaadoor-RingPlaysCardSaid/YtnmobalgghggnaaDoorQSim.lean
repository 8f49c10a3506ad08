/-
  The document's sender beside the code's: Step.
-/
import Derived.Test.YtnmobalgghggnaaDoorQSa
import Derived.Test.YtnmobalgghggnaaDoorQSb
import Derived.Test.YtnmobalgghggnaaDoorQSc
import Derived.Test.YtnmobalgghggnaaDoorQRef
import Derived.Test.YtnmobalgghggnaaDoorQRa
import Derived.Test.YtnmobalgghggnaaDoorQRb
import Derived.Test.YtnmobalgghggnaaDoorQRd
namespace Go.Proofs.YtnmobalgghggnaaDoor
open Go.RowKit

/-- How many loads and stores of a message are done. -/
def didS (s : Sd) : Int := match s.ph with
  | 0 => 0
  | 1 => 1
  | 2 => 2
  | 3 => 3 + (s.pa : Nat)
  | _ => 3 + (need s.cur.size : Nat)
theorem didS0 {s : Sd} (h : s.ph = 0) : didS s = 0 := by cases s; cases h; rfl
theorem didS1 {s : Sd} (h : s.ph = 1) : didS s = 1 := by cases s; cases h; rfl
theorem didS2 {s : Sd} (h : s.ph = 2) : didS s = 2 := by cases s; cases h; rfl
theorem didS3 {s : Sd} (h : s.ph = 3) : didS s = 3 + (s.pa : Nat) := by cases s; cases h; rfl
theorem didS4 {s : Sd} (h : s.ph = 4) : didS s = 3 + (need s.cur.size : Nat) := by cases s; cases h; rfl
structure SdIn (w : World) (s : Sd) (A1 A10 : Option Addr) (c10 : Nat) (did hd tl : Int) (ov : Bool) : Prop where
  S : Strs w.heap.size w A1 s.L
  V : Vals w A10 (s.sent.map Value.bool)
  nil : A10 = none → c10 = 0
  bh : 0 ≤ hd ∧ hd < 4294967296
  bt : 0 ≤ tl ∧ tl < 4294967296
  h : 1 ≤ s.ph → s.ph ≤ 4 → hd = s.oth
  t : 2 ≤ s.ph → s.ph ≤ 4 → tl = s.own
  d : s.ph < 5 → did = didS s
  o : s.ph = 5 → ov = false → s.sent.length = s.L.length
/-- A Side that says what a sender is. -/
def SdSim (w : World) (s : Sd) (D : DS) : Prop := ∃ (ti : Int) (A1 : Option Addr) (c1 : Nat) (did hd tl ln : Int) (tx : ByteArray) (A10 : Option Addr) (c10 : Nat) (A11 : Option Addr) (n11 c11 : Nat) (ov : Bool),
  D = ⟨s.at', s.pl, s.sz, .slice A1 s.L.length c1, ti, did, hd, tl, ln, tx, .slice A10 (s.sent.map Value.bool).length c10, .slice A11 n11 c11, ov⟩ ∧ SdIn w s A1 A10 c10 did hd tl ov
/-- What Step leaves of a sender. -/
def DocS (n : Nat) (f : Nat → Int) (s : Sd) (D : DS) (U : Option Addr) (w : World) (e : Ending) (w' : World) : Prop := ∃ D' U' c', e = .returned (.tuple #[D'.V, .slice U' n c']) ∧ SdSim w' (s.step n f) D' ∧ D'.ov = decide (5 ≤ (s.step n f).ph) ∧ Ws w' U' n (s.word n f) ∧ Below w.heap.size w w' ∧ Loc w w' D D' U U'
theorem oneCell_bools (l : List Bool) : ∀ u ∈ l.map Value.bool, u.oneCell' = true := fun u hu => by
  obtain ⟨b, _, rfl⟩ := List.mem_map.1 hu
  rfl
theorem close_ov (s : Sd) (b : Bool) : ((((s.sent.map Value.bool).length + 1 : Nat) : Int) == (s.L.length : Nat)) = decide (5 ≤ (s.close b).ph) := by
  have e : (s.close b).ph = if s.sent.length + 1 = s.L.length then 5 else 0 := rfl
  rw [e, List.length_map]
  by_cases h : s.sent.length + 1 = s.L.length
  · rw [if_pos h, h, beq_self_eq_true]; rfl
  · rw [if_neg h, beq_eq_false_iff_ne.2 (by omega)]; rfl
set_option maxHeartbeats 2000000 in
set_option maxRecDepth 100000 in
theorem doc_s (s : Sd) (D : DS) (U : Option Addr) (n cp : Nat) (f : Nat → Int) (w : World) (hD : SdSim w s D) (hov : D.ov = false) (hW : s.Wf) (hU : Ws w U n f) (hf : U32 n f) (h0 : 0 < n) (hn : n ≤ 4096) :
    Calls Tryd.prog 18 #[D.V, .bool true, .slice U n cp] w fun e w' => DocS n f s D U w e w' := by
  obtain ⟨ti, A1, c1, did, hd, tl, ln, tx, A10, c10, A11, n11, c11, ov, rfl, hI⟩ := hD
  have hov : ov = false := hov
  subst hov
  by_cases h5 : s.ph = 5
  · have hl := hI.o h5 rfl
    have e1 : s.step n f = s := by unfold Sd.step; rw [if_pos (by omega)]
    have e2 : s.word n f = f := by unfold Sd.word; rw [if_pos (by omega)]
    have hl2 : (s.sent.map Value.bool).length = s.L.length := by rw [List.length_map]; exact hl
    refine Calls.mono (by rw [hl2]; exact st_s5 s.at' ti did hd tl ln s.pl s.sz n s.L.length c1 c10 n11 c11 cp A1 A10 A11 U tx false f w hU) ?_
    rintro e w' ⟨U', c', rfl, hU', hB, hl⟩
    refine ⟨_, U', c', rfl, ?_, ?_, by rw [e2]; exact hU', hB, rfl, .inl (by show Value.slice A10 s.L.length c10 = .slice A10 (s.sent.map Value.bool).length c10; rw [hl2]), .inl rfl, hl⟩
    · rw [e1]
      exact ⟨ti, A1, c1, did, hd, tl, ln, tx, A10, c10, A11, n11, c11, true, by rw [hl2], (hI.S.keep hB).up hB.size, hI.V.keep hB, hI.nil, hI.bh, hI.bt, hI.h, hI.t, hI.d, fun _ h => by cases h⟩
    · rw [e1, h5]; rfl
  · have hp5 : s.ph < 5 := by have := hW.ph; omega
    have hk : (s.sent.map Value.bool).length < s.L.length := by rw [List.length_map]; exact hW.more hp5
    have hc := capP_of hW.pl
    have hm : ∀ m ∈ s.L, m.size ≤ 32 := fun m h => by have := (hW.ms m h).2; have := hW.sz; omega
    have hcur : s.L.getD (s.sent.map Value.bool).length ByteArray.empty = s.cur := by rw [List.length_map]; rfl
    have hcz := hW.cur hp5
    have hd' := hI.d hp5
    have miss : ∀ (e : Ending) (w' : World), ¬ (0 ≤ s.wh ∧ s.wh < n) → DGoL U ⟨s.at', s.pl, s.sz, .slice A1 s.L.length c1, ti, did, hd, tl, ln, tx, .slice A10 (s.sent.map Value.bool).length c10, .slice A11 n11 c11, true⟩ n f w e w' → DocS n f s ⟨s.at', s.pl, s.sz, .slice A1 s.L.length c1, ti, did, hd, tl, ln, tx, .slice A10 (s.sent.map Value.bool).length c10, .slice A11 n11 c11, false⟩ U w e w' := fun e w' hno ⟨U', c', he, hU', hB, hl⟩ => by
      refine ⟨_, U', c', he, ?_, ?_, by rw [Sd.word_no hno hp5]; exact hU', hB, rfl, .inl rfl, .inl rfl, hl⟩
      · rw [Sd.step_no hno hp5]
        exact ⟨ti, A1, c1, did, hd, tl, ln, tx, A10, c10, A11, n11, c11, true, rfl, (hI.S.keep hB).up hB.size, hI.V.keep hB, hI.nil, hI.bh, hI.bt, fun _ (h : 5 ≤ 4) => by omega, fun _ (h : 5 ≤ 4) => by omega, fun (h : 5 < 5) => by omega, fun _ h => by cases h⟩
      · rw [Sd.step_no hno hp5]; rfl
    have h6 : s.ph = 0 ∨ s.ph = 1 ∨ s.ph = 2 ∨ s.ph = 3 ∨ s.ph = 4 := by omega
    rcases h6 with e | e | e | e | e
    · have hdid : did = 0 := by rw [hd', didS0 e]
      subst hdid
      have hwh := Sd.wh0 e
      by_cases hin : 0 ≤ s.wh ∧ s.wh < n
      · obtain ⟨i, hi⟩ : ∃ i : Nat, s.wh = i := ⟨s.wh.toNat, by omega⟩
        have hin' : i < n := by omega
        refine (st_s0 s.at' ti hd tl ln s.pl s.sz n _ c1 c10 cp A1 A10 U tx A11 n11 c11 false s.L f w hW.ar hc hW.sz hI.bh hI.bt hI.S hk hW.few hm hU hf h0 hn i (by omega) hin').mono ?_
        rintro e2 w' ⟨U', c', rfl, hU', hB, hl⟩
        refine ⟨_, U', c', rfl, ?_, ?_, by rw [Sd.word_yes hi hin' hp5, Sd.puts01 (.inl e), upd_self]; exact hU', hB, rfl, .inl rfl, .inl rfl, hl⟩
        · rw [Sd.step_yes hi hin' hp5, Sd.go0 e]
          exact ⟨ti, A1, c1, 1, f i, tl, 0, ⟨#[]⟩, A10, c10, A11, n11, c11, false, rfl, (hI.S.keep hB).up hB.size, hI.V.keep hB, hI.nil, hf i hin', hI.bt, fun _ _ => rfl, fun (h : 2 ≤ 1) => by omega, fun _ => rfl, fun (h : 1 = 5) => by omega⟩
        · rw [Sd.step_yes hi hin' hp5, Sd.go0 e]; rfl
      · refine (st_sm0 s.at' ti hd tl ln s.pl s.sz n _ c1 c10 cp A1 A10 U tx A11 n11 c11 false s.L f w hW.ar hc hW.sz hI.bh hI.bt hI.S hk hW.few hm hU hf h0 hn (by rw [← hwh]; exact hin)).mono fun e2 w' h => miss e2 w' hin h
    · have hdid : did = 1 := by rw [hd', didS1 e]
      subst hdid
      have hwh := Sd.wh1 e
      have hho := hI.h (by omega) (by omega)
      by_cases hin : 0 ≤ s.wh ∧ s.wh < n
      · obtain ⟨i, hi⟩ : ∃ i : Nat, s.wh = i := ⟨s.wh.toNat, by omega⟩
        have hin' : i < n := by omega
        by_cases hr : (s.pl : Int) ≤ used hd (f i)
        · refine (st_s1r s.at' ti hd tl ln s.pl s.sz n c1 c10 cp _ A1 A10 U tx A11 n11 c11 false s.L f w hW.ar hc hW.sz hI.bh hI.bt hI.S hk hW.few hm hU hf h0 hn i hI.V hI.nil (oneCell_bools _) (by omega) hin' hr).mono ?_
          rintro e2 w' ⟨U', c', g, c, rfl, hU', hV', hB, hg, hl⟩
          have hst : s.step n f = ({ s with own := f i } : Sd).close false := by rw [Sd.step_yes hi hin' hp5, Sd.go1 e, ← hho, if_pos hr]
          refine ⟨_, U', c', rfl, ?_, ?_, by rw [Sd.word_yes hi hin' hp5, Sd.puts01 (.inr e), upd_self]; exact hU', hB, rfl, .inr ⟨g, _, _, rfl, hg, vals_lt hV'⟩, .inl rfl, hl⟩
          · rw [hst]
            have ef : (s.sent ++ [false]).map Value.bool = s.sent.map Value.bool ++ [Value.bool false] := by simp
            have hph : (({ s with own := f i } : Sd).close false).ph = 5 ∨ (({ s with own := f i } : Sd).close false).ph = 0 := by
              show (if s.sent.length + 1 = s.L.length then 5 else 0) = 5 ∨ (if s.sent.length + 1 = s.L.length then 5 else 0) = 0
              split
              · exact .inl rfl
              · exact .inr rfl
            refine ⟨ti, A1, c1, 0, hd, f i, 0, ⟨#[]⟩, some ⟨g, 0, none⟩, c, A11, n11, c11, _, by show _ = DS.mk _ _ _ _ _ _ _ _ _ _ (.slice _ ((s.sent ++ [false]).map Value.bool).length _) _ _; rw [ef]; rfl, (hI.S.keep hB).up hB.size, by show Vals _ _ ((s.sent ++ [false]).map Value.bool); rw [ef]; exact hV', (fun h => by cases h), hI.bh, hf i hin', fun h1 h2 => by omega, fun h1 h2 => by omega, fun h => ?_, fun h ho => ?_⟩
            · rcases hph with e3 | e3
              · omega
              · rw [didS0 e3]
            · rw [close_ov s false] at ho
              have : (s.close false).ph = 5 := h
              rw [this] at ho
              cases ho
          · rw [hst]; exact close_ov s false
        · refine (st_s1g s.at' ti hd tl ln s.pl s.sz n _ c1 c10 cp A1 A10 U tx A11 n11 c11 false s.L f w hW.ar hc hW.sz hI.bh hI.bt hI.S hk hW.few hm hU hf h0 hn i (by omega) hin' hr).mono ?_
          rintro e2 w' ⟨U', c', rfl, hU', hB, hl⟩
          have hst : s.step n f = { s with own := f i, ph := 2 } := by rw [Sd.step_yes hi hin' hp5, Sd.go1 e, ← hho, if_neg hr]
          refine ⟨_, U', c', rfl, ?_, by rw [hst]; rfl, by rw [Sd.word_yes hi hin' hp5, Sd.puts01 (.inr e), upd_self]; exact hU', hB, rfl, .inl rfl, .inl rfl, hl⟩
          rw [hst]
          exact ⟨ti, A1, c1, 2, hd, f i, 0, ⟨#[]⟩, A10, c10, A11, n11, c11, false, rfl, (hI.S.keep hB).up hB.size, hI.V.keep hB, hI.nil, hI.bh, hf i hin', fun _ _ => hho, fun _ _ => rfl, fun _ => rfl, fun (h : 2 = 5) => by omega⟩
      · refine (st_sm1 s.at' ti hd tl ln s.pl s.sz n _ c1 c10 cp A1 A10 U tx A11 n11 c11 false s.L f w hW.ar hc hW.sz hI.bh hI.bt hI.S hk hW.few hm hU hf h0 hn s.wh hwh.symm hin).mono fun e2 w' h => miss e2 w' hin h
    · have hdid : did = 2 := by rw [hd', didS2 e]
      subst hdid
      have hwh := Sd.wh2 e
      have hho := hI.h (by omega) (by omega)
      have hto := hI.t (by omega) (by omega)
      by_cases hin : 0 ≤ s.wh ∧ s.wh < n
      · obtain ⟨i, hi⟩ : ∃ i : Nat, s.wh = i := ⟨s.wh.toNat, by omega⟩
        have hin' : i < n := by omega
        refine (st_s2 s.at' ti hd tl ln s.pl s.sz n _ c1 c10 cp A1 A10 U tx A11 n11 c11 false s.L f w hW.ar hc hW.sz hI.bh hI.bt hI.S hk hW.few hm hU hf h0 hn i (by rw [hto, ← hwh]; exact hi) hin').mono ?_
        rintro e2 w' ⟨U', c', rfl, hU', hB, hl⟩
        rw [hcur] at hU'
        refine ⟨_, U', c', rfl, ?_, by rw [Sd.step_yes hi hin' hp5, Sd.go2 e]; rfl, by rw [Sd.word_yes hi hin' hp5, Sd.puts2 e]; exact hU', hB, rfl, .inl rfl, .inl rfl, hl⟩
        rw [Sd.step_yes hi hin' hp5, Sd.go2 e]
        have hpa0 : s.pa = 0 := (hW.pa hp5).1 (by omega)
        exact ⟨ti, A1, c1, 3, hd, tl, ln, tx, A10, c10, A11, n11, c11, false, rfl, (hI.S.keep hB).up hB.size, hI.V.keep hB, hI.nil, hI.bh, hI.bt, fun _ _ => hho, fun _ _ => hto, fun _ => by show (3 : Int) = 3 + (s.pa : Nat); omega, fun (h : 3 = 5) => by omega⟩
      · refine (st_sm2 s.at' ti hd tl ln s.pl s.sz n _ c1 c10 cp A1 A10 U tx A11 n11 c11 false s.L f w hW.ar hc hW.sz hI.bh hI.bt hI.S hk hW.few hm hU hf h0 hn (by rw [hto, ← hwh]; exact hin)).mono fun e2 w' h => miss e2 w' hin h
    · have hdid : did = 3 + (s.pa : Nat) := by rw [hd', didS3 e]
      have hwh := Sd.wh3 e
      have hho := hI.h (by omega) (by omega)
      have hto := hI.t (by omega) (by omega)
      have hpa := (hW.pa hp5).2 e
      by_cases hin : 0 ≤ s.wh ∧ s.wh < n
      · obtain ⟨i, hi⟩ : ∃ i : Nat, s.wh = i := ⟨s.wh.toNat, by omega⟩
        have hin' : i < n := by omega
        refine (st_s3 s.at' ti hd tl ln s.pl s.sz n _ c1 c10 cp A1 A10 U tx A11 n11 c11 false s.L f w hW.ar hc hW.sz hI.bh hI.bt hI.S hk hW.few hm hU hf h0 hn did s.pa i hdid (by rw [hcur]; exact hpa) (by rw [hto, ← hwh]; exact hi) hin').mono ?_
        rintro e2 w' ⟨U', c', rfl, hU', hB, hl⟩
        rw [hcur] at hU'
        by_cases hlt : s.pa + 1 < need s.cur.size
        · have hst : s.step n f = { s with pa := s.pa + 1 } := by rw [Sd.step_yes hi hin' hp5, Sd.go3 e, if_pos hlt]
          refine ⟨_, U', c', rfl, ?_, by rw [hst]; show false = decide (5 ≤ s.ph); rw [e]; rfl, by rw [Sd.word_yes hi hin' hp5, Sd.puts3 e]; exact hU', hB, rfl, .inl rfl, .inl rfl, hl⟩
          rw [hst]
          exact ⟨ti, A1, c1, did + 1, hd, tl, ln, tx, A10, c10, A11, n11, c11, false, rfl, (hI.S.keep hB).up hB.size, hI.V.keep hB, hI.nil, hI.bh, hI.bt, fun _ _ => hho, fun _ _ => hto, fun _ => by rw [didS3 (s := { s with pa := s.pa + 1 }) e]; show did + 1 = 3 + ((s.pa + 1 : Nat) : Int); omega, fun (h : s.ph = 5) => by omega⟩
        · have hst : s.step n f = { s with pa := 0, ph := 4 } := by rw [Sd.step_yes hi hin' hp5, Sd.go3 e, if_neg hlt]
          refine ⟨_, U', c', rfl, ?_, by rw [hst]; rfl, by rw [Sd.word_yes hi hin' hp5, Sd.puts3 e]; exact hU', hB, rfl, .inl rfl, .inl rfl, hl⟩
          rw [hst]
          exact ⟨ti, A1, c1, did + 1, hd, tl, ln, tx, A10, c10, A11, n11, c11, false, rfl, (hI.S.keep hB).up hB.size, hI.V.keep hB, hI.nil, hI.bh, hI.bt, fun _ _ => hho, fun _ _ => hto, fun _ => by show did + 1 = 3 + (need s.cur.size : Nat); omega, fun (h : 4 = 5) => by omega⟩
      · refine (st_sm3 s.at' ti hd tl ln s.pl s.sz n _ c1 c10 cp A1 A10 U tx A11 n11 c11 false s.L f w hW.ar hc hW.sz hI.bh hI.bt hI.S hk hW.few hm hU hf h0 hn did s.wh s.pa hdid (by rw [hcur]; exact hpa) (by rw [hto]; exact hwh.symm) hin).mono fun e2 w' h => miss e2 w' hin h
    · have hdid : did = 3 + (need s.cur.size : Nat) := by rw [hd', didS4 e]
      have hwh := Sd.wh4 e
      have hho := hI.h (by omega) (by omega)
      have hto := hI.t (by omega) (by omega)
      by_cases hin : 0 ≤ s.wh ∧ s.wh < n
      · obtain ⟨i, hi⟩ : ∃ i : Nat, s.wh = i := ⟨s.wh.toNat, by omega⟩
        have hin' : i < n := by omega
        refine (st_s4 s.at' ti hd tl ln s.pl s.sz n c1 c10 cp _ A1 A10 U tx A11 n11 c11 false s.L f w hW.ar hc hW.sz hI.bh hI.bt hI.S hk hW.few hm hU hf h0 hn did i hI.V hI.nil (oneCell_bools _) (by rw [hcur]; exact hdid) (by rw [hcur]; exact hcz.1) (by omega) hin').mono ?_
        rintro e2 w' ⟨U', c', g, c, rfl, hU', hV', hB, hg, hl⟩
        have hst : s.step n f = s.close true := by rw [Sd.step_yes hi hin' hp5, Sd.go4 e]
        refine ⟨_, U', c', rfl, ?_, ?_, by rw [Sd.word_yes hi hin' hp5, Sd.puts4 e, ← hto]; exact hU', hB, rfl, .inr ⟨g, _, _, rfl, hg, vals_lt hV'⟩, .inl rfl, hl⟩
        · rw [hst]
          have ef : (s.sent ++ [true]).map Value.bool = s.sent.map Value.bool ++ [Value.bool true] := by simp
          have hph : (s.close true).ph = 5 ∨ (s.close true).ph = 0 := by
            show (if s.sent.length + 1 = s.L.length then 5 else 0) = 5 ∨ (if s.sent.length + 1 = s.L.length then 5 else 0) = 0
            split
            · exact .inl rfl
            · exact .inr rfl
          refine ⟨ti, A1, c1, 0, hd, tl, ln, tx, some ⟨g, 0, none⟩, c, A11, n11, c11, _, by show _ = DS.mk _ _ _ _ _ _ _ _ _ _ (.slice _ ((s.sent ++ [true]).map Value.bool).length _) _ _; rw [ef]; rfl, (hI.S.keep hB).up hB.size, by show Vals _ _ ((s.sent ++ [true]).map Value.bool); rw [ef]; exact hV', (fun h => by cases h), hI.bh, hI.bt, fun h1 h2 => by omega, fun h1 h2 => by omega, fun h => ?_, fun h ho => ?_⟩
          · rcases hph with e3 | e3
            · omega
            · rw [didS0 e3]
          · rw [close_ov s true, h] at ho
            cases ho
        · rw [hst]; exact close_ov s true
      · refine (st_sm4 s.at' ti hd tl ln s.pl s.sz n _ c1 c10 cp A1 A10 U tx A11 n11 c11 false s.L f w hW.ar hc hW.sz hI.bh hI.bt hI.S hk hW.few hm hU hf h0 hn did s.wh (by rw [hcur]; exact hdid) (by rw [hcur]; exact hcz.1) hwh.symm hin).mono fun e2 w' h => miss e2 w' hin h
end Go.Proofs.YtnmobalgghggnaaDoor
/-
  The bytes of words, one behind the other.
-/
namespace Go.Proofs.YtnmobalgghggnaaDoor

/-- The bytes of the first so many words behind the length. -/
def textK (ld : Nat → Int) : Nat → ByteArray
  | 0 => ⟨#[]⟩
  | k + 1 => textK ld k ++ bytesOf (ld (1 + k))
theorem textK_congr {ld ld' : Nat → Int} : ∀ k, (∀ j, j < k → ld' (1 + j) = ld (1 + j)) → textK ld' k = textK ld k
  | 0, _ => rfl
  | k + 1, h => by
    simp only [textK]
    rw [textK_congr k fun j hj => h j (by omega), h k (by omega)]
theorem byteAt_four (ld : Nat → Int) (k j : Nat) (hj : j < 4) : byteAt ld (4 * k + j) = ld (1 + k) / (2 ^ (24 - 8 * j) : Nat) % 256 := by
  unfold byteAt
  rw [show (4 * k + j) / 4 = k by omega, show (4 * k + j) % 4 = j by omega]
theorem textK_list (ld : Nat → Int) (hr : ∀ i, 0 ≤ ld i ∧ ld i < 4294967296) : ∀ k, (textK ld k).data.toList = (List.range (4 * k)).map fun i => UInt8.ofNat (byteAt ld i).toNat
  | 0 => rfl
  | k + 1 => by
    have e : List.range (4 * (k + 1)) = List.range (4 * k) ++ [4 * k + 0, 4 * k + 1, 4 * k + 2, 4 * k + 3] := by
      rw [show 4 * (k + 1) = 4 * k + 1 + 1 + 1 + 1 by omega, List.range_succ, List.range_succ, List.range_succ, List.range_succ]
      simp
    have h := hr (1 + k)
    simp only [textK]
    rw [ByteArray.data_append, Array.toList_append, textK_list ld hr k, e, List.map_append]
    congr 1
    simp only [List.map_cons, List.map_nil]
    rw [byteAt_four ld k 0 (by omega), byteAt_four ld k 1 (by omega), byteAt_four ld k 2 (by omega), byteAt_four ld k 3 (by omega)]
    generalize ld (1 + k) = x at *
    show [UInt8.ofNat (x / 16777216).toNat, UInt8.ofNat (x / 65536 % 256).toNat, UInt8.ofNat (x / 256 % 256).toNat, UInt8.ofNat (x % 256).toNat] = [UInt8.ofNat (x / 16777216 % 256).toNat, UInt8.ofNat (x / 65536 % 256).toNat, UInt8.ofNat (x / 256 % 256).toNat, UInt8.ofNat (x / 1 % 256).toNat]
    rw [show x / 16777216 % 256 = x / 16777216 by omega, show x / 1 = x by omega]
theorem textK_size (ld : Nat → Int) (hr : ∀ i, 0 ≤ ld i ∧ ld i < 4294967296) (k : Nat) : (textK ld k).size = 4 * k := by
  have := congrArg List.length (textK_list ld hr k)
  rw [Array.length_toList, List.length_map, List.length_range] at this
  exact this
theorem textK_text (ld : Nat → Int) (hr : ∀ i, 0 ≤ ld i ∧ ld i < 4294967296) (l : Nat) (hl : ld 0 = l) : (textK ld (need l)).extract 0 l = textOf ld := by
  apply ByteArray.ext
  apply Array.toList_inj.1
  have hn : l ≤ 4 * need l := by unfold need; omega
  have e1 : (textOf ld).data.toList = (List.range l).map fun i => UInt8.ofNat (byteAt ld i).toNat := by
    unfold textOf
    rw [hl, Int.toNat_natCast]
  rw [e1, ByteArray.data_extract, Array.toList_extract, textK_list ld hr]
  simp [List.take_range, Nat.min_eq_left hn, ← List.map_take]
end Go.Proofs.YtnmobalgghggnaaDoor
/-
  The document's receiver beside the code's: Step.
-/
namespace Go.Proofs.YtnmobalgghggnaaDoor
open Go.RowKit

/-- The last step of a receiver, as it is to be shown. -/
def R4Said : Prop := ∀ (at' ti hd tl : Int) (pl s n l c11 cp : Nat) (xs : List Value) (A11 U : Option Addr) (tx : ByteArray) (ov : Bool) (f : Nat → Int) (w : World), (-1000 ≤ at' ∧ at' ≤ 1000) → capP (pl : Int) = true → (1 ≤ s ∧ s ≤ 32) → (0 ≤ hd ∧ hd < 4294967296) → (0 ≤ tl ∧ tl < 4294967296) →
    l ≤ 32 → (xs.length : Int) < ti → Ws w U n f → (∀ i, i < n → 0 ≤ f i ∧ f i < 4294967296) → 0 < n → n ≤ 4096 → ∀ (dd : Int) (i : Nat), Vals w A11 xs → (A11 = none → c11 = 0) → (∀ u ∈ xs, u.oneCell' = true) → ti ≤ 1000 → dd = 3 + (need l : Nat) → 1 ≤ l → l ≤ tx.size → tx.size ≤ 1000 → at' = i → i < n →
    Calls Tryd.prog 18 #[DS.V ⟨at', pl, s, .slice none 0 0, ti, dd, hd, tl, (l : Nat), tx, .slice none 0 0, .slice A11 xs.length c11, ov⟩, .bool false, .slice U n cp] w fun e w' => DGoT U (fun v => ⟨at', pl, s, .slice none 0 0, ti, 0, hd, tl, (l : Nat), tx, .slice none 0 0, v, ((xs.length + 1 : Nat) : Int) == ti⟩) (xs ++ [.string (tx.extract 0 l)]) n (upd f i (inc hd)) w e w'
/-- How many loads and stores of a try are done. -/
def didR (r : Rv) : Int := match r.ph with
  | 0 => 0
  | 1 => 1
  | 2 => 2
  | 3 => 3 + (r.pa : Nat)
  | _ => 3 + (need (r.ld 0).toNat : Nat)
theorem didR0 {r : Rv} (h : r.ph = 0) : didR r = 0 := by cases r; cases h; rfl
theorem didR1 {r : Rv} (h : r.ph = 1) : didR r = 1 := by cases r; cases h; rfl
theorem didR2 {r : Rv} (h : r.ph = 2) : didR r = 2 := by cases r; cases h; rfl
theorem didR3 {r : Rv} (h : r.ph = 3) : didR r = 3 + (r.pa : Nat) := by cases r; cases h; rfl
theorem didR4 {r : Rv} (h : r.ph = 4) : didR r = 3 + (need (r.ld 0).toNat : Nat) := by cases r; cases h; rfl
structure RvIn (w : World) (r : Rv) (A11 : Option Addr) (c11 : Nat) (did hd tl : Int) (l : Nat) (tx : ByteArray) (ov : Bool) : Prop where
  V : Vals w A11 (r.got.map Value.string)
  nil : A11 = none → c11 = 0
  bh : 0 ≤ hd ∧ hd < 4294967296
  bt : 0 ≤ tl ∧ tl < 4294967296
  h : 2 ≤ r.ph → r.ph ≤ 4 → hd = r.own
  t : 1 ≤ r.ph → r.ph ≤ 4 → tl = r.oth
  d : r.ph < 5 → did = didR r
  o : r.ph = 5 → ov = false → r.got.length = r.times
  l32 : l ≤ 32
  ln : 3 ≤ r.ph → r.ph ≤ 4 → r.ld 0 = (l : Nat)
  x2 : r.ph = 2 → tx = ⟨#[]⟩
  x3 : 3 ≤ r.ph → r.ph ≤ 4 → tx = textK r.ld (if r.ph = 3 then r.pa else need (r.ld 0).toNat)
/-- A Side that says what a receiver is. -/
def RvSim (w : World) (r : Rv) (D : DS) : Prop := ∃ (did hd tl : Int) (l : Nat) (tx : ByteArray) (A11 : Option Addr) (c11 : Nat) (ov : Bool),
  D = ⟨r.at', r.pl, r.sz, .slice none 0 0, r.times, did, hd, tl, (l : Nat), tx, .slice none 0 0, .slice A11 (r.got.map Value.string).length c11, ov⟩ ∧ RvIn w r A11 c11 did hd tl l tx ov
/-- What Step leaves of a receiver. -/
def DocR (n : Nat) (f : Nat → Int) (r : Rv) (D : DS) (U : Option Addr) (w : World) (e : Ending) (w' : World) : Prop := ∃ D' U' c', e = .returned (.tuple #[D'.V, .slice U' n c']) ∧ RvSim w' (r.step n f) D' ∧ D'.ov = decide (5 ≤ (r.step n f).ph) ∧ Ws w' U' n (r.word n f) ∧ Below w.heap.size w w' ∧ Loc w w' D D' U U'
theorem oneCell_strs (l : List ByteArray) : ∀ u ∈ l.map Value.string, u.oneCell' = true := fun u hu => by
  obtain ⟨b, _, rfl⟩ := List.mem_map.1 hu
  rfl
theorem close_ovr (r : Rv) (m : ByteArray) : ((((r.got.map Value.string).length + 1 : Nat) : Int) == (r.times : Nat)) = decide (5 ≤ (r.close m).ph) := by
  have e : (r.close m).ph = if r.got.length + 1 = r.times then 5 else 0 := rfl
  rw [e, List.length_map]
  by_cases h : r.got.length + 1 = r.times
  · rw [if_pos h, h, beq_self_eq_true]; rfl
  · rw [if_neg h, beq_eq_false_iff_ne.2 (by omega)]; rfl
theorem close_phr (r : Rv) (m : ByteArray) : (r.close m).ph = 5 ∨ (r.close m).ph = 0 := by
  show (if r.got.length + 1 = r.times then 5 else 0) = 5 ∨ (if r.got.length + 1 = r.times then 5 else 0) = 0
  split
  · exact .inl rfl
  · exact .inr rfl
set_option maxHeartbeats 2000000 in
set_option maxRecDepth 100000 in
theorem doc_r (h4 : R4Said) (r : Rv) (D : DS) (U : Option Addr) (n cp : Nat) (f : Nat → Int) (w : World) (hD : RvSim w r D) (hov : D.ov = false) (hW : r.Wf) (hU : Ws w U n f) (hf : U32 n f) (h0 : 0 < n) (hn : n ≤ 4096) :
    Calls Tryd.prog 18 #[D.V, .bool false, .slice U n cp] w fun e w' => DocR n f r D U w e w' := by
  obtain ⟨did, hd, tl, l, tx, A11, c11, ov, rfl, hI⟩ := hD
  have hov : ov = false := hov
  subst hov
  by_cases h5 : r.ph = 5
  · have hl := hI.o h5 rfl
    have e1 : r.step n f = r := by unfold Rv.step; rw [if_pos (by omega)]
    have e2 : r.word n f = f := by unfold Rv.word; rw [if_pos (by omega)]
    have hl2 : r.times = (r.got.map Value.string).length := by rw [List.length_map]; exact hl.symm
    refine Calls.mono (by rw [hl2]; exact st_r5 r.at' did hd tl (l : Nat) r.pl r.sz n _ c11 cp A11 U tx false f w hU) ?_
    rintro e w' ⟨U', c', rfl, hU', hB, hl⟩
    refine ⟨_, U', c', rfl, ?_, ?_, by rw [e2]; exact hU', hB, rfl, .inl rfl, .inl rfl, hl⟩
    · rw [e1]
      exact ⟨did, hd, tl, l, tx, A11, c11, true, by rw [← hl2], hI.V.keep hB, hI.nil, hI.bh, hI.bt, hI.h, hI.t, hI.d, (fun _ h => by cases h), hI.l32, hI.ln, hI.x2, hI.x3⟩
    · rw [e1, h5]; rfl
  · have hp5 : r.ph < 5 := by have := hW.ph; omega
    have hk : ((r.got.map Value.string).length : Int) < (r.times : Nat) := by rw [List.length_map]; have := hW.more hp5; omega
    have hti : ((r.times : Nat) : Int) ≤ 1000 := by have := hW.few; omega
    have hc := capP_of hW.pl
    have hd' := hI.d hp5
    have miss : ∀ (e : Ending) (w' : World), ¬ (0 ≤ r.wh ∧ r.wh < n) → DGoL U ⟨r.at', r.pl, r.sz, .slice none 0 0, r.times, did, hd, tl, (l : Nat), tx, .slice none 0 0, .slice A11 (r.got.map Value.string).length c11, true⟩ n f w e w' → DocR n f r ⟨r.at', r.pl, r.sz, .slice none 0 0, r.times, did, hd, tl, (l : Nat), tx, .slice none 0 0, .slice A11 (r.got.map Value.string).length c11, false⟩ U w e w' := fun e w' hno ⟨U', c', he, hU', hB, hl⟩ => by
      refine ⟨_, U', c', he, ?_, ?_, by rw [Rv.word_no hno hp5]; exact hU', hB, rfl, .inl rfl, .inl rfl, hl⟩
      · rw [Rv.step_no hno hp5]
        exact ⟨did, hd, tl, l, tx, A11, c11, true, rfl, hI.V.keep hB, hI.nil, hI.bh, hI.bt, fun _ (h : 5 ≤ 4) => by omega, fun _ (h : 5 ≤ 4) => by omega, fun (h : 5 < 5) => by omega, (fun _ h => by cases h), hI.l32, fun _ (h : 5 ≤ 4) => by omega, fun (h : 5 = 2) => by omega, fun _ (h : 5 ≤ 4) => by omega⟩
      · rw [Rv.step_no hno hp5]; rfl
    have h6 : r.ph = 0 ∨ r.ph = 1 ∨ r.ph = 2 ∨ r.ph = 3 ∨ r.ph = 4 := by omega
    rcases h6 with e | e | e | e | e
    · have hdid : did = 0 := by rw [hd', didR0 e]
      subst hdid
      have hwh := Rv.wh0 e
      by_cases hin : 0 ≤ r.wh ∧ r.wh < n
      · obtain ⟨i, hi⟩ : ∃ i : Nat, r.wh = i := ⟨r.wh.toNat, by omega⟩
        have hin' : i < n := by omega
        refine (st_r0 r.at' r.times hd tl r.pl r.sz n l _ c11 cp A11 U tx false f w hW.ar hc hW.sz hI.bh hI.bt hI.l32 hk hU hf h0 hn i (by omega) hin').mono ?_
        rintro e2 w' ⟨U', c', rfl, hU', hB, hl⟩
        refine ⟨_, U', c', rfl, ?_, ?_, by rw [Rv.word_same (by omega)]; exact hU', hB, rfl, .inl rfl, .inl rfl, hl⟩
        · rw [Rv.step_yes hi hin' hp5, Rv.go0 e]
          exact ⟨1, hd, f i, 0, ⟨#[]⟩, A11, c11, false, rfl, hI.V.keep hB, hI.nil, hI.bh, hf i hin', fun (h : 2 ≤ 1) => by omega, fun _ _ => rfl, fun _ => rfl, fun (h : 1 = 5) => by omega, Nat.zero_le _, fun (h : 3 ≤ 1) => by omega, fun (h : 1 = 2) => by omega, fun (h : 3 ≤ 1) => by omega⟩
        · rw [Rv.step_yes hi hin' hp5, Rv.go0 e]; rfl
      · exact (st_rm0 r.at' r.times hd tl r.pl r.sz n l _ c11 cp A11 U tx false f w hW.ar hc hW.sz hI.bh hI.bt hI.l32 hk hU hf h0 hn r.wh hwh.symm hin).mono fun e2 w' h => miss e2 w' hin h
    · have hdid : did = 1 := by rw [hd', didR1 e]
      subst hdid
      have hwh := Rv.wh1 e
      have hto := hI.t (by omega) (by omega)
      by_cases hin : 0 ≤ r.wh ∧ r.wh < n
      · obtain ⟨i, hi⟩ : ∃ i : Nat, r.wh = i := ⟨r.wh.toNat, by omega⟩
        have hin' : i < n := by omega
        by_cases hr : f i = tl
        · refine (st_r1e r.at' r.times hd tl r.pl r.sz n l c11 cp _ A11 U tx false f w hW.ar hc hW.sz hI.bh hI.bt hI.l32 hk hU hf h0 hn i hI.V hI.nil (oneCell_strs _) hti (by omega) hin' hr).mono ?_
          rintro e2 w' ⟨U', c', g, c, rfl, hU', hV', hB, hg, hl⟩
          have hst : r.step n f = ({ r with own := f i } : Rv).close ByteArray.empty := by rw [Rv.step_yes hi hin' hp5, Rv.go1 e, if_pos (by rw [hr]; exact hto)]
          refine ⟨_, U', c', rfl, ?_, ?_, by rw [Rv.word_same (by omega)]; exact hU', hB, rfl, .inl rfl, .inr ⟨g, _, _, rfl, hg, vals_lt hV'⟩, hl⟩
          · rw [hst]
            have ef : (r.got ++ [ByteArray.empty]).map Value.string = r.got.map Value.string ++ [Value.string ⟨#[]⟩] := by rw [List.map_append]; rfl
            have hph := close_phr ({ r with own := f i } : Rv) ByteArray.empty
            refine ⟨0, f i, tl, 0, ⟨#[]⟩, some ⟨g, 0, none⟩, c, _, by show _ = DS.mk _ _ _ _ _ _ _ _ _ _ _ (.slice _ ((r.got ++ [ByteArray.empty]).map Value.string).length _) _; rw [ef]; rfl, by show Vals _ _ ((r.got ++ [ByteArray.empty]).map Value.string); rw [ef]; exact hV', (fun h => by cases h), hf i hin', hI.bt, fun h1 h2 => by omega, fun h1 h2 => by omega, fun h => ?_, fun h ho => ?_, Nat.zero_le _, fun h1 h2 => by omega, fun h => by omega, fun h1 h2 => by omega⟩
            · rcases hph with e3 | e3
              · omega
              · rw [didR0 e3]
            · rw [close_ovr r ByteArray.empty] at ho
              have : (r.close ByteArray.empty).ph = 5 := h
              rw [this] at ho
              cases ho
          · rw [hst]; exact close_ovr r ByteArray.empty
        · refine (st_r1g r.at' r.times hd tl r.pl r.sz n l _ c11 cp A11 U tx false f w hW.ar hc hW.sz hI.bh hI.bt hI.l32 hk hU hf h0 hn i (by omega) hin' hr).mono ?_
          rintro e2 w' ⟨U', c', rfl, hU', hB, hl⟩
          have hst : r.step n f = { r with own := f i, ph := 2 } := by rw [Rv.step_yes hi hin' hp5, Rv.go1 e, if_neg (by rw [← hto]; exact hr)]
          refine ⟨_, U', c', rfl, ?_, by rw [hst]; rfl, by rw [Rv.word_same (by omega)]; exact hU', hB, rfl, .inl rfl, .inl rfl, hl⟩
          rw [hst]
          exact ⟨2, f i, tl, 0, ⟨#[]⟩, A11, c11, false, rfl, hI.V.keep hB, hI.nil, hf i hin', hI.bt, fun _ _ => rfl, fun _ _ => hto, fun _ => rfl, fun (h : 2 = 5) => by omega, Nat.zero_le _, fun (h : 3 ≤ 2) => by omega, fun _ => rfl, fun (h : 3 ≤ 2) => by omega⟩
      · exact (st_rm1 r.at' r.times hd tl r.pl r.sz n l _ c11 cp A11 U tx false f w hW.ar hc hW.sz hI.bh hI.bt hI.l32 hk hU hf h0 hn (by rw [← hwh]; exact hin)).mono fun e2 w' h => miss e2 w' hin h
    · have hdid : did = 2 := by rw [hd', didR2 e]
      subst hdid
      have hwh := Rv.wh2 e
      have hho := hI.h (by omega) (by omega)
      have hto := hI.t (by omega) (by omega)
      have hx2 := hI.x2 e
      by_cases hin : 0 ≤ r.wh ∧ r.wh < n
      · obtain ⟨i, hi⟩ : ∃ i : Nat, r.wh = i := ⟨r.wh.toNat, by omega⟩
        have hin' : i < n := by omega
        refine (st_r2 r.at' r.times hd tl r.pl r.sz n l _ c11 cp A11 U tx false f w hW.ar hc hW.sz hI.bh hI.bt hI.l32 hk hU hf h0 hn i (by rw [hho, ← hwh]; exact hi) hin').mono ?_
        rintro e2 w' ⟨U', c', rfl, hU', hB, hl⟩
        refine ⟨_, U', c', rfl, ?_, by rw [Rv.step_yes hi hin' hp5, Rv.go2 e]; rfl, by rw [Rv.word_same (by omega)]; exact hU', hB, rfl, .inl rfl, .inl rfl, hl⟩
        rw [Rv.step_yes hi hin' hp5, Rv.go2 e]
        have hpa0 : r.pa = 0 := (hW.pa hp5).1 (by omega)
        have hsz := hW.sz
        obtain ⟨l', hl'⟩ : ∃ l' : Nat, min (max (f i) 1) (r.sz : Int) = l' := ⟨(min (max (f i) 1) (r.sz : Int)).toNat, by omega⟩
        refine ⟨3, hd, tl, l', tx, A11, c11, false, by rw [hl'], hI.V.keep hB, hI.nil, hI.bh, hI.bt, fun _ _ => hho, fun _ _ => hto, fun _ => by show (3 : Int) = 3 + (r.pa : Nat); omega, fun (h : 3 = 5) => by omega, by omega, fun _ _ => ?_, fun (h : 3 = 2) => by omega, fun _ _ => ?_⟩
        · show upd r.ld 0 (min (max (f i) 1) (r.sz : Int)) 0 = _
          rw [upd_same, hl']
        · show tx = textK _ (if (3 : Nat) = 3 then r.pa else _)
          rw [if_pos rfl, hpa0, hx2]; rfl
      · exact (st_rm2 r.at' r.times hd tl r.pl r.sz n l _ c11 cp A11 U tx false f w hW.ar hc hW.sz hI.bh hI.bt hI.l32 hk hU hf h0 hn (by rw [hho, ← hwh]; exact hin)).mono fun e2 w' h => miss e2 w' hin h
    · have hdid : did = 3 + (r.pa : Nat) := by rw [hd', didR3 e]
      have hwh := Rv.wh3 e
      have hho := hI.h (by omega) (by omega)
      have hto := hI.t (by omega) (by omega)
      have hln := hI.ln (by omega) (by omega)
      have hpa := (hW.pa hp5).2 e
      rw [hln, Int.toNat_natCast] at hpa
      have hx3 := hI.x3 (by omega) (by omega)
      rw [if_pos e] at hx3
      have hn8 : need l ≤ 8 := need_le hI.l32
      have hts : tx.size ≤ 1000 := by rw [hx3, textK_size _ hW.ld]; omega
      by_cases hin : 0 ≤ r.wh ∧ r.wh < n
      · obtain ⟨i, hi⟩ : ∃ i : Nat, r.wh = i := ⟨r.wh.toNat, by omega⟩
        have hin' : i < n := by omega
        refine (st_r3 r.at' r.times hd tl r.pl r.sz n l _ c11 cp A11 U tx false f w hW.ar hc hW.sz hI.bh hI.bt hI.l32 hk hU hf h0 hn hts did r.pa i hdid hpa (by rw [hho, ← hwh]; exact hi) hin').mono ?_
        rintro e2 w' ⟨U', c', rfl, hU', hB, hl⟩
        have htk : tx ++ bytesOf (f i) = textK (upd r.ld (1 + r.pa) (f i)) (r.pa + 1) := by
          simp only [textK]
          rw [upd_same, hx3, textK_congr (ld := r.ld) (ld' := upd r.ld (1 + r.pa) (f i)) r.pa fun j hj => upd_other (by omega)]
        by_cases hlt : r.pa + 1 < need l
        · have hst : r.step n f = { r with ld := upd r.ld (1 + r.pa) (f i), pa := r.pa + 1 } := by rw [Rv.step_yes hi hin' hp5, Rv.go3 e, hln, Int.toNat_natCast, if_pos hlt]
          refine ⟨_, U', c', rfl, ?_, by rw [hst]; show false = decide (5 ≤ r.ph); rw [e]; rfl, by rw [Rv.word_same (by omega)]; exact hU', hB, rfl, .inl rfl, .inl rfl, hl⟩
          rw [hst]
          refine ⟨did + 1, hd, tl, l, tx ++ bytesOf (f i), A11, c11, false, rfl, hI.V.keep hB, hI.nil, hI.bh, hI.bt, fun _ _ => hho, fun _ _ => hto, fun _ => by rw [didR3 (r := { r with ld := upd r.ld (1 + r.pa) (f i), pa := r.pa + 1 }) e]; show did + 1 = 3 + ((r.pa + 1 : Nat) : Int); omega, fun (h : r.ph = 5) => by omega, hI.l32, fun _ _ => by show upd r.ld (1 + r.pa) (f i) 0 = _; rw [upd_other (by omega)]; exact hln, fun (h : r.ph = 2) => by omega, fun _ _ => ?_⟩
          show tx ++ bytesOf (f i) = textK (upd r.ld (1 + r.pa) (f i)) (if r.ph = 3 then r.pa + 1 else _)
          rw [if_pos e]; exact htk
        · have hst : r.step n f = { r with ld := upd r.ld (1 + r.pa) (f i), pa := 0, ph := 4 } := by rw [Rv.step_yes hi hin' hp5, Rv.go3 e, hln, Int.toNat_natCast, if_neg hlt]
          have hl0 : upd r.ld (1 + r.pa) (f i) 0 = (l : Nat) := by rw [upd_other (by omega)]; exact hln
          refine ⟨_, U', c', rfl, ?_, by rw [hst]; rfl, by rw [Rv.word_same (by omega)]; exact hU', hB, rfl, .inl rfl, .inl rfl, hl⟩
          rw [hst]
          refine ⟨did + 1, hd, tl, l, tx ++ bytesOf (f i), A11, c11, false, rfl, hI.V.keep hB, hI.nil, hI.bh, hI.bt, fun _ _ => hho, fun _ _ => hto, fun _ => ?_, fun (h : 4 = 5) => by omega, hI.l32, fun _ _ => hl0, fun (h : 4 = 2) => by omega, fun _ _ => ?_⟩
          · show did + 1 = 3 + (need (upd r.ld (1 + r.pa) (f i) 0).toNat : Nat)
            rw [hl0, Int.toNat_natCast]; omega
          · show tx ++ bytesOf (f i) = textK (upd r.ld (1 + r.pa) (f i)) (if (4 : Nat) = 3 then _ else need (upd r.ld (1 + r.pa) (f i) 0).toNat)
            rw [if_neg (by omega), hl0, Int.toNat_natCast, htk, show need l = r.pa + 1 by omega]
      · exact (st_rm3 r.at' r.times hd tl r.pl r.sz n l _ c11 cp A11 U tx false f w hW.ar hc hW.sz hI.bh hI.bt hI.l32 hk hU hf h0 hn did r.wh r.pa hdid hpa (by rw [hho]; exact hwh.symm) hin).mono fun e2 w' h => miss e2 w' hin h
    · have hho := hI.h (by omega) (by omega)
      have hto := hI.t (by omega) (by omega)
      have hln := hI.ln (by omega) (by omega)
      have hdid : did = 3 + (need l : Nat) := by rw [hd', didR4 e, hln, Int.toNat_natCast]
      have hwh := Rv.wh4 e
      have hx3 := hI.x3 (by omega) (by omega)
      rw [if_neg (by omega), hln, Int.toNat_natCast] at hx3
      have hl1 : 1 ≤ l := by have := (hW.ld0 (by omega) (by omega)).1; omega
      have hn8 : need l ≤ 8 := need_le hI.l32
      have hts : tx.size = 4 * need l := by rw [hx3, textK_size _ hW.ld]
      have hlt : l ≤ tx.size := by rw [hts]; unfold need; omega
      by_cases hin : 0 ≤ r.wh ∧ r.wh < n
      · obtain ⟨i, hi⟩ : ∃ i : Nat, r.wh = i := ⟨r.wh.toNat, by omega⟩
        have hin' : i < n := by omega
        refine (h4 r.at' r.times hd tl r.pl r.sz n l c11 cp _ A11 U tx false f w hW.ar hc hW.sz hI.bh hI.bt hI.l32 hk hU hf h0 hn did i hI.V hI.nil (oneCell_strs _) hti hdid hl1 hlt (by omega) (by omega) hin').mono ?_
        rintro e2 w' ⟨U', c', g, c, rfl, hU', hV', hB, hg, hl⟩
        have htx : tx.extract 0 l = textOf r.ld := by rw [hx3]; exact textK_text r.ld hW.ld l hln
        rw [htx] at hV'
        have hst : r.step n f = r.close (textOf r.ld) := by rw [Rv.step_yes hi hin' hp5, Rv.go4 e]
        refine ⟨_, U', c', rfl, ?_, ?_, by rw [Rv.word_yes hi hin' hp5, Rv.puts4 e, ← hho]; exact hU', hB, rfl, .inl rfl, .inr ⟨g, _, _, rfl, hg, vals_lt hV'⟩, hl⟩
        · rw [hst]
          have ef : (r.got ++ [textOf r.ld]).map Value.string = r.got.map Value.string ++ [Value.string (textOf r.ld)] := by rw [List.map_append]; rfl
          have ef2 : (r.got.map Value.string ++ [Value.string (tx.extract 0 l)]).length = ((r.got ++ [textOf r.ld]).map Value.string).length := by simp
          have hph := close_phr r (textOf r.ld)
          refine ⟨0, hd, tl, l, tx, some ⟨g, 0, none⟩, c, _, by show _ = DS.mk _ _ _ _ _ _ _ _ _ _ _ (.slice _ ((r.got ++ [textOf r.ld]).map Value.string).length _) _; rw [← ef2]; rfl, by show Vals _ _ ((r.got ++ [textOf r.ld]).map Value.string); rw [ef]; exact hV', (fun h => by cases h), hI.bh, hI.bt, fun h1 h2 => by omega, fun h1 h2 => by omega, fun h => ?_, fun h ho => ?_, hI.l32, fun h1 h2 => by omega, fun h => by omega, fun h1 h2 => by omega⟩
          · rcases hph with e3 | e3
            · omega
            · rw [didR0 e3]
          · rw [close_ovr r (textOf r.ld), h] at ho
            cases ho
        · rw [hst]; exact close_ovr r (textOf r.ld)
      · exact (st_rm4 r.at' r.times hd tl r.pl r.sz n l _ c11 cp A11 U tx false f w hW.ar hc hW.sz hI.bh hI.bt hI.l32 hk hU hf h0 hn did hdid hl1 (by rw [← hwh]; exact hin)).mono fun e2 w' h => miss e2 w' hin h
end Go.Proofs.YtnmobalgghggnaaDoor
/-
  The document's Step beside the code's: both sides.
-/
namespace Go.Proofs.YtnmobalgghggnaaDoor

theorem r4_said : R4Said := fun at' ti hd tl pl s n l c11 cp xs A11 U tx ov f w ha hc hz hhd htl hl hk hU hf h0 hn dd i hV hnil h1c hti hdd hl1 hlt htx hwh hi =>
  st_r4 at' ti hd tl pl s n l c11 cp xs A11 U tx ov f w ha hc hz hhd htl hl hk hU hf h0 hn dd i hV hnil h1c hti hdd hl1 hlt htx hwh hi
end Go.Proofs.YtnmobalgghggnaaDoor
