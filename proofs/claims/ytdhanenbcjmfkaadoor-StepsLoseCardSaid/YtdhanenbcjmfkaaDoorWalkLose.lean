/-
  The walk of StepsLose.
-/
import Derived.Test.YtdhanenbcjmfkaaDoorWalkAdd
namespace Go.Proofs.YtdhanenbcjmfkaaDoor
open Go.RowKit

theorem bmp0 (N : Nat) (T : Nat → Int) : Bmp N (sumN (tm T) N) (sys0 1 T) :=
  ⟨Int.le_refl _, by show (0 : Int) ≤ sumN (tm T) N - sumN (tm T) N; omega, fun _ _ h => (by cases h), fun h => absurd h (Int.lt_irrefl _), fun _ => ⟨by show (0 : Int) = sumN (tm T) N - sumN (tm T) N; omega, fun h => (by cases h)⟩⟩
theorem Bmp.runI {N : Nat} {S : Int} {s : Sy} (hS : S ≤ 150) (h : Own 1 N s) (hT : Bmp N S s) (q : Nat → Int) : ∀ k, Bmp N S (s.runI 1 N q k)
  | 0 => hT
  | k + 1 => Bmp.pickI hS (h.runI q k) (Bmp.runI hS h hT q k) _
/-- What is known of the word behind the picks and the rounds. -/
def LoseOk (n : Nat) (s : Sy) (N : Nat) (S : Int) (q : Nat → Int) : Prop :=
  ∀ k, leftN ((s.runI n N q k).rounds n N 500).l N = 0 ∧ (0 ≤ ((s.runI n N q k).rounds n N 500).f 0 ∧ ((s.runI n N q k).rounds n N 500).f 0 ≤ S) ∧ (0 < S → 1 ≤ ((s.runI n N q k).rounds n N 500).f 0) ∧ (N = 1 → ((s.runI n N q k).rounds n N 500).f 0 = S)
theorem rest_upI {K N : Nat} {s : Sy} (h : Own K N s) (q : Nat → Int) : ∀ k, (s.runI 1 N q k).rest N ≤ s.rest N
  | 0 => Int.le_refl _
  | k + 1 => by
    have h1 := rest_upI h q k
    show ((s.runI 1 N q k).pickI 1 N (q k)).rest N ≤ _
    unfold Sy.pickI isT
    split
    · rename_i hh
      simp at hh
      rw [rest_pick (h.runI q k) (by omega)]
      split <;> omega
    · exact h1
theorem loseOk (N : Nat) (hN : N ≤ 6) (T q : Nat → Int) : LoseOk 1 (sys0 1 T) N (sumN (tm T) N) q := fun k => by
  have hS := sum_rng T N
  have hO := (own0 1 N T).runI q k
  have hB := Bmp.runI (by omega) (own0 1 N T) (bmp0 N T) q k
  have hr : ((sys0 1 T).runI 1 N q k).rest N ≤ 150 := by
    have h := rest_upI (own0 1 N T) q k
    have e : (sys0 1 T).rest N = sumN (tm T) N := rfl
    omega
  have hz := all_done hO hr
  have hO2 := hO.rounds 500
  have hB2 := Bmp.rounds (by omega) hO hB 500
  have hrest := rest_done hO2 hz
  refine ⟨hz, ⟨hB2.lo, ?_⟩, fun h => ?_, fun h => ?_⟩
  · have := hB2.hi; omega
  · exact hB2.one (by omega)
  · have := (hB2.lone h).1; omega
/-- The relation of the second loop: picks alone. -/
def PickRel1 (m : Mc) (s : Sy) (c : Int) (q : Nat → Int) (L : Nat) (w : World) (i : Value) (wr : World) : Prop :=
  ∃ k : Nat, k ≤ L ∧ k ≤ 200 ∧ i = .int .i64 k ∧ StepS m (s.runI m.n m.N q k) c k w wr
theorem loseNext {m : Mc} {s : Sy} {c c1 c2 : Int} {q : Nat → Int} {k L : Nat} {w wr w1 : World} (hk : k < L) (hk2 : k < 200) (h1 : c ≤ c1 ∧ c1 ≤ c + k) (hC : Chg m.own w wr) (h2 : c1 ≤ c2 ∧ c2 ≤ c1 + 1)
    (hS : Sys w1 m ((s.runI m.n m.N q k).pickI m.n m.N (q k)) c2) (hC1 : Chg m.own wr w1) : PickRel1 m s c q L w (.int .i64 ((k : Int) + 1)) w1 :=
  ⟨k + 1, by omega, by omega, by go_num, c2, by omega, by omega, hS, hC.trans hC1⟩
set_option maxHeartbeats 8000000 in
set_option maxRecDepth 100000 in
theorem walk_lose (A P : Option Addr) (n ca L cp : Nat) (T q : Nat → Int) (w : World) (hG : GOk w) (hA : ArgN .u8 w.heap.size w A n T) (hT : ∀ i, i < n → 0 ≤ T i ∧ T i < 256) (hP : ArgN .i64 w.heap.size w P L q) (hn : n ≤ 1000000000000000) (_ : L ≤ 1000000000000000) :
    Calls Tryd.prog 6 #[.slice A n ca, .slice P L cp] w fun e w' => e = .returned (.bool true) ∧ Below w.heap.size w w' := by
  have HG := Lib.hid hG
  have HA := Lib.hid hA
  have HT := Lib.hid hT
  have HP := Lib.hid hP
  clear hG hA hT hP
  by_cases h6 : 6 < n
  · go_enter Tryd.func6, Tryd.ntmps6
    go_wp2_with fail
    with_reducible refine (new_one 1 (by omega) (by omega) 1 rfl _).mono ?_
    rintro e w1 ⟨g1, b1, rfl, hM1, hg1, hb1, hB1⟩
    have HB1 := Lib.hid hB1
    clear hM1 hg1 hb1 hB1
    go_wp2_with fail
    with_reducible refine (awake_any _ (HG.out.keep HB1.out)).mono ?_
    rintro e w2 ⟨rfl, hB2⟩
    have HB2 := Lib.hid (below_two HB1.out hB2)
    clear hB2
    go_wp2_with fail
    with_reducible refine (awake_any _ (HG.out.keep HB2.out)).mono ?_
    rintro e w3 ⟨rfl, hB3⟩
    have HB3 := Lib.hid (below_two HB2.out hB3)
    clear hB3
    go_wp2_with fail
    go_ret
    exact ⟨rfl, HB3.out⟩
  · have h6' : n ≤ 6 := by omega
    have h6i : ¬ ((6 : Int) < (n : Int)) := by omega
    clear h6
    go_enter Tryd.func6, Tryd.ntmps6
    go_wp2_with fail
    with_reducible refine (new_one 1 (by omega) (by omega) 1 rfl _).mono ?_
    rintro e w1 ⟨g1, b1, rfl, hM1, hg1, hb1, hB1⟩
    have HBa := Lib.hid (base_new HG.out hM1 hg1 hb1 hB1)
    clear hM1 hg1 hb1 hB1
    go_wp2_with fail
    with_reducible refine (awake_any _ HBa.out.gok).mono ?_
    rintro e w2 ⟨rfl, hB2⟩
    have HBb := Lib.hid (HBa.out.keep hB2)
    clear hB2
    go_wp2_with fail
    go_loopw [7, 8, 9] (fun ts su i wr => AddRel 1 T n w2 ts su i wr) (fun _ _ i _ => n - (intOf i).toNat)
    case atStart => exact ⟨0, _, _, fun _ => 0, Nat.zero_le _, rfl, rfl, rfl, tks_nil _ _ _ _⟩
    case round =>
      obtain ⟨k, g, cap, B, hk, rfl, rfl, rfl, hTk⟩ := hrel
      have HTk := Lib.hid hTk
      clear hTk
      by_cases hlt : k < n
      · obtain ⟨b, o, rfl⟩ := HA.out.head hlt
        have hcell := (HA.out.keep (HBb.out.bel.trans (HTk.out.bel.mono HBb.out.bel.size))).cell hlt
        obtain ⟨ht0, ht1⟩ := HT.out k hlt
        have hs := sum_rng T k
        have htm := tm_rng T k
        have HS1 : Hid (sumN (tm T) (k + 1) = sumN (tm T) k + tm T k) := Lib.hid rfl
        obtain ⟨hs0, hs1⟩ := hs
        obtain ⟨ht2, ht3⟩ := htm
        obtain ⟨x, hx⟩ : ∃ x, x = sumN (tm T) k := ⟨_, rfl⟩
        rw [← hx] at hs0 hs1 HS1 ⊢
        obtain ⟨y, hy⟩ : ∃ y, y = T k := ⟨_, rfl⟩
        have HY : Hid (tm T k = y % 12) := Lib.hid (by rw [hy]; rfl)
        rw [← hy] at hcell ht0 ht1
        rw [HY.out] at ht2 ht3 HS1
        clear hx hy
        go_wp2_with fail
        with_reducible refine (bumps_new 0 _ _ (by omega)).mono ?_
        rintro e w3 ⟨rfl, hT3, hB3, hz3⟩
        have HT3 := Lib.hid hT3
        have HB3 := Lib.hid hB3
        clear hT3 hB3 hz3
        go_wp2_with (at_builtin; refine wpList_append_task rfl _ _ rfl HTk.out HB3.out (Nat.le_refl _) (by show TaskAt _ _ (tk0 1 0 (tm T k)); rw [HY.out]; exact HT3.out) rfl (by omega) (by rfl) (by rfl) ?_)
        intro g' cap' w4 hT4 _
        have HT4 := Lib.hid hT4
        clear hT4
        go_wp2_with fail
        go_roundw
        case rel => exact ⟨k + 1, g', cap', _, by omega, by go_num, by rw [HS1.out], rfl, HT4.out⟩
        case measure => simp [intOf]; omega
      · obtain rfl : k = n := by omega
        have hs := sum_rng T k
        obtain ⟨hs0, hs1⟩ := hs
        have HS : Hid (LoseOk 1 (sys0 1 T) k (sumN (tm T) k) q) := Lib.hid (loseOk k (by omega) T q)
        obtain ⟨S, hSS⟩ : ∃ S, S = sumN (tm T) k := ⟨_, rfl⟩
        rw [← hSS] at hs0 hs1 HS ⊢
        clear hSS HA HT
        go_wp2_with fail
        with_reducible refine (new_mach g1 _ k cap _ _ HTk.out.vals (fun _ _ => rfl) (by omega)).mono ?_
        rintro e w3 hNM
        obtain ⟨m, rfl, rfl, hn1, hN1, hS, hBS, hO, _⟩ := HTk.out.sys (HBb.out.mem.keep HTk.out.bel) ⟨HBb.out.mem.ltg, HBb.out.mem.row.lt⟩ (by omega) (by omega) (HBb.out.gok.keep HTk.out.bel) HBb.out.g6 (fun _ _ => rfl) hNM
        have HM := Lib.hid (machOk hn1 hN1 (HBb.out.bel.trans (HTk.out.bel.mono HBb.out.bel.size)) hBS hO HBb.out.gW HBb.out.bel.size)
        have HAr2 := Lib.hid (HP.out.keep HM.out.bel)
        have HSM : Hid (LoseOk m.n (sys0 1 T) m.N S q) := Lib.hid (by rw [HM.out.n1, HM.out.N1]; exact HS.out)
        have HS3 : Hid (Sys w3 m (sys0 1 T) 0) := Lib.hid hS
        clear hNM hn1 hN1 hS hBS hO HTk
        go_wp2_with fail
        go_loopw [12] (fun i wr => PickRel1 m (sys0 1 T) 0 q L w3 i wr) (fun i _ => 200 - (intOf i).toNat)
        case atStart => exact ⟨0, Nat.zero_le _, by omega, rfl, StepS.refl HS3.out (by omega)⟩
        case round =>
          obtain ⟨k2, hk1, hk2, rfl, hSt⟩ := hrel
          obtain ⟨c1, q1, q2, q3, q4⟩ := hSt
          have HC1 := Lib.hid (And.intro q1 q2)
          have HQ3 := Lib.hid q3
          have HQ4 := Lib.hid q4
          clear q1 q2 q3 q4
          by_cases hlt : k2 < L
          · by_cases hlt2 : k2 < 200
            · obtain ⟨b, o, rfl⟩ := HAr2.out.head hlt
              have hcell := (HAr2.out.keep (HQ4.out.below HM.out.own HM.out.bel.size)).cell hlt
              have HPk := pick_any m _ c1 (q k2) wr HQ3.out (by have := HC1.out; omega)
              obtain ⟨d, hd⟩ : ∃ d, d = ((sys0 1 T).runI m.n m.N q k2).err m.N (q k2) := ⟨_, rfl⟩
              obtain ⟨y, hy⟩ : ∃ y, y = q k2 := ⟨_, rfl⟩
              rw [← hd, ← hy] at HPk
              rw [← hy] at hcell
              have HY := Lib.hid hy
              have HPk := Lib.hid HPk
              clear hd hy
              go_wp2_with fail
              with_reducible refine HPk.out.mono ?_
              rintro e w4 ⟨rfl, c2, q1, q2, q3, q4⟩
              have HC2 := Lib.hid (And.intro q1 q2)
              have HR3 := Lib.hid q3
              have HR4 := Lib.hid q4
              clear q1 q2 q3 q4 hcell
              go_wp2_with fail
              go_roundw
              case rel => exact loseNext hlt hlt2 HC1.out HQ4.out HC2.out (by rw [HY.out] at HR3; exact HR3.out) HR4.out
              case measure => simp [intOf]; omega
            · have hk200 : ¬ (k2 : Int) < 200 := by omega
              go_wp2_with fail
              with_reducible refine (round_at m _ c1 500 500 rfl wr HQ3.out (by omega) (by have := HM.out.N1; omega) (by have := HC1.out; omega) (by have := HC1.out; omega)).mono ?_
              rintro e w4 ⟨rfl, c2, q1, q2, q3, q4⟩
              have HC2 := Lib.hid (And.intro q1 q2)
              have HR3 := Lib.hid q3
              have HR4 := Lib.hid q4
              clear q1 q2 q3 q4
              have hc2 : 0 ≤ c2 ∧ c2 ≤ 1000000 := by
                have := HC1.out; have := HC2.out
                have hN := HM.out.N1
                rw [hN] at this
                omega
              have hld := load_at m _ c2 0 0 rfl w4 HR3.out (by rw [HM.out.n1]; omega) hc2
              have HC5 := Lib.hid hc2
              obtain ⟨z1, ⟨z2, z3⟩, z4, z5⟩ := HSM.out k2
              have z5 : k = 1 → _ := fun h => z5 (HM.out.N1.trans h)
              have HZ1 := Lib.hid z1
              obtain ⟨v, hv⟩ : ∃ v, v = (((sys0 1 T).runI m.n m.N q k2).rounds m.n m.N 500).f 0 := ⟨_, rfl⟩
              rw [← hv] at hld z2 z3 z4 z5
              have HZ4 := Lib.hid z4
              have HZ5 := Lib.hid z5
              have HLd := Lib.hid hld
              clear hld hc2 z1 z4 z5 hv
              go_wp2_with fail
              with_reducible refine HLd.out.mono ?_
              rintro e w5 ⟨rfl, c3, q1, q2, q3, q4⟩
              have HT3 := Lib.hid q3
              have HT4 := Lib.hid q4
              clear q1 q2 q3 q4
              have hlf := left_any m _ c3 w5 HT3.out
              rw [HZ1.out] at hlf
              have HLf := Lib.hid hlf
              clear hlf
              by_cases hk1' : k = 1
              · obtain rfl : v = S := HZ5.out hk1'
                have hkk : (k : Int) = 1 := by omega
                by_cases hS0 : 0 < v
                · have hv1 := HZ4.out hS0
                  have hv2 : ¬ v < 1 := by omega
                  go_wp2_with fail
                  with_reducible refine HLf.out.mono ?_
                  rintro e w' ⟨rfl, rfl⟩
                  go_wp2_with fail
                  go_ret
                  exact ⟨rfl, HM.out.bel.trans ((((HQ4.out.trans HR4.out).trans HT4.out).below HM.out.own HM.out.bel.size))⟩
                · go_wp2_with fail
                  with_reducible refine HLf.out.mono ?_
                  rintro e w' ⟨rfl, rfl⟩
                  go_wp2_with fail
                  go_ret
                  exact ⟨rfl, HM.out.bel.trans ((((HQ4.out.trans HR4.out).trans HT4.out).below HM.out.own HM.out.bel.size))⟩
              · have hkk : ¬ (k : Int) = 1 := by omega
                by_cases hS0 : 0 < S
                · have hv1 := HZ4.out hS0
                  have hv2 : ¬ v < 1 := by omega
                  go_wp2_with fail
                  with_reducible refine HLf.out.mono ?_
                  rintro e w' ⟨rfl, rfl⟩
                  go_wp2_with fail
                  go_ret
                  exact ⟨rfl, HM.out.bel.trans ((((HQ4.out.trans HR4.out).trans HT4.out).below HM.out.own HM.out.bel.size))⟩
                · go_wp2_with fail
                  with_reducible refine HLf.out.mono ?_
                  rintro e w' ⟨rfl, rfl⟩
                  go_wp2_with fail
                  go_ret
                  exact ⟨rfl, HM.out.bel.trans ((((HQ4.out.trans HR4.out).trans HT4.out).below HM.out.own HM.out.bel.size))⟩
          · have hkL : ¬ (k2 : Int) < L := by omega
            go_wp2_with fail
            with_reducible refine (round_at m _ c1 500 500 rfl wr HQ3.out (by omega) (by have := HM.out.N1; omega) (by have := HC1.out; omega) (by have := HC1.out; omega)).mono ?_
            rintro e w4 ⟨rfl, c2, q1, q2, q3, q4⟩
            have HC2 := Lib.hid (And.intro q1 q2)
            have HR3 := Lib.hid q3
            have HR4 := Lib.hid q4
            clear q1 q2 q3 q4
            have hc2 : 0 ≤ c2 ∧ c2 ≤ 1000000 := by
              have := HC1.out; have := HC2.out
              have hN := HM.out.N1
              rw [hN] at this
              omega
            have hld := load_at m _ c2 0 0 rfl w4 HR3.out (by rw [HM.out.n1]; omega) hc2
            have HC5 := Lib.hid hc2
            obtain ⟨z1, ⟨z2, z3⟩, z4, z5⟩ := HSM.out k2
            have z5 : k = 1 → _ := fun h => z5 (HM.out.N1.trans h)
            have HZ1 := Lib.hid z1
            obtain ⟨v, hv⟩ : ∃ v, v = (((sys0 1 T).runI m.n m.N q k2).rounds m.n m.N 500).f 0 := ⟨_, rfl⟩
            rw [← hv] at hld z2 z3 z4 z5
            have HZ4 := Lib.hid z4
            have HZ5 := Lib.hid z5
            have HLd := Lib.hid hld
            clear hld hc2 z1 z4 z5 hv
            go_wp2_with fail
            with_reducible refine HLd.out.mono ?_
            rintro e w5 ⟨rfl, c3, q1, q2, q3, q4⟩
            have HT3 := Lib.hid q3
            have HT4 := Lib.hid q4
            clear q1 q2 q3 q4
            have hlf := left_any m _ c3 w5 HT3.out
            rw [HZ1.out] at hlf
            have HLf := Lib.hid hlf
            clear hlf
            by_cases hk1' : k = 1
            · obtain rfl : v = S := HZ5.out hk1'
              have hkk : (k : Int) = 1 := by omega
              by_cases hS0 : 0 < v
              · have hv1 := HZ4.out hS0
                have hv2 : ¬ v < 1 := by omega
                go_wp2_with fail
                with_reducible refine HLf.out.mono ?_
                rintro e w' ⟨rfl, rfl⟩
                go_wp2_with fail
                go_ret
                exact ⟨rfl, HM.out.bel.trans ((((HQ4.out.trans HR4.out).trans HT4.out).below HM.out.own HM.out.bel.size))⟩
              · go_wp2_with fail
                with_reducible refine HLf.out.mono ?_
                rintro e w' ⟨rfl, rfl⟩
                go_wp2_with fail
                go_ret
                exact ⟨rfl, HM.out.bel.trans ((((HQ4.out.trans HR4.out).trans HT4.out).below HM.out.own HM.out.bel.size))⟩
            · have hkk : ¬ (k : Int) = 1 := by omega
              by_cases hS0 : 0 < S
              · have hv1 := HZ4.out hS0
                have hv2 : ¬ v < 1 := by omega
                go_wp2_with fail
                with_reducible refine HLf.out.mono ?_
                rintro e w' ⟨rfl, rfl⟩
                go_wp2_with fail
                go_ret
                exact ⟨rfl, HM.out.bel.trans ((((HQ4.out.trans HR4.out).trans HT4.out).below HM.out.own HM.out.bel.size))⟩
              · go_wp2_with fail
                with_reducible refine HLf.out.mono ?_
                rintro e w' ⟨rfl, rfl⟩
                go_wp2_with fail
                go_ret
                exact ⟨rfl, HM.out.bel.trans ((((HQ4.out.trans HR4.out).trans HT4.out).below HM.out.own HM.out.bel.size))⟩
end Go.Proofs.YtdhanenbcjmfkaaDoor
