/-
  The walk of StepsAdd.
-/
import Derived.Test.YtdhanenbcjmfkaaDoorTks
namespace Go.Proofs.YtdhanenbcjmfkaaDoor
open Go.RowKit

/-- The kind of the tasks. -/
def kSw (sw : Bool) : Nat := if sw then 2 else 0
/-- How many times. -/
def tm (T : Nat → Int) (j : Nat) : Int := T j % 12
theorem tm_rng (T : Nat → Int) (j : Nat) : 0 ≤ tm T j ∧ tm T j ≤ 11 := by unfold tm; omega
theorem sum_rng (T : Nat → Int) : ∀ k, 0 ≤ sumN (tm T) k ∧ sumN (tm T) k ≤ 11 * k
  | 0 => by simp [sumN]
  | k + 1 => by have := sum_rng T k; have := tm_rng T k; simp only [sumN]; omega
/-- The tasks at first. -/
def sys0 (K : Nat) (T : Nat → Int) : Sy := ⟨fun j => tk0 K 0 (tm T j), fun _ => 0⟩
theorem own0 (K N : Nat) (T : Nat → Int) : Own K N (sys0 K T) := ⟨fun _ _ => rfl, fun _ _ => rfl, fun i _ => (tm_rng T i).1, fun _ _ h => by cases h⟩
theorem tot0 (K N : Nat) (T : Nat → Int) : Tot N (sumN (tm T) N) (sys0 K T) := ⟨Int.le_refl _, by show 0 + sumN (tm T) N = _; omega⟩
theorem Own.runI {K N : Nat} {s : Sy} (h : Own K N s) (q : Nat → Int) : ∀ k, Own K N (s.runI 1 N q k)
  | 0 => h
  | k + 1 => (Own.runI h q k).pickI _
theorem Tot.runI {K N : Nat} {S : Int} {s : Sy} (hK : K ≠ 1) (hS : S ≤ 150) (h : Own K N s) (hT : Tot N S s) (q : Nat → Int) : ∀ k, Tot N S (s.runI 1 N q k)
  | 0 => hT
  | k + 1 => Tot.pickI hK hS (h.runI q k) (Tot.runI hK hS h hT q k) _
theorem tot_val {K N : Nat} {S : Int} {s : Sy} (h : Own K N s) (hT : Tot N S s) : 0 ≤ s.f 0 ∧ s.f 0 ≤ S ∧ (leftN s.l N = 0 → s.f 0 = S) := by
  have := rest_nonneg h
  have := hT.1
  have := hT.2
  exact ⟨by omega, by omega, fun hz => by have := rest_done h hz; omega⟩
/-- What stays as it is while the tasks are made: the memory, the arguments. -/
structure Base (W w0 : World) (g b n : Nat) : Prop where
  mem : MemAt w0 g b n (fun _ => 0) 0
  bel : Below W.heap.size W w0
  gok : GOk w0
  g6 : 6 ≤ g ∧ 6 ≤ b
  gW : W.heap.size ≤ g ∧ W.heap.size ≤ b
theorem Base.keep {W w0 w1 : World} {g b n : Nat} (h : Base W w0 g b n) (hB : Below w0.heap.size w0 w1) : Base W w1 g b n :=
  ⟨h.mem.keep hB, h.bel.trans (hB.mono h.bel.size), h.gok.keep hB, h.g6, h.gW⟩
theorem base_new {W w0 : World} {g b n : Nat} (hG : GOk W) (hM : MemAt w0 g b n (fun _ => 0) 0) (h1 : W.heap.size ≤ g) (h2 : W.heap.size ≤ b) (hB : Below W.heap.size W w0) : Base W w0 g b n :=
  ⟨hM, hB, hG.keep hB, by have := six_of hG; omega, h1, h2⟩
theorem round_at (m : Mc) (s : Sy) (c : Int) (M : Nat) (x : Int) (hx : x = M) (w : World) (h : Sys w m s c) (hM : M ≤ 1000) (hN : m.N ≤ 20) (hc : 0 ≤ c) (hc2 : c ≤ 900000) :
    Calls Tryd.prog 20 #[.pointer (some ⟨m.X, 0, none⟩), .int .i64 x] w fun e w' => e = .returned (.int .i64 (s.count m.n m.N M)) ∧ StepS m (s.rounds m.n m.N M) c (M * m.N) w w' := by
  subst hx; exact round_any m s c M w h hM hN hc hc2
/-- The relation of the first loop: the tasks that were made, their sum. -/
def AddRel (K : Nat) (T : Nat → Int) (n : Nat) (w0 : World) (ts su i : Value) (wr : World) : Prop :=
  ∃ k g cap B, k ≤ n ∧ i = .int .i64 ((k : Nat) : Int) ∧ su = .int .u32 (sumN (tm T) k) ∧ ts = .slice (some ⟨g, 0, none⟩) k cap ∧ Tks w0 wr k g cap B (fun _ => K) (fun j => tk0 K 0 (tm T j))
/-- The relation of the second one: the picks that were done. -/
def PickRel (m : Mc) (s : Sy) (c : Int) (q : Nat → Int) (L : Nat) (w : World) (i : Value) (wr : World) : Prop :=
  ∃ k : Nat, k ≤ L ∧ k ≤ 200 ∧ i = .int .i64 k ∧ StepS m (s.runI m.n m.N q k) c (2 * k) w wr
theorem addNext {m : Mc} {s : Sy} {c c1 c2 c3 : Int} {q : Nat → Int} {k L : Nat} {w wr w1 w2 : World} (hk : k < L) (hk2 : k < 200) (h1 : c ≤ c1 ∧ c1 ≤ c + 2 * k) (hC : Chg m.own w wr) (h2 : c1 ≤ c2 ∧ c2 ≤ c1 + 1) (hC1 : Chg m.own wr w1) (h3 : c2 ≤ c3 ∧ c3 ≤ c2 + 1)
    (hS : Sys w2 m (s.runI m.n m.N q (k + 1)) c3) (hC2 : Chg m.own w1 w2) : PickRel m s c q L w (.int .i64 ((k : Int) + 1)) w2 :=
  ⟨k + 1, by omega, by omega, by go_num, c3, by omega, by omega, hS, (hC.trans hC1).trans hC2⟩
/-- What is known of the word, and of the rounds behind the picks. -/
def SumOk (n : Nat) (s : Sy) (N : Nat) (S : Int) (q : Nat → Int) : Prop :=
  ∀ k, (0 ≤ (s.runI n N q k).f 0 ∧ (s.runI n N q k).f 0 ≤ S ∧ (leftN (s.runI n N q k).l N = 0 → (s.runI n N q k).f 0 = S)) ∧
    leftN ((s.runI n N q k).rounds n N 500).l N = 0 ∧ ((s.runI n N q k).rounds n N 500).f 0 = S
theorem sumOk (K N : Nat) (hN : N ≤ 6) (hK : K ≠ 1) (T q : Nat → Int) : SumOk 1 (sys0 K T) N (sumN (tm T) N) q := fun k => by
  have hS := sum_rng T N
  have hO := (own0 K N T).runI q k
  have hT := Tot.runI hK (by omega) (own0 K N T) (tot0 K N T) q k
  refine ⟨tot_val hO hT, ?_, ?_⟩
  · refine all_done hO ?_
    have := hT.1
    have := hT.2
    omega
  · have hO2 := hO.rounds 500
    have hT2 := Tot.rounds hK (by omega) hO hT 500
    refine (tot_val hO2 hT2).2.2 (all_done hO ?_)
    have := hT.1
    have := hT.2
    omega
/-- The machine's numbers, and that it lies behind the world w. -/
structure MOk (w w3 : World) (m : Mc) (N : Nat) : Prop where
  n1 : m.n = 1
  N1 : m.N = N
  bel : Below w.heap.size w w3
  own : ∀ x, m.own x → w.heap.size ≤ x
theorem machOk {w w1 w3 w2 : World} {m : Mc} {N b1 : Nat} (h1 : m.n = 1) (h2 : m.N = N) (hB : Below w.heap.size w w1) (hB3 : Below w1.heap.size w1 w3) (hO : ∀ x, m.own x → x = m.g ∨ x = b1 ∨ w2.heap.size ≤ x) (hg : w.heap.size ≤ m.g ∧ w.heap.size ≤ b1) (h3 : w.heap.size ≤ w2.heap.size) : MOk w w3 m N :=
  ⟨h1, h2, hB.trans (hB3.mono hB.size), fun x hx => by have := hO x hx; omega⟩
set_option maxHeartbeats 8000000 in
set_option maxRecDepth 100000 in
theorem walk_add (A P : Option Addr) (n ca L cp : Nat) (T q : Nat → Int) (sw : Bool) (w : World) (hG : GOk w) (hA : ArgN .u8 w.heap.size w A n T) (hT : ∀ i, i < n → 0 ≤ T i ∧ T i < 256) (hP : ArgN .i64 w.heap.size w P L q) (hn : n ≤ 1000000000000000) (_ : L ≤ 1000000000000000) :
    Calls Tryd.prog 5 #[.slice A n ca, .bool sw, .slice P L cp] w fun e w' => e = .returned (.bool true) ∧ Below w.heap.size w w' := by
  have HG := Lib.hid hG
  have HA := Lib.hid hA
  have HT := Lib.hid hT
  have HP := Lib.hid hP
  clear hG hA hT hP
  by_cases h6 : 6 < n
  · go_enter Tryd.func5, Tryd.ntmps5
    go_wp2_with fail
    with_reducible refine (new_one 1 (by omega) (by omega) 1 rfl _).mono ?_
    rintro e w1 ⟨g1, b1, rfl, hM1, hg1, hb1, hB1⟩
    have HB1 := Lib.hid hB1
    clear hM1 hg1 hb1 hB1
    go_wp2_with fail
    with_reducible refine (awake_any _ (HG.out.keep HB1.out)).mono ?_
    rintro e w2 ⟨rfl, hB2⟩
    have HB2 := Lib.hid (below_two HB1.out hB2)
    clear hB2
    go_wp2_with fail
    with_reducible refine (awake_any _ (HG.out.keep HB2.out)).mono ?_
    rintro e w3 ⟨rfl, hB3⟩
    have HB3 := Lib.hid (below_two HB2.out hB3)
    clear hB3
    go_wp2_with fail
    go_ret
    exact ⟨rfl, HB3.out⟩
  · have h6' : n ≤ 6 := by omega
    have h6i : ¬ ((6 : Int) < (n : Int)) := by omega
    clear h6
    go_enter Tryd.func5, Tryd.ntmps5
    go_wp2_with fail
    with_reducible refine (new_one 1 (by omega) (by omega) 1 rfl _).mono ?_
    rintro e w1 ⟨g1, b1, rfl, hM1, hg1, hb1, hB1⟩
    have HBa := Lib.hid (base_new HG.out hM1 hg1 hb1 hB1)
    clear hM1 hg1 hb1 hB1
    go_wp2_with fail
    with_reducible refine (awake_any _ HBa.out.gok).mono ?_
    rintro e w2 ⟨rfl, hB2⟩
    have HBb := Lib.hid (HBa.out.keep hB2)
    clear hB2
    go_wp2_with fail
    go_loopw [9, 10, 11] (fun ts su i wr => AddRel (kSw sw) T n w2 ts su i wr) (fun _ _ i _ => n - (intOf i).toNat)
    case atStart => exact ⟨0, _, _, fun _ => 0, Nat.zero_le _, rfl, rfl, rfl, tks_nil _ _ _ _⟩
    case round =>
      obtain ⟨k, g, cap, B, hk, rfl, rfl, rfl, hTk⟩ := hrel
      have HTk := Lib.hid hTk
      clear hTk
      by_cases hlt : k < n
      · obtain ⟨b, o, rfl⟩ := HA.out.head hlt
        have hcell := (HA.out.keep (HBb.out.bel.trans (HTk.out.bel.mono HBb.out.bel.size))).cell hlt
        obtain ⟨ht0, ht1⟩ := HT.out k hlt
        have hs := sum_rng T k
        have htm := tm_rng T k
        have HS1 : Hid (sumN (tm T) (k + 1) = sumN (tm T) k + tm T k) := Lib.hid rfl
        obtain ⟨hs0, hs1⟩ := hs
        obtain ⟨ht2, ht3⟩ := htm
        obtain ⟨x, hx⟩ : ∃ x, x = sumN (tm T) k := ⟨_, rfl⟩
        rw [← hx] at hs0 hs1 HS1 ⊢
        obtain ⟨y, hy⟩ : ∃ y, y = T k := ⟨_, rfl⟩
        have HY : Hid (tm T k = y % 12) := Lib.hid (by rw [hy]; rfl)
        rw [← hy] at hcell ht0 ht1
        rw [HY.out] at ht2 ht3 HS1
        clear hx hy
        cases sw
        · have HTk : Hid (Tks w2 wr k g cap B (fun _ => 0) (fun j => tk0 0 0 (tm T j))) := HTk
          go_wp2_with fail
          with_reducible refine (adds_new 0 _ _ (by omega)).mono ?_
          rintro e w3 ⟨rfl, hT3, hB3, hz3⟩
          have HT3 := Lib.hid hT3
          have HB3 := Lib.hid hB3
          clear hT3 hB3 hz3
          go_wp2_with (at_builtin; refine wpList_append_task rfl _ _ rfl HTk.out HB3.out (Nat.le_refl _) (by show TaskAt _ _ (tk0 0 0 (tm T k)); rw [HY.out]; exact HT3.out) rfl (by omega) (by rfl) (by rfl) ?_)
          intro g' cap' w4 hT4 _
          have HT4 := Lib.hid hT4
          clear hT4
          go_wp2_with fail
          go_roundw
          case rel => exact ⟨k + 1, g', cap', _, by omega, by go_num, by rw [HS1.out], rfl, HT4.out⟩
          case measure => simp [intOf]; omega
        · have HTk : Hid (Tks w2 wr k g cap B (fun _ => 2) (fun j => tk0 2 0 (tm T j))) := HTk
          go_wp2_with fail
          with_reducible refine (swaps_new 0 _ _ (by omega)).mono ?_
          rintro e w3 ⟨rfl, hT3, hB3, hz3⟩
          have HT3 := Lib.hid hT3
          have HB3 := Lib.hid hB3
          clear hT3 hB3 hz3
          go_wp2_with (at_builtin; refine wpList_append_task rfl _ _ rfl HTk.out HB3.out (Nat.le_refl _) (by show TaskAt _ _ (tk0 2 0 (tm T k)); rw [HY.out]; exact HT3.out) rfl (by omega) (by rfl) (by rfl) ?_)
          intro g' cap' w4 hT4 _
          have HT4 := Lib.hid hT4
          clear hT4
          go_wp2_with fail
          go_roundw
          case rel => exact ⟨k + 1, g', cap', _, by omega, by go_num, by rw [HS1.out], rfl, HT4.out⟩
          case measure => simp [intOf]; omega
      · obtain rfl : k = n := by omega
        have hs := sum_rng T k
        obtain ⟨hs0, hs1⟩ := hs
        have HS : Hid (SumOk 1 (sys0 (kSw sw) T) k (sumN (tm T) k) q) := Lib.hid (sumOk (kSw sw) k (by omega) (by cases sw <;> decide) T q)
        obtain ⟨S, hSS⟩ : ∃ S, S = sumN (tm T) k := ⟨_, rfl⟩
        rw [← hSS] at hs0 hs1 HS ⊢
        clear hSS HA HT
        go_wp2_with fail
        with_reducible refine (new_mach g1 _ k cap _ _ HTk.out.vals (fun _ _ => rfl) (by omega)).mono ?_
        rintro e w3 hNM
        obtain ⟨m, rfl, rfl, hn1, hN1, hS, hBS, hO, _⟩ := HTk.out.sys (HBb.out.mem.keep HTk.out.bel) ⟨HBb.out.mem.ltg, HBb.out.mem.row.lt⟩ (by omega) (by omega) (HBb.out.gok.keep HTk.out.bel) HBb.out.g6 (fun _ _ => rfl) hNM
        have HM := Lib.hid (machOk hn1 hN1 (HBb.out.bel.trans (HTk.out.bel.mono HBb.out.bel.size)) hBS hO HBb.out.gW HBb.out.bel.size)
        have HAr2 := Lib.hid (HP.out.keep HM.out.bel)
        have HSM : Hid (SumOk m.n (sys0 (kSw sw) T) m.N S q) := Lib.hid (by rw [HM.out.n1, HM.out.N1]; exact HS.out)
        have HS3 : Hid (Sys w3 m (sys0 (kSw sw) T) 0) := Lib.hid hS
        clear hNM hn1 hN1 hS hBS hO HTk
        go_wp2_with fail
        go_loopw [14] (fun i wr => PickRel m (sys0 (kSw sw) T) 0 q L w3 i wr) (fun i _ => 200 - (intOf i).toNat)
        case atStart => exact ⟨0, Nat.zero_le _, by omega, rfl, StepS.refl HS3.out (by omega)⟩
        case round =>
          obtain ⟨k2, hk1, hk2, rfl, hSt⟩ := hrel
          obtain ⟨c1, q1, q2, q3, q4⟩ := hSt
          have HC1 := Lib.hid (And.intro q1 q2)
          have HQ3 := Lib.hid q3
          have HQ4 := Lib.hid q4
          clear q1 q2 q3 q4
          by_cases hlt : k2 < L
          · by_cases hlt2 : k2 < 200
            · obtain ⟨b, o, rfl⟩ := HAr2.out.head hlt
              have hcell := (HAr2.out.keep (HQ4.out.below HM.out.own HM.out.bel.size)).cell hlt
              have HPk := pick_any m _ c1 (q k2) wr HQ3.out (by have := HC1.out; omega)
              obtain ⟨d, hd⟩ : ∃ d, d = ((sys0 (kSw sw) T).runI m.n m.N q k2).err m.N (q k2) := ⟨_, rfl⟩
              obtain ⟨y, hy⟩ : ∃ y, y = q k2 := ⟨_, rfl⟩
              rw [← hd, ← hy] at HPk
              rw [← hy] at hcell
              have HY := Lib.hid hy
              have HPk := Lib.hid HPk
              clear hd hy
              go_wp2_with fail
              with_reducible refine HPk.out.mono ?_
              rintro e w4 ⟨rfl, c2, q1, q2, q3, q4⟩
              have HC2 := Lib.hid (And.intro q1 q2)
              have HR3 := Lib.hid q3
              have HR4 := Lib.hid q4
              clear q1 q2 q3 q4 hcell
              have hld := load_at m _ c2 0 0 rfl w4 HR3.out (by rw [HM.out.n1]; omega) (by have := HC1.out; have := HC2.out; omega)
              have hv := HSM.out (k2 + 1)
              have e2 : ((sys0 (kSw sw) T).runI m.n m.N q k2).pickI m.n m.N y = (sys0 (kSw sw) T).runI m.n m.N q (k2 + 1) := by rw [HY.out]; rfl
              rw [e2] at hld
              have HE2 := Lib.hid e2
              obtain ⟨⟨v0, v1, v2⟩, _⟩ := hv
              obtain ⟨v, hvv⟩ : ∃ v, v = ((sys0 (kSw sw) T).runI m.n m.N q (k2 + 1)).f 0 := ⟨_, rfl⟩
              rw [← hvv] at hld v0 v1 v2
              have HLd := Lib.hid hld
              have HV2 := Lib.hid v2
              clear hld e2 v2 hvv
              go_wp2_with fail
              with_reducible refine HLd.out.mono ?_
              rintro e w5 ⟨rfl, c3, q1, q2, q3, q4⟩
              have HC3 := Lib.hid (And.intro q1 q2)
              have HT3 := Lib.hid q3
              have HT4 := Lib.hid q4
              clear q1 q2 q3 q4
              have hlf := left_any m _ c3 w5 HT3.out
              obtain ⟨l, hl⟩ : ∃ l, l = leftN ((sys0 (kSw sw) T).runI m.n m.N q (k2 + 1)).l m.N := ⟨_, rfl⟩
              rw [← hl] at hlf
              have hv2 := HV2.out
              rw [← hl] at hv2
              have HLf := Lib.hid hlf
              have hvS : ¬ S < v := by omega
              by_cases hl0 : l = 0
              · obtain rfl : v = S := hv2 hl0
                have hl1 : (l : Int) = 0 := by omega
                have HL0 := Lib.hid hl0
                have HL := Lib.hid hl
                have hnd : (decide ((l : Int) = 0)) = true := decide_eq_true hl1
                clear hlf hl hv2 hl0
                go_wp2_with fail
                with_reducible refine HLf.out.mono ?_
                rintro e w' ⟨rfl, rfl⟩
                go_wp2_with fail
                go_roundw
                case rel => exact addNext hlt hlt2 HC1.out HQ4.out HC2.out HR4.out HC3.out HT3.out HT4.out
                case measure => simp [intOf]; omega
              · have hl1 : ¬ (l : Int) = 0 := by omega
                have HL := Lib.hid hl
                clear hlf hl hv2 hl0
                go_wp2_with fail
                with_reducible refine HLf.out.mono ?_
                rintro e w' ⟨rfl, rfl⟩
                go_wp2_with fail
                go_roundw
                case rel => exact addNext hlt hlt2 HC1.out HQ4.out HC2.out HR4.out HC3.out HT3.out HT4.out
                case measure => simp [intOf]; omega
            · have hk200 : ¬ (k2 : Int) < 200 := by omega
              go_wp2_with fail
              with_reducible refine (round_at m _ c1 500 500 rfl wr HQ3.out (by omega) (by have := HM.out.N1; omega) (by have := HC1.out; omega) (by have := HC1.out; omega)).mono ?_
              rintro e w4 ⟨rfl, c2, q1, q2, q3, q4⟩
              have HC2 := Lib.hid (And.intro q1 q2)
              have HR3 := Lib.hid q3
              have HR4 := Lib.hid q4
              clear q1 q2 q3 q4
              have hc2 : 0 ≤ c2 ∧ c2 ≤ 1000000 := by
                have := HC1.out; have := HC2.out
                have hN := HM.out.N1
                rw [hN] at this
                omega
              have hld := load_at m _ c2 0 0 rfl w4 HR3.out (by rw [HM.out.n1]; omega) hc2
              have HC5 := Lib.hid hc2
              rw [(HSM.out k2).2.2] at hld
              have HLd := Lib.hid hld
              clear hld hc2
              go_wp2_with fail
              with_reducible refine HLd.out.mono ?_
              rintro e w5 ⟨rfl, c3, q1, q2, q3, q4⟩
              have HT3 := Lib.hid q3
              have HT4 := Lib.hid q4
              clear q1 q2 q3 q4
              have hlf := left_any m _ c3 w5 HT3.out
              rw [(HSM.out k2).2.1] at hlf
              have HLf := Lib.hid hlf
              clear hlf
              go_wp2_with fail
              with_reducible refine HLf.out.mono ?_
              rintro e w' ⟨rfl, rfl⟩
              go_wp2_with fail
              go_ret
              exact ⟨rfl, HM.out.bel.trans ((((HQ4.out.trans HR4.out).trans HT4.out).below HM.out.own HM.out.bel.size))⟩
          · have hkL : ¬ (k2 : Int) < L := by omega
            go_wp2_with fail
            with_reducible refine (round_at m _ c1 500 500 rfl wr HQ3.out (by omega) (by have := HM.out.N1; omega) (by have := HC1.out; omega) (by have := HC1.out; omega)).mono ?_
            rintro e w4 ⟨rfl, c2, q1, q2, q3, q4⟩
            have HC2 := Lib.hid (And.intro q1 q2)
            have HR3 := Lib.hid q3
            have HR4 := Lib.hid q4
            clear q1 q2 q3 q4
            have hc2 : 0 ≤ c2 ∧ c2 ≤ 1000000 := by
              have := HC1.out; have := HC2.out
              have hN := HM.out.N1
              rw [hN] at this
              omega
            have hld := load_at m _ c2 0 0 rfl w4 HR3.out (by rw [HM.out.n1]; omega) hc2
            have HC5 := Lib.hid hc2
            rw [(HSM.out k2).2.2] at hld
            have HLd := Lib.hid hld
            clear hld hc2
            go_wp2_with fail
            with_reducible refine HLd.out.mono ?_
            rintro e w5 ⟨rfl, c3, q1, q2, q3, q4⟩
            have HT3 := Lib.hid q3
            have HT4 := Lib.hid q4
            clear q1 q2 q3 q4
            have hlf := left_any m _ c3 w5 HT3.out
            rw [(HSM.out k2).2.1] at hlf
            have HLf := Lib.hid hlf
            clear hlf
            go_wp2_with fail
            with_reducible refine HLf.out.mono ?_
            rintro e w' ⟨rfl, rfl⟩
            go_wp2_with fail
            go_ret
            exact ⟨rfl, HM.out.bel.trans ((((HQ4.out.trans HR4.out).trans HT4.out).below HM.out.own HM.out.bel.size))⟩
end Go.Proofs.YtdhanenbcjmfkaaDoor
