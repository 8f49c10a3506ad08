/-
  The chapter's examples hold.
-/
import Derived.Test.YtdhanenbcjmfkaaDoorAwake
namespace Go.Proofs.YtdhanenbcjmfkaaDoor
open Go.RowKit

theorem run_two (m : Mc) (s s' : Sy) (c : Int) (l : List Int) (r : Nat) (b : Nat) (L : Nat) (w : World) (h : Sys w m s c) (hn : m.n = 1) (hN : m.N = 2) (hL : l.length = L) (hL2 : L ≤ 1000) (hA : Ints m.own w (some ⟨b, 0, none⟩) l.length (litQ l)) (hc : 0 ≤ c) (hc2 : c ≤ 990000)
    (h1 : s.cntI 1 2 (litQ l) L = r) (h2 : s.runI 1 2 (litQ l) L = s') (cap : Nat) :
    Calls Tryd.prog 19 #[.pointer (some ⟨m.X, 0, none⟩), .slice (some ⟨b, 0, none⟩) L cap] w fun e w' => e = .returned (.int .i64 r) ∧ StepS m s' c L w w' := by
  subst hL
  have := run_any m s c (some ⟨b, 0, none⟩) l.length cap (litQ l) w h hA hL2 hc hc2
  rw [hn, hN, h1, h2] at this
  exact this
theorem one_two (T : TypeId) (a b : Value) (i : Nat) (hi : i < 2) : ([Value.iface T a, Value.iface T b].getD i .nilIface).oneCell' = true := by
  have : i = 0 ∨ i = 1 := by omega
  rcases this with rfl | rfl <;> rfl
theorem two_new {w w1 w2 w5 w8 : World} {m1 m2 : Mc} {s1 s2 : Sy} {c1 c2 : Int} {b1 b2 : Nat} (l1 : m1.g < w1.heap.size) (l2 : b1 < w1.heap.size) (l3 : m2.g < w2.heap.size) (l4 : b2 < w2.heap.size) (i1 : w.heap.size ≤ m1.g ∧ w.heap.size ≤ b1) (i2 : w1.heap.size ≤ m2.g ∧ w1.heap.size ≤ b2)
    (B1 : Below w.heap.size w w1) (B2 : Below w1.heap.size w1 w2) (B5 : Below w2.heap.size w2 w5) (B8 : Below w5.heap.size w5 w8) (S1 : Sys w5 m1 s1 c1) (S2 : Sys w8 m2 s2 c2)
    (o1 : ∀ k, m1.own k → k = m1.g ∨ k = b1 ∨ w2.heap.size ≤ k) (o2 : ∀ k, m2.own k → k = m2.g ∨ k = b2 ∨ w5.heap.size ≤ k) : Two w m1 m2 s1 s2 c1 c2 w8 := by
  have h1 := B1.size
  have h2 := B2.size
  have h5 := B5.size
  have hl := S1.own_lt
  refine ⟨S1.keep B8, S2, ((B1.trans (B2.mono h1)).trans (B5.mono (by omega))).trans (B8.mono (by omega)), fun k hk => ?_, fun k hk => ?_, fun k hk hj => ?_⟩
  · have := o1 k hk; omega
  · have := o2 k hk; omega
  · have a := o1 k hk
    have b := o2 k hj
    have c := hl k hk
    omega
set_option maxHeartbeats 8000000 in
set_option maxRecDepth 100000 in
theorem awake_any (w : World) (hG : GOk w) : Calls Tryd.prog 10 #[] w fun e w' => e = .returned (.bool true) ∧ Below w.heap.size w w' := by
  have HG := Lib.hid hG
  have H6 := Lib.hid (six_of hG)
  clear hG
  go_enter Tryd.func10, Tryd.ntmps10
  go_wp2_with fail
  with_reducible refine (new_one 1 (by omega) (by omega) 1 rfl _).mono ?_
  rintro e w1 ⟨g1, b1, rfl, hM1, hg1, hb1, hB1⟩
  have HM1 := Lib.hid hM1
  have HI1 := Lib.hid (And.intro hg1 hb1)
  have HB1 := Lib.hid hB1
  clear hM1 hg1 hb1 hB1
  go_wp2_with fail
  with_reducible refine (new_one 1 (by omega) (by omega) 1 rfl _).mono ?_
  rintro e w2 ⟨g2, b2, rfl, hM2, hg2, hb2, hB2⟩
  have HM2 := Lib.hid hM2
  have HI2 := Lib.hid (And.intro hg2 hb2)
  have HB2 := Lib.hid hB2
  clear hM2 hg2 hb2 hB2
  go_wp2_with fail
  with_reducible refine (bumps_new 0 1 _ (by omega)).mono ?_
  rintro e w3 ⟨rfl, hT3, hB3, hz3⟩
  have HT3 := Lib.hid hT3
  have HB3 := Lib.hid hB3
  have HZ3 := Lib.hid hz3
  clear hT3 hB3 hz3
  go_wp2_with fail
  with_reducible refine (bumps_new 0 1 _ (by omega)).mono ?_
  rintro e w4 ⟨rfl, hT4, hB4, hz4⟩
  have HT4 := Lib.hid hT4
  have HB4 := Lib.hid hB4
  have HZ4 := Lib.hid hz4
  clear hT4 hB4 hz4
  go_wp2_with fail
  with_reducible refine (new_mach g1 _ 2 _ _ _ (vals_lit w4 [tv 1 w2.heap.size, tv 1 w3.heap.size] 32) (fun i hi => one_two _ _ _ i hi) (by omega)).mono ?_
  rintro e w5 hNM
  obtain ⟨m1, rfl, rfl, hn1, hN1, hS1, hBS1, hO1⟩ := pair_sys 1 g1 b1 w2 w3 w4 _ w5 _ ((HG.out.keep HB1.out).keep HB2.out) (HM1.out.keep HB2.out) (by have := HI1.out; have := H6.out; omega) HT3.out HB3.out HZ3.out HT4.out HB4.out HZ4.out ((Below.refl _ _).alloc (Nat.le_refl _) _) hNM
  have HN1 := Lib.hid (And.intro hn1 hN1)
  have HS1 := Lib.hid hS1
  have HBS1 := Lib.hid hBS1
  have HO1 := Lib.hid hO1
  clear hNM hn1 hN1 hS1 hBS1 hO1 HT3 HB3 HZ3 HT4 HB4 HZ4
  go_wp2_with fail
  with_reducible refine (swaps_new 0 1 _ (by omega)).mono ?_
  rintro e w6 ⟨rfl, hT6, hB6, hz6⟩
  have HT6 := Lib.hid hT6
  have HB6 := Lib.hid hB6
  have HZ6 := Lib.hid hz6
  clear hT6 hB6 hz6
  go_wp2_with fail
  with_reducible refine (swaps_new 0 1 _ (by omega)).mono ?_
  rintro e w7 ⟨rfl, hT7, hB7, hz7⟩
  have HT7 := Lib.hid hT7
  have HB7 := Lib.hid hB7
  have HZ7 := Lib.hid hz7
  clear hT7 hB7 hz7
  go_wp2_with fail
  with_reducible refine (new_mach g2 _ 2 _ _ _ (vals_lit w7 [tv 2 w5.heap.size, tv 2 w6.heap.size] 32) (fun i hi => one_two _ _ _ i hi) (by omega)).mono ?_
  rintro e w8 hNM
  obtain ⟨m2, rfl, rfl, hn2, hN2, hS2, hBS2, hO2⟩ := pair_sys 2 g2 b2 w5 w6 w7 _ w8 _ (((HG.out.keep HB1.out).keep HB2.out).keep HBS1.out) (HM2.out.keep HBS1.out) (by have := HI2.out; have := H6.out; have := HB1.out.size; omega) HT6.out HB6.out HZ6.out HT7.out HB7.out HZ7.out ((Below.refl _ _).alloc (Nat.le_refl _) _) hNM
  have HN2 := Lib.hid (And.intro hn2 hN2)
  have HTW : Hid (Two w m1 m2 awX awY 0 0 w8) := Lib.hid (two_new HM1.out.ltg HM1.out.row.lt HM2.out.ltg HM2.out.row.lt HI1.out HI2.out HB1.out HB2.out HBS1.out hBS2 HS1.out hS2 HO1.out hO2)
  clear hNM hn2 hN2 hS2 hBS2 hO2 HT6 HB6 HZ6 HT7 HB7 HZ7 HS1 HBS1 HO1
  go_wp2_with fail
  with_reducible refine (run_two m1 awX awX1 0 [0, 1, 0, 1, 7] 4 w8.heap.size 5 _ (HTW.out.keep ((Below.refl _ _).alloc (Nat.le_refl _) _)).a HN1.out.1 HN1.out.2 rfl (by omega) (ints_lit _ w8 [0, 1, 0, 1, 7] 3 #[.int .i64 0, .int .i64 1, .int .i64 0, .int .i64 1, .int .i64 7] (by simp) HTW.out.a.own_lt) (by omega) (by omega) aw1 rfl _).mono ?_
  rintro e w9 ⟨rfl, hs⟩
  obtain ⟨cw9, hc1, hc2, hT⟩ := (HTW.out.keep ((Below.refl _ _).alloc (Nat.le_refl _) _)).one hs
  have HCw9 := Lib.hid (And.intro hc1 hc2)
  have HTw9 := Lib.hid hT
  clear hs hc1 hc2 hT HTW
  go_wp2_with fail
  have hld := load_at m1 awX1 cw9 0 0 rfl _ HTw9.out.a (by rw [HN1.out.1]; omega) (by have := HCw9.out; omega)
  rw [aw2] at hld
  with_reducible refine hld.mono ?_
  clear hld
  rintro e w10 ⟨rfl, hs⟩
  obtain ⟨cw10, hc1, hc2, hT⟩ := HTw9.out.one hs
  have HCw10 := Lib.hid (And.intro hc1 hc2)
  have HTw10 := Lib.hid hT
  clear hs hc1 hc2 hT HTw9
  go_wp2_with fail
  with_reducible refine (run_two m2 awY awY1 0 [0, 1, 0, 1] 4 w10.heap.size 4 _ (HTw10.out.keep ((Below.refl _ _).alloc (Nat.le_refl _) _)).b HN2.out.1 HN2.out.2 rfl (by omega) (ints_lit _ w10 [0, 1, 0, 1] 3 #[.int .i64 0, .int .i64 1, .int .i64 0, .int .i64 1] (by simp) HTw10.out.b.own_lt) (by omega) (by omega) aw4 rfl _).mono ?_
  rintro e w11 ⟨rfl, hs⟩
  obtain ⟨cw11, hc1, hc2, hT⟩ := (HTw10.out.keep ((Below.refl _ _).alloc (Nat.le_refl _) _)).two hs
  have HCw11 := Lib.hid (And.intro hc1 hc2)
  have HTw11 := Lib.hid hT
  clear hs hc1 hc2 hT HTw10
  go_wp2_with fail
  have hdn := done_any m2 awY1 _ 0 _ HTw11.out.b
  rw [HN2.out.2, aw5.1] at hdn
  with_reducible refine hdn.mono ?_
  clear hdn
  rintro e w' ⟨rfl, rfl⟩
  go_wp2_with fail
  have hdn := done_any m2 awY1 _ 1 _ HTw11.out.b
  rw [HN2.out.2, aw5.2] at hdn
  with_reducible refine hdn.mono ?_
  clear hdn
  rintro e w' ⟨rfl, rfl⟩
  go_wp2_with fail
  with_reducible refine (run_two m2 awY1 awY2 cw11 [1, 1, 1] 2 w11.heap.size 3 _ (HTw11.out.keep ((Below.refl _ _).alloc (Nat.le_refl _) _)).b HN2.out.1 HN2.out.2 rfl (by omega) (ints_lit _ w11 [1, 1, 1] 3 #[.int .i64 1, .int .i64 1, .int .i64 1] (by simp) HTw11.out.b.own_lt) (by have := HCw11.out; omega) (by have := HCw11.out; omega) aw6 rfl _).mono ?_
  rintro e w12 ⟨rfl, hs⟩
  obtain ⟨cw12, hc1, hc2, hT⟩ := (HTw11.out.keep ((Below.refl _ _).alloc (Nat.le_refl _) _)).two hs
  have HCw12 := Lib.hid (And.intro hc1 hc2)
  have HTw12 := Lib.hid hT
  clear hs hc1 hc2 hT HTw11
  go_wp2_with fail
  have hld := load_at m2 awY2 cw12 0 0 rfl _ HTw12.out.b (by rw [HN2.out.1]; omega) (by have := HCw11.out; have := HCw12.out; omega)
  rw [aw7] at hld
  with_reducible refine hld.mono ?_
  clear hld
  rintro e w13 ⟨rfl, hs⟩
  obtain ⟨cw13, hc1, hc2, hT⟩ := HTw12.out.two hs
  have HCw13 := Lib.hid (And.intro hc1 hc2)
  have HTw13 := Lib.hid hT
  clear hs hc1 hc2 hT HTw12
  go_wp2_with fail
  have hlf := left_any m1 awX1 _ _ HTw13.out.a
  rw [HN1.out.2, aw3] at hlf
  with_reducible refine hlf.mono ?_
  clear hlf
  rintro e w' ⟨rfl, rfl⟩
  go_wp2_with fail
  have hlf := left_any m2 awY2 _ _ HTw13.out.b
  rw [HN2.out.2, aw8] at hlf
  with_reducible refine hlf.mono ?_
  clear hlf
  rintro e w' ⟨rfl, rfl⟩
  go_wp2_with fail
  have hpk := pick_any m2 awY2 cw13 0 _ HTw13.out.b (by have := HCw11.out; have := HCw12.out; have := HCw13.out; omega)
  rw [HN2.out.2, HN2.out.1, aw9.1, show awY2.pickI 1 2 0 = awY2 from aw10.1] at hpk
  with_reducible refine hpk.mono ?_
  clear hpk
  rintro e w14 ⟨rfl, hs⟩
  obtain ⟨cw14, hc1, hc2, hT⟩ := HTw13.out.two hs
  have HCw14 := Lib.hid (And.intro hc1 hc2)
  have HTw14 := Lib.hid hT
  clear hs hc1 hc2 hT HTw13
  go_wp2_with fail
  have hpk := pick_any m2 awY2 cw14 2 _ HTw14.out.b (by have := HCw11.out; have := HCw12.out; have := HCw13.out; have := HCw14.out; omega)
  rw [HN2.out.2, HN2.out.1, aw9.2, show awY2.pickI 1 2 2 = awY2 from aw10.2] at hpk
  with_reducible refine hpk.mono ?_
  clear hpk
  rintro e w15 ⟨rfl, hs⟩
  obtain ⟨cw15, hc1, hc2, hT⟩ := HTw14.out.two hs
  have HCw15 := Lib.hid (And.intro hc1 hc2)
  have HTw15 := Lib.hid hT
  clear hs hc1 hc2 hT HTw14
  go_wp2_with fail
  go_ret
  exact ⟨rfl, HTw15.out.bel⟩
end Go.Proofs.YtdhanenbcjmfkaaDoor
