/-
  The walk of StepsApart.
-/
import Derived.Test.YtdhanenbcjmfkaaDoorApart
import Derived.Test.YtdhanenbcjmfkaaDoorOnce
namespace Go.Proofs.YtdhanenbcjmfkaaDoor
open Go.RowKit

theorem one_one (T : TypeId) (a : Value) (i : Nat) (hi : i < 1) : ([Value.iface T a].getD i .nilIface).oneCell' = true := by
  obtain rfl : i = 0 := by omega
  rfl
theorem vals_at (H : Nat) (w : World) (hH : H = w.heap.size) (l : List Value) (t : TypeId) : ValsAt (w.alloc (.cells l.toArray t)) (some ⟨H, 0, none⟩) l.length (fun i => l.getD i .nilIface) := by subst hH; exact vals_lit w l t
theorem done_zero (m : Mc) (s : Sy) (c : Int) (w : World) (h : Sys w m s c) (hN : 0 < m.N) :
    Calls Tryd.prog 17 #[.pointer (some ⟨m.X, 0, none⟩), .int .i64 0] w fun e w' => e = .returned (.bool (s.l 0).done) ∧ w = w' := done_at m s c 0 w h hN
/-- The relation of the loop over the words. -/
def WdRel (ww : World) (j : Value) (wr2 : World) : Prop := ∃ (j' n : Nat), j' ≤ 3 ∧ j = .int .i64 j' ∧ wr2 = ww.drewN n
/-- The arguments' boxes. -/
structure Boxes (w : World) (b3 b4 : Nat) (a b : Int) : Prop where
  c3 : w.cell? ⟨b3, 1, none⟩ = some (.int .i64 a)
  c4 : w.cell? ⟨b4, 1, none⟩ = some (.int .i64 b)
/-- The relation of the loop over the picks. -/
def ApRel (w0 : World) (m1 m2 : Mc) (a b : Int) (L : Nat) (i : Value) (wr : World) : Prop :=
  ∃ (k : Nat) (s1 s2 : Sy) (c1 c2 : Int), k ≤ L ∧ k ≤ 100 ∧ i = .int .i64 k ∧ Two w0 m1 m2 s1 s2 c1 c2 wr ∧ ApInv s1 s2 a b ∧ (0 ≤ c1 ∧ c1 ≤ k) ∧ (0 ≤ c2 ∧ c2 ≤ k)
set_option maxHeartbeats 8000000 in
set_option maxRecDepth 100000 in
theorem walk_apart (P : Option Addr) (L cp : Nat) (k0 a m0 k1 b m1' : Int) (q : Nat → Int) (w : World) (hG : GOk w) (hk0 : 0 ≤ k0 ∧ k0 < 256) (hk1 : 0 ≤ k1 ∧ k1 < 256) (hP : ArgN .i64 w.heap.size w P L q) (_ : L ≤ 1000000000000000) :
    Calls Tryd.prog 8 #[.agg #[.int .u8 k0, .int .i64 a, .int .i64 m0], .agg #[.int .u8 k1, .int .i64 b, .int .i64 m1'], .slice P L cp] w fun e w' => e = .returned (.bool true) ∧ Below w.heap.size w w' := by
  have hB00 : Below w.heap.size w ((w.alloc (.cells #[.int .u8 k0, .int .i64 a, .int .i64 m0] 39)).alloc (.cells #[.int .u8 k1, .int .i64 b, .int .i64 m1'] 39)) := ((Below.refl _ _).alloc (Nat.le_refl _) _).alloc (by simp) _
  have hG0 := hG.keep hB00
  have hz0 : ((w.alloc (.cells #[.int .u8 k0, .int .i64 a, .int .i64 m0] 39)).alloc (.cells #[.int .u8 k1, .int .i64 b, .int .i64 m1'] 39)).heap.size = w.heap.size + 2 := by simp
  have hbx : Boxes ((w.alloc (.cells #[.int .u8 k0, .int .i64 a, .int .i64 m0] 39)).alloc (.cells #[.int .u8 k1, .int .i64 b, .int .i64 m1'] 39)) w.heap.size (w.heap.size + 1) a b := ⟨al_cell (al_new _ _ _ 1 _ rfl rfl), al_new _ _ _ 1 _ (by simp) rfl⟩
  have HB0 := Lib.hid hB00
  have HG := Lib.hid hG0
  have HZ := Lib.hid hz0
  have HBX := Lib.hid hbx
  have HK0 := Lib.hid hk0
  have HK1 := Lib.hid hk1
  have HP := Lib.hid hP
  clear hG hB00 hG0 hz0 hbx hk0 hk1 hP
  have HL0 := Lib.hid (fun W (h : Below ((w.alloc (.cells #[.int .u8 k0, .int .i64 a, .int .i64 m0] 39)).alloc (.cells #[.int .u8 k1, .int .i64 b, .int .i64 m1'] 39)).heap.size ((w.alloc (.cells #[.int .u8 k0, .int .i64 a, .int .i64 m0] 39)).alloc (.cells #[.int .u8 k1, .int .i64 b, .int .i64 m1'] 39)) W) => show (W.cell? ⟨w.heap.size, 0, none⟩ = some (.int .u8 k0) ∧ W.cell? ⟨w.heap.size, 1, none⟩ = some (.int .i64 a) ∧ W.cell? ⟨w.heap.size, 2, none⟩ = some (.int .i64 m0)) ∧ (W.cell? ⟨w.heap.size + 1, 0, none⟩ = some (.int .u8 k1) ∧ W.cell? ⟨w.heap.size + 1, 1, none⟩ = some (.int .i64 b) ∧ W.cell? ⟨w.heap.size + 1, 2, none⟩ = some (.int .i64 m1')) from
    ⟨⟨kept (al_cell (al_new _ _ _ 0 _ rfl rfl)) h, kept (al_cell (al_new _ _ _ 1 _ rfl rfl)) h, kept (al_cell (al_new _ _ _ 2 _ rfl rfl)) h⟩, kept (al_new _ _ _ 0 _ (by simp) rfl) h, kept (al_new _ _ _ 1 _ (by simp) rfl) h, kept (al_new _ _ _ 2 _ (by simp) rfl) h⟩)
  go_enter Tryd.func8, Tryd.ntmps8
  go_wp2_with fail
  generalize hW0 : ((w.alloc (.cells #[.int .u8 k0, .int .i64 a, .int .i64 m0] 39)).alloc (.cells #[.int .u8 k1, .int .i64 b, .int .i64 m1'] 39)) = w0 at *
  clear hW0
  with_reducible refine (new_one 3 (by omega) (by omega) 3 rfl _).mono ?_
  rintro e w1 ⟨g1, b1, rfl, hM1, hg1, hb1, hB1⟩
  have HM1 := Lib.hid hM1
  have HI1 := Lib.hid (And.intro hg1 hb1)
  have HB1 := Lib.hid hB1
  clear hM1 hg1 hb1 hB1
  go_wp2_with fail
  with_reducible refine (new_one 3 (by omega) (by omega) 3 rfl _).mono ?_
  rintro e w2 ⟨g2, b2, rfl, hM2, hg2, hb2, hB2⟩
  have HM2 := Lib.hid hM2
  have HI2 := Lib.hid (And.intro hg2 hb2)
  have HB2 := Lib.hid hB2
  clear hM2 hg2 hb2 hB2
  go_wp2_with fail
  with_reducible refine (awake_any _ ((HG.out.keep HB1.out).keep HB2.out)).mono ?_
  rintro e w3 ⟨rfl, hB3⟩
  have HB3 := Lib.hid hB3
  clear hB3
  have HB03 := Lib.hid ((HB1.out.trans (HB2.out.mono HB1.out.size)).trans (HB3.out.mono (by have := HB1.out.size; have := HB2.out.size; omega)))
  obtain ⟨⟨z0, z1, z2⟩, x0, x1, x2⟩ := HL0.out w3 HB03.out
  by_cases hab : a = b
  · subst hab
    clear HBX HL0
    go_wp2_with fail
    with_reducible refine (awake_any _ (HG.out.keep HB03.out)).mono ?_
    rintro e w4 ⟨rfl, hB4⟩
    have HB4 := Lib.hid hB4
    clear hB4
    go_wp2_with fail
    go_ret
    exact ⟨rfl, (HB0.out.trans (HB03.out.mono (by have := HB0.out.size; omega))).trans (HB4.out.mono (by have := HB0.out.size; have := HB03.out.size; omega))⟩
  · have hab2 : (a == b) = false := by simpa using hab
    have HAB := Lib.hid hab
    clear hab
    go_wp2_with fail
    with_reducible refine (task_any k0 a m0 _ HK0.out).mono ?_
    rintro e w4 ⟨B1, he, hb1, hT1, hBn1⟩
    simp only [dV, tk0] at he
    subst he
    have HTK1 := Lib.hid (And.intro hb1 hT1)
    have HBT1 := Lib.hid hBn1
    have HBW1 := Lib.hid (HB03.out.trans (hBn1.mono (by have := HB03.out.size; omega)))
    clear hb1 hT1 hBn1
    clear z0 z1 z2 x0 x1 x2
    have HA1 := Lib.hid (HBW1.out.alloc HBW1.out.size (.cells #[.int .i64 (kindT k0), .int .i64 a, .int .i64 (capT m0), .bool false, .int .u32 0, .bool false] 35))
    obtain ⟨⟨z0, z1, z2⟩, x0, x1, x2⟩ := HL0.out _ HA1.out
    go_wp2_with fail
    with_reducible refine (task_any k1 b m1' _ HK1.out).mono ?_
    rintro e w5 ⟨B2, he, hb2, hT2, hBn2⟩
    simp only [dV, tk0] at he
    subst he
    have HTK2 := Lib.hid (And.intro hb2 hT2)
    have HBT2 := Lib.hid hBn2
    have HBW2 := Lib.hid (HA1.out.trans (hBn2.mono HA1.out.size))
    clear hb2 hT2 hBn2
    clear z0 z1 z2 x0 x1 x2
    have HA2 := Lib.hid (HBW2.out.alloc HBW2.out.size (.cells #[.int .i64 (kindT k1), .int .i64 b, .int .i64 (capT m1'), .bool false, .int .u32 0, .bool false] 35))
    obtain ⟨⟨z0, z1, z2⟩, x0, x1, x2⟩ := HL0.out _ HA2.out
    go_wp2_with fail
    with_reducible refine (task_any k0 a m0 _ HK0.out).mono ?_
    rintro e w6 ⟨B3, he, hb3, hT3, hBn3⟩
    simp only [dV, tk0] at he
    subst he
    have HTK3 := Lib.hid (And.intro hb3 hT3)
    have HBT3 := Lib.hid hBn3
    have HBW3 := Lib.hid (HA2.out.trans (hBn3.mono HA2.out.size))
    clear hb3 hT3 hBn3
    clear z0 z1 z2 x0 x1 x2
    have HA3 := Lib.hid (HBW3.out.alloc HBW3.out.size (.cells #[.int .i64 (kindT k0), .int .i64 a, .int .i64 (capT m0), .bool false, .int .u32 0, .bool false] 35))
    obtain ⟨⟨z0, z1, z2⟩, x0, x1, x2⟩ := HL0.out _ HA3.out
    go_wp2_with fail
    have HA := Lib.hid (fun W (o : Obj) => (Below.refl W.heap.size W).alloc (Nat.le_refl _) o)
    with_reducible refine (new_mach g1 _ 2 _ _ _ (vals_at (w6.heap.size + 1) (w6.alloc (.cells #[.int .i64 (kindT k0), .int .i64 a, .int .i64 (capT m0), .bool false, .int .u32 0, .bool false] 35)) (by simp) [tv (kindT k0) B1, tv (kindT k1) B2] 32) (fun i hi => one_two _ _ _ i hi) (by omega)).mono ?_
    rintro e4 w7 hN1
    have hN1' := hN1
    obtain ⟨X1, _, _, _, _, rfl, _⟩ := hN1'
    go_wp2_with fail
    with_reducible refine (new_mach g2 _ 1 _ _ _ (vals_lit w7 [tv (kindT k0) B3] 32) (fun i hi => one_one _ _ i hi) (by omega)).mono ?_
    rintro e5 w8 hN2
    obtain ⟨m1, m2, he1, he2, rfl, rfl, hbb1, hbb2, hnn, hTw⟩ := ap_two (w0 := w0) (HG.out.keep HB03.out) (six_of HG.out) ((HM1.out.keep HB2.out).keep HB3.out) (HM2.out.keep HB3.out) HB03.out (by have := HI1.out; have := HI2.out; have := HM1.out.ltg; have := HM1.out.row.lt; have := HB1.out.size; omega) rfl rfl rfl rfl
      (HTK1.out.2.keep (HA.out _ (.cells #[.int .i64 (kindT k0), .int .i64 a, .int .i64 (capT m0), .bool false, .int .u32 0, .bool false] 35))) HTK1.out.1 (below_any HBT1.out HBT1.out.size (HA.out _ _))
      (HTK2.out.2.keep (HA.out _ (.cells #[.int .i64 (kindT k1), .int .i64 b, .int .i64 (capT m1'), .bool false, .int .u32 0, .bool false] 35))) HTK2.out.1 (below_any HBT2.out HBT2.out.size (HA.out _ _))
      (HTK3.out.2.keep (HA.out _ (.cells #[.int .i64 (kindT k0), .int .i64 a, .int .i64 (capT m0), .bool false, .int .u32 0, .bool false] 35))) HTK3.out.1 (below_any HBT3.out HBT3.out.size (HA.out _ _))
      (HA.out _ _) hN1 (HA.out _ _) hN2
    subst he2
    injection he1 with he1
    injection he1 with he1
    injection he1 with he1
    injection he1 with he1
    subst he1
    have HTW := Lib.hid hTw
    have HNN := Lib.hid hnn
    have HAP : Hid (ApInv ⟨fun i => if i = 0 then tk0 (kindT k0) a (capT m0) else tk0 (kindT k1) b (capT m1'), fun _ => 0⟩ ⟨fun _ => tk0 (kindT k0) a (capT m0), fun _ => 0⟩ a b) := Lib.hid ⟨rfl, rfl, rfl, fun _ _ _ => rfl, fun _ _ _ _ => rfl, fun _ _ _ => rfl⟩
    clear hN1 hN2 hTw hnn hbb1 hbb2 HTK1 HTK2 HTK3 HBT1 HBT2 HBT3 HM1 HM2 HI1 HI2
    go_wp2_with fail
    clear z0 z1 z2 x0 x1 x2 HA1 HA2 HA3 HA
    go_loopw [19] (fun i wr => ApRel w0 m1 m2 a b L i wr) (fun i _ => 100 - (intOf i).toNat)
    case atStart => exact ⟨0, _, _, 0, 0, Nat.zero_le _, by omega, rfl, HTW.out, HAP.out, by omega, by omega⟩
    case round =>
      obtain ⟨k, s1, s2, c1, c2, hk1, hk2, rfl, hTw, hAp, hc1, hc2⟩ := hrel
      have HTk := Lib.hid hTw
      have HAk := Lib.hid hAp
      have HCk := Lib.hid (And.intro hc1 hc2)
      clear hTw hAp hc1 hc2
      by_cases hlt : k < L
      · by_cases hlt2 : k < 100
        · have hPw := HP.out.keep (HB0.out.trans (HTk.out.bel.mono HB0.out.size))
          obtain ⟨bq, oq, rfl⟩ := hPw.head hlt
          have hcell := hPw.cell hlt
          obtain ⟨y, hy⟩ : ∃ y, y = q k := ⟨_, rfl⟩
          rw [← hy] at hcell
          have HY := Lib.hid hy
          clear hy hPw
          have hpk := pick_any m1 s1 c1 y wr HTk.out.a (by have := HCk.out; omega)
          rw [HNN.out.1, HNN.out.2.2.1] at hpk
          obtain ⟨d, hd⟩ : ∃ d, d = s1.err 2 y := ⟨_, rfl⟩
          rw [← hd] at hpk
          have HPk := Lib.hid hpk
          have HDD := Lib.hid hd
          clear hpk hd
          go_wp2_with fail
          with_reducible refine HPk.out.mono ?_
          rintro e w9 ⟨rfl, hs⟩
          obtain ⟨c1', q1, q2, hT⟩ := HTk.out.one hs
          have HC1 : Hid (0 ≤ c1' ∧ c1' ≤ k + 1) := Lib.hid (by have := HCk.out; omega)
          have HT := Lib.hid hT
          have hcell := (HP.out.keep (HB0.out.trans (hT.bel.mono HB0.out.size))).cell hlt
          rw [← HY.out] at hcell
          have HAI := Lib.hid (HAk.out.pick HAB.out y)
          clear hs q1 q2 hT
          by_cases hy0 : y = 0
          · subst hy0
            have hf : s2.follow 0 = s2.pick 3 0 := by unfold Sy.follow; rw [if_pos rfl]
            have HAI2 : Hid (ApInv (s1.pickI 3 2 0) (s2.pick 3 0) a b) := Lib.hid (by rw [← hf]; exact HAI.out)
            have hpk := pick_any m2 s2 c2 0 w9 HT.out.b (by have := HCk.out; omega)
            rw [HNN.out.2.1, HNN.out.2.2.2, ← HAk.out.err, ← HDD.out] at hpk
            have HPk2 := Lib.hid hpk
            clear hpk hf
            have hdd : (d != d) = false := by simp
            go_wp2_with fail
            with_reducible refine HPk2.out.mono ?_
            rintro e w10 ⟨rfl, hs⟩
            obtain ⟨c2', q1, q2, hT⟩ := HT.out.two hs
            have HC2 : Hid (0 ≤ c2' ∧ c2' ≤ k + 1) := Lib.hid (by have := HCk.out; omega)
            have HT := Lib.hid hT
            have HAI : Hid (ApInv (s1.pickI 3 2 0) (s2.pickI 3 1 0) a b) := HAI2
            clear hs q1 q2 hT
            have hwd := words_any m1.g m1.b 3 _ _ _ (by have h := HT.out.a.mem; rw [HNN.out.1] at h; exact h) (by omega)
            have HWd := Lib.hid hwd
            clear hwd
            go_wp2_with fail
            with_reducible refine HWd.out.mono ?_
            rintro e wv ⟨d1, rfl, hO1, hd1, hBv⟩
            have HT2 := Lib.hid (HT.out.keep hBv)
            have HO1 := Lib.hid hO1
            clear hO1 hd1 hBv HT
            have hwd := words_any m2.g m2.b 3 _ _ _ (by have h := HT2.out.b.mem; rw [HNN.out.2.1] at h; exact h) (by omega)
            have HWd := Lib.hid hwd
            clear hwd
            go_wp2_with fail
            with_reducible refine HWd.out.mono ?_
            rintro e ww ⟨d2, rfl, hO2, hd2, hBw⟩
            have HT3 := Lib.hid (HT2.out.keep hBw)
            have HO1 : Hid (OwnU ww d1 3 _) := Lib.hid (HO1.out.of_block (hBw.block _ HO1.out.lt))
            have HO2 := Lib.hid hO2
            clear hO2 hd2 hBw HT2
            go_wp2_with fail
            go_loopw [23] (fun j wr2 => WdRel ww j wr2) (fun j _ => 3 - (intOf j).toNat)
            case atStart => exact ⟨0, 0, by omega, rfl, rfl⟩
            case round =>
              obtain ⟨j, n, hj, rfl, rfl⟩ := hrel
              obtain ⟨⟨_, z1, _⟩, _, x1, _⟩ := HL0.out ww HT3.out.bel
              by_cases hj3 : j < 3
              · have c1 := HO1.out.cell hj3
                have c2 := HO2.out.cell hj3
                have hj0 : (0 : Int) ≤ (j : Int) := by omega
                have hjj : (j : Int) < 3 := by omega
                have hwa := HAI.out.wa j hj3
                have hw0 := HAI.out.w0 j hj3
                have hy0 := HAI.out.y0 j hj3
                by_cases hja : (j : Int) = a
                · have e1 := hwa hja
                  rw [e1] at c1
                  have hjb : ¬ (j : Int) = b := fun e => HAB.out (hja.symm.trans e)
                  generalize Sy.f _ j = v at c1 c2
                  have HJA := Lib.hid hja
                  have hja1 : ((j : Int) == a) = true := by simpa using hja
                  have hja2 : ((j : Int) != a) = false := by simpa using hja
                  clear hwa hw0 hy0 e1 hja hjb
                  go_wp2_with fail
                  go_quiet (fail)
                  go_wp2_with fail
                  go_roundw
                  case rel => exact ⟨j + 1, _, by omega, by go_num, rfl⟩
                  case measure => simp [intOf]; omega
                · have e2 := hy0 hja
                  rw [e2] at c2
                  have hja1 : ((j : Int) == a) = false := by simpa using hja
                  have hja2 : ((j : Int) != a) = true := by simpa using hja
                  by_cases hjb : (j : Int) = b
                  · generalize Sy.f _ j = v at c1
                    have HJB := Lib.hid hjb
                    have hjb1 : ((j : Int) != b) = false := by simpa using hjb
                    clear hwa hw0 hy0 e2 hja hjb
                    go_wp2_with fail
                    go_quiet (fail)
                    go_wp2_with fail
                    go_roundw
                    case rel => exact ⟨j + 1, _, by omega, by go_num, rfl⟩
                    case measure => simp [intOf]; omega
                  · have e1 := hw0 hja hjb
                    rw [e1] at c1
                    have hjb1 : ((j : Int) != b) = true := by simpa using hjb
                    clear hwa hw0 hy0 e1 e2 hja hjb
                    go_wp2_with fail
                    go_quiet (fail)
                    go_wp2_with fail
                    go_roundw
                    case rel => exact ⟨j + 1, _, by omega, by go_num, rfl⟩
                    case measure => simp [intOf]; omega
              · obtain rfl : j = 3 := by omega
                have HT4 := Lib.hid (HT3.out.keep (below_drewN (Below.refl _ _) n))
                have hdn1 := done_zero m1 _ _ _ HT4.out.a (by have := HNN.out; omega)
                have hdn2 := done_zero m2 _ _ _ HT4.out.b (by have := HNN.out; omega)
                rw [HAI.out.same] at hdn1
                generalize (Sy.l _ 0).done = d at hdn1 hdn2
                have HD1 := Lib.hid hdn1
                have HD2 := Lib.hid hdn2
                clear hdn1 hdn2 z1 x1
                go_wp2_with fail
                with_reducible refine HD1.out.mono ?_
                rintro e w' ⟨rfl, rfl⟩
                go_wp2_with fail
                with_reducible refine HD2.out.mono ?_
                rintro e w' ⟨rfl, rfl⟩
                go_wp2_with fail
                go_roundw
                case rel => exact ⟨k + 1, _, _, _, _, by omega, by omega, by go_num, HT4.out, HAI.out, by have := HC1.out; have := HC2.out; omega, by have := HC1.out; have := HC2.out; omega⟩
                case measure => simp [intOf]; omega
          · have hy1 : (y == 0) = false := by simpa using hy0
            have hf : s2.follow y = s2 := by unfold Sy.follow; rw [if_neg hy0]
            have HAI : Hid (ApInv (s1.pickI 3 2 y) s2 a b) := Lib.hid (by have := HAI.out; rw [hf] at this; exact this)
            have HC2 : Hid (0 ≤ c2 ∧ c2 ≤ k + 1) := Lib.hid (by have := HCk.out; omega)
            clear hf
            have hwd := words_any m1.g m1.b 3 _ _ _ (by have h := HT.out.a.mem; rw [HNN.out.1] at h; exact h) (by omega)
            have HWd := Lib.hid hwd
            clear hwd
            go_wp2_with fail
            with_reducible refine HWd.out.mono ?_
            rintro e wv ⟨d1, rfl, hO1, hd1, hBv⟩
            have HT2 := Lib.hid (HT.out.keep hBv)
            have HO1 := Lib.hid hO1
            clear hO1 hd1 hBv HT
            have hwd := words_any m2.g m2.b 3 _ _ _ (by have h := HT2.out.b.mem; rw [HNN.out.2.1] at h; exact h) (by omega)
            have HWd := Lib.hid hwd
            clear hwd
            go_wp2_with fail
            with_reducible refine HWd.out.mono ?_
            rintro e ww ⟨d2, rfl, hO2, hd2, hBw⟩
            have HT3 := Lib.hid (HT2.out.keep hBw)
            have HO1 : Hid (OwnU ww d1 3 _) := Lib.hid (HO1.out.of_block (hBw.block _ HO1.out.lt))
            have HO2 := Lib.hid hO2
            clear hO2 hd2 hBw HT2
            go_wp2_with fail
            go_loopw [23] (fun j wr2 => WdRel ww j wr2) (fun j _ => 3 - (intOf j).toNat)
            case atStart => exact ⟨0, 0, by omega, rfl, rfl⟩
            case round =>
              obtain ⟨j, n, hj, rfl, rfl⟩ := hrel
              obtain ⟨⟨_, z1, _⟩, _, x1, _⟩ := HL0.out ww HT3.out.bel
              by_cases hj3 : j < 3
              · have c1 := HO1.out.cell hj3
                have c2 := HO2.out.cell hj3
                have hj0 : (0 : Int) ≤ (j : Int) := by omega
                have hjj : (j : Int) < 3 := by omega
                have hwa := HAI.out.wa j hj3
                have hw0 := HAI.out.w0 j hj3
                have hy0 := HAI.out.y0 j hj3
                by_cases hja : (j : Int) = a
                · have e1 := hwa hja
                  rw [e1] at c1
                  have hjb : ¬ (j : Int) = b := fun e => HAB.out (hja.symm.trans e)
                  generalize Sy.f _ j = v at c1 c2
                  have HJA := Lib.hid hja
                  have hja1 : ((j : Int) == a) = true := by simpa using hja
                  have hja2 : ((j : Int) != a) = false := by simpa using hja
                  clear hwa hw0 hy0 e1 hja hjb
                  go_wp2_with fail
                  go_quiet (fail)
                  go_wp2_with fail
                  go_roundw
                  case rel => exact ⟨j + 1, _, by omega, by go_num, rfl⟩
                  case measure => simp [intOf]; omega
                · have e2 := hy0 hja
                  rw [e2] at c2
                  have hja1 : ((j : Int) == a) = false := by simpa using hja
                  have hja2 : ((j : Int) != a) = true := by simpa using hja
                  by_cases hjb : (j : Int) = b
                  · generalize Sy.f _ j = v at c1
                    have HJB := Lib.hid hjb
                    have hjb1 : ((j : Int) != b) = false := by simpa using hjb
                    clear hwa hw0 hy0 e2 hja hjb
                    go_wp2_with fail
                    go_quiet (fail)
                    go_wp2_with fail
                    go_roundw
                    case rel => exact ⟨j + 1, _, by omega, by go_num, rfl⟩
                    case measure => simp [intOf]; omega
                  · have e1 := hw0 hja hjb
                    rw [e1] at c1
                    have hjb1 : ((j : Int) != b) = true := by simpa using hjb
                    clear hwa hw0 hy0 e1 e2 hja hjb
                    go_wp2_with fail
                    go_quiet (fail)
                    go_wp2_with fail
                    go_roundw
                    case rel => exact ⟨j + 1, _, by omega, by go_num, rfl⟩
                    case measure => simp [intOf]; omega
              · obtain rfl : j = 3 := by omega
                have HT4 := Lib.hid (HT3.out.keep (below_drewN (Below.refl _ _) n))
                have hdn1 := done_zero m1 _ _ _ HT4.out.a (by have := HNN.out; omega)
                have hdn2 := done_zero m2 _ _ _ HT4.out.b (by have := HNN.out; omega)
                rw [HAI.out.same] at hdn1
                generalize (Sy.l _ 0).done = d at hdn1 hdn2
                have HD1 := Lib.hid hdn1
                have HD2 := Lib.hid hdn2
                clear hdn1 hdn2 z1 x1
                go_wp2_with fail
                with_reducible refine HD1.out.mono ?_
                rintro e w' ⟨rfl, rfl⟩
                go_wp2_with fail
                with_reducible refine HD2.out.mono ?_
                rintro e w' ⟨rfl, rfl⟩
                go_wp2_with fail
                go_roundw
                case rel => exact ⟨k + 1, _, _, _, _, by omega, by omega, by go_num, HT4.out, HAI.out, by have := HC1.out; have := HC2.out; omega, by have := HC1.out; have := HC2.out; omega⟩
                case measure => simp [intOf]; omega
        · have hk100 : ¬ (k : Int) < 100 := by omega
          go_wp2_with fail
          go_ret
          exact ⟨rfl, HB0.out.trans (HTk.out.bel.mono HB0.out.size)⟩
      · have hkL : ¬ (k : Int) < L := by omega
        go_wp2_with fail
        go_ret
        exact ⟨rfl, HB0.out.trans (HTk.out.bel.mono HB0.out.size)⟩
end Go.Proofs.YtdhanenbcjmfkaaDoor
