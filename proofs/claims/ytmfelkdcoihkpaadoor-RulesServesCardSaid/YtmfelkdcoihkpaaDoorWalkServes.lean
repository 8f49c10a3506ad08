/-
  The walk of RulesServes.
-/
import Derived.Test.YtmfelkdcoihkpaaDoorTaken
namespace Go.Proofs.YtmfelkdcoihkpaaDoor
open Go.RowKit Go.Stop

theorem neq39 (a0 a1 a2 a3 b0 b1 b2 b3 : Int) (w : World) : (binOp .neq 39 (.agg #[.int .u16 a0, .int .u16 a1, .int .u8 a2, .int .u8 a3]) (.agg #[.int .u16 b0, .int .u16 b1, .int .u8 b2, .int .u8 b3])).run Tryd.prog w = .ok (.bool (!decide (((a0, a1, a2, a3) : WinA) = (b0, b1, b2, b3)))) w := by
  have hS : Tryd.prog.underlying 39 = some (.struct (Tryd.prog.fieldsOf 39)) := by kernel_rfl
  have hp : Tryd.prog.stoodInHeld 39 = false := by kernel_rfl
  have u1 := Tryd.underlying22
  have u2 := Tryd.underlying5
  rw [run_neq_struct, show (10000 : Nat) = 9999 + 1 from rfl, run_equalIn_agg w 9999 39 _ _ hS hp]
  simp only [Program.fieldsOf, Tryd.underlying39]
  go_simp
  by_cases h0 : a0 = b0 <;> by_cases h1 : a1 = b1 <;> by_cases h2 : a2 = b2 <;> by_cases h3 : a3 = b3 <;> simp [h0, h1, h2, h3]

def S1 (w : World) (P : PlanA) (L : PlanL) (n : Nat) (i : Value) (wr : World) : Prop :=
  ∃ c : Nat, c ≤ n ∧ i = .int .i64 c ∧ PB wr w.heap.size P L ∧ Below w.heap.size w wr
def S2 (w : World) (P : PlanA) (L : PlanL) (V : Nat) (v : WinA) (n : Nat) (i : Value) (wr : World) : Prop :=
  ∃ c : Nat, c ≤ n ∧ i = .int .i64 c ∧ PB wr w.heap.size P L ∧ WB wr V v ∧ Below w.heap.size w wr

set_option maxHeartbeats 64000000 in
set_option maxRecDepth 100000 in
theorem walk_serves (P : PlanA) (L : PlanL) (t : Int) (w : World) (hG : GOk w) (hP : PlanAt w P L) (hO : POk P L) (ht : 0 ≤ t ∧ t ≤ 65535) :
    Calls Tryd.prog 6 #[planV P L, .int .u16 t] w fun e w' => e = .returned (.bool true) ∧ Below w.heap.size w w' := by
  have h0 := hG.lt
  have HAW := Lib.hid (fun W (hB : Below w.heap.size w W) => awake_any W (hG.below hB h0))
  have HF := Lib.hid (fun W (hB : Below w.heap.size w W) => few_any P L W (hP.keep hB) hO)
  have HC := Lib.hid (fun W (hB : Below w.heap.size w W) => check_any P L W (hP.keep hB) hO)
  have HP := Lib.hid hP
  have HO := Lib.hid hO
  have hpv : planV P L = .agg #[.int .u16 P.1, .slice L.a1 P.2.1.length L.c1, .slice L.a2 P.2.2.1.length L.c2, .slice L.a3 P.2.2.2.1.length L.c3, .slice L.a4 P.2.2.2.2.length L.c4] := rfl
  rw [hpv] at HF HC ⊢
  have HB0 : Hid (Below w.heap.size w (w.alloc (.cells #[.int .u16 P.1, .slice L.a1 P.2.1.length L.c1, .slice L.a2 P.2.2.1.length L.c2, .slice L.a3 P.2.2.2.1.length L.c3, .slice L.a4 P.2.2.2.2.length L.c4] 28))) := (Below.refl _ _).alloc (Nat.le_refl _) _
  have HPB0 : Hid (PB (w.alloc (.cells #[.int .u16 P.1, .slice L.a1 P.2.1.length L.c1, .slice L.a2 P.2.2.1.length L.c2, .slice L.a3 P.2.2.2.1.length L.c3, .slice L.a4 P.2.2.2.2.length L.c4] 28)) w.heap.size P L) := PB.new w P.1 P.2.1 P.2.2.1 P.2.2.2.1 P.2.2.2.2 L.a1 L.c1 L.a2 L.c2 L.a3 L.c3 L.a4 L.c4
  clear hpv hG hP hO
  have hnn := fun W => run_neq_nil_nil_at (P := Tryd.prog) (w := W) 35 (by kernel_rfl)
  have hni := fun W v => run_neq_iface_nil (P := Tryd.prog) (w := W) 35 (by kernel_rfl) 57 v
  go_enter Tryd.func6, Tryd.ntmps6
  go_wp2_with fail
  refine (HF.out _ HB0.out).mono ?_
  rintro e w1 ⟨⟨bb, rfl⟩, hB⟩
  have HB1 := Lib.hid (below_two HB0.out hB)
  have HPB1 := Lib.hid (HPB0.out.keep hB)
  clear hB
  cases bb
  · go_wp2_with fail
    refine (HAW.out _ HB1.out).mono ?_
    rintro e w2 ⟨rfl, hB⟩
    have HB2 := Lib.hid hB
    clear hB
    go_wp2_with fail
    go_ret
    exact ⟨rfl, below_two HB1.out HB2.out⟩
  · go_wp2_with fail
    refine (HAW.out _ HB1.out).mono ?_
    rintro e w2 ⟨rfl, hB⟩
    have HB2 := Lib.hid (below_two HB1.out hB)
    have HPB2 := Lib.hid (HPB1.out.keep hB)
    obtain ⟨k0, k1, k2, k3, k4⟩ := HPB2.out
    clear hB
    go_wp2_with fail
    refine (HC.out _ HB2.out).mono ?_
    rintro e w3 ⟨hT, hB⟩
    clear k0 k1 k2 k3 k4
    have HB3 := Lib.hid (below_two HB2.out hB)
    have HPB3 := Lib.hid (HPB2.out.keep hB)
    clear hB
    rcases hT with ⟨h0, rfl⟩ | ⟨_, q, _, rfl, _, _⟩
    · have hH := holds_of_ok h0
      have HH := Lib.hid hH
      obtain ⟨hc1, hc2⟩ := holds_cores hH
      have h64 := holds_64 hH (by omega)
      have h256 := holds_256 hH (by omega)
      have H256 := Lib.hid h256
      have hfw := HO.out.wf.1
      have hl4 := HO.out.l4
      unfold wide at hfw
      obtain ⟨fr, hfe⟩ : ∃ fr, fr = P.1 := ⟨_, rfl⟩
      obtain ⟨n1, hn1⟩ : ∃ n, n = P.2.1.length := ⟨_, rfl⟩
      obtain ⟨n2, hn2⟩ : ∃ n, n = P.2.2.1.length := ⟨_, rfl⟩
      obtain ⟨n4, hn4⟩ : ∃ n, n = P.2.2.2.2.length := ⟨_, rfl⟩
      rw [← hfe] at hfw
      rw [← hn1] at hc1 hc2
      rw [← hn2] at h64
      rw [← hn4] at hl4
      have HFE := Lib.hid hfe
      have HN1 := Lib.hid hn1
      have HN2 := Lib.hid hn2
      have HN4 := Lib.hid hn4
      clear h0 hH hfe hn1 hn2 hn4 h256
      go_wp2_with fail
      go_loopw [5] (fun i wr => S1 w P L n1 i wr) (fun i _ => n1 - (intOf i).toNat)
      case atStart => exact ⟨0, Nat.zero_le _, rfl, HPB3.out, HB3.out⟩
      case round =>
        obtain ⟨c, hc, rfl, hpb, hB⟩ := hrel
        have HPB := Lib.hid hpb
        have HB := Lib.hid hB
        obtain ⟨k0, k1, k2, k3, k4⟩ := hpb
        rw [← HFE.out] at k0
        rw [← HN1.out] at k1
        rw [← HN2.out] at k2
        rw [← HN4.out] at k4
        by_cases hlt : c < n1
        · have hlw : c < P.2.1.length := by rw [← HN1.out]; exact hlt
          obtain ⟨Pf, q1, q2⟩ := HP.out.cores
          obtain ⟨b1, o1, hA⟩ := Arr.head q1 hlw
          rw [hA] at q1 k1
          have cc := kept (Arr.at (j := 0) q1 hlw rfl) hB
          obtain ⟨hh, -⟩ := q2 c hlw
          have hwf := HO.out.wf.2.1 _ (getD_mem [] hlw)
          have hl := H256.out _ (getD_mem [] hlw)
          have HSV := Lib.hid (serves_any (Pf c).1 (Pf c).2 (P.2.1.getD c []) t wr (Arr.keep hh hB) hwf (holds_uniq HH.out HO.out.wf hlw t) (by omega))
          obtain ⟨r1, r2, r3⟩ := serves_lo (P.2.1.getD c []) t hwf
          have HIN := Lib.hid (fun h => holds_in HH.out hlw (t := t) h)
          obtain ⟨⟨a, v0, v1, v2, v3⟩, hS⟩ : ∃ S, S = servesV (P.2.1.getD c []) t := ⟨_, rfl⟩
          rw [← hS] at HSV r1 r2 HIN
          simp only [wv] at HSV
          dsimp only at r1 r2 HIN
          rw [← HN2.out, ← HFE.out] at HIN
          obtain ⟨m, hm⟩ : ∃ m, m = (P.2.1.getD c []).length := ⟨_, rfl⟩
          rw [← hm] at HSV hl
          simp only [slV, ← hm, Nat.mul_one, Nat.add_zero] at cc
          have HS := Lib.hid hS
          have HQ1 := Lib.hid q1
          have HA1 := Lib.hid hA
          have HQ2 := Lib.hid q2
          have ha2 : a < (n2 : Int) := by
            by_cases h : 0 ≤ a
            · exact (HIN.out h).1
            · omega
          have hta : (fr ≤ t ∧ a < 0) ∨ t < fr := by
            by_cases h : 0 ≤ a
            · exact .inr (HIN.out h).2
            · omega
          clear q1 q2 hA hh hB hlw hwf r3 hS hm
          go_wp2_with fail
          refine HSV.out.mono ?_
          rintro e w4 ⟨rfl, hB⟩
          have hx : Below w4.heap.size w4 (w4.alloc (.cells #[.int .u16 v0, .int .u16 v1, .int .u8 v2, .int .u8 v3] 39)) := (Below.refl _ _).alloc (Nat.le_refl _) _
          have hpb4 := (HPB.out.keep hB).keep hx
          have HPB4 := Lib.hid hpb4
          have HW4 := Lib.hid (WB.new w4 v0 v1 v2 v3)
          have HB4 := Lib.hid (below_two (below_two HB.out hB) hx)
          obtain ⟨k0, k1, k2, k3, k4⟩ := hpb4
          rw [← HFE.out] at k0
          rw [← HN1.out] at k1
          rw [← HN2.out] at k2
          rw [← HN4.out] at k4
          obtain ⟨V, hV⟩ : ∃ V, V = w4.heap.size := ⟨_, rfl⟩
          have HV := Lib.hid hV
          rw [← hV] at HW4
          clear hB hx cc hV
          by_cases ha0 : 0 ≤ a
          · have ht1 : t < fr := by omega
            clear hta
            go_wp2_with fail
            clear k0 k1 k2 k3 k4
            rw [← HV.out]
            go_loopw [8] (fun i wr => S2 w P L V (v0, v1, v2, v3) c i wr) (fun i _ => c - (intOf i).toNat)
            case atStart => exact ⟨0, Nat.zero_le _, rfl, HPB4.out, HW4.out, HB4.out⟩
            case round =>
              obtain ⟨d, hd, rfl, hpb, hwb, hB⟩ := hrel
              have HPBd := Lib.hid hpb
              have HWd := Lib.hid hwb
              have HBd := Lib.hid hB
              obtain ⟨k0, k1, k2, k3, k4⟩ := hpb
              rw [← HFE.out] at k0
              rw [← HN1.out] at k1
              rw [← HN2.out] at k2
              rw [← HN4.out] at k4
              by_cases hlt2 : d < c
              · have hlw : c < P.2.1.length := by rw [← HN1.out]; exact hlt
                have hlw2 : d < P.2.1.length := by omega
                have q1 := HQ1.out
                rw [HA1.out] at k1
                have cc := kept (Arr.at (j := 0) q1 hlw2 rfl) hB
                obtain ⟨hh, -⟩ := HQ2.out d hlw2
                have hwf := HO.out.wf.2.1 _ (getD_mem [] hlw2)
                have hl2 := H256.out _ (getD_mem [] hlw2)
                have HSV2 := Lib.hid (serves_any (Pf d).1 (Pf d).2 (P.2.1.getD d []) t wr (Arr.keep hh hB) hwf (holds_uniq HH.out HO.out.wf hlw2 t) (by omega))
                obtain ⟨s1, s2, -⟩ := serves_lo (P.2.1.getD d []) t hwf
                have hgang := fun h1 h2 => holds_gang HH.out hlt2 hlw (t := t) h1 h2
                have hap := fun i hi => holds_apart HH.out HO.out.wf hlw hlw2 (i := i) hi (t := t)
                obtain ⟨⟨b, x0, x1, x2, x3⟩, hS2⟩ : ∃ S, S = servesV (P.2.1.getD d []) t := ⟨_, rfl⟩
                rw [← hS2] at HSV2 s1 s2 hgang hap
                rw [← HS.out] at hgang hap
                simp only [wv] at HSV2
                dsimp only at s1 s2 hgang hap
                obtain ⟨m2, hm2⟩ : ∃ m, m = (P.2.1.getD d []).length := ⟨_, rfl⟩
                rw [← hm2] at HSV2 hl2
                simp only [slV, ← hm2, Nat.mul_one, Nat.add_zero] at cc
                have HAP := Lib.hid hap
                have HGA := Lib.hid hgang
                clear q1 hh hB hlw hlw2 hwf hS2 hm2 hgang hap hwb
                go_wp2_with fail
                refine HSV2.out.mono ?_
                rintro e w5 ⟨rfl, hB⟩
                have hx : Below w5.heap.size w5 (w5.alloc (.cells #[.int .u16 x0, .int .u16 x1, .int .u8 x2, .int .u8 x3] 39)) := (Below.refl _ _).alloc (Nat.le_refl _) _
                have hpb5 := (HPBd.out.keep hB).keep hx
                have HPB5 := Lib.hid hpb5
                have hw5 := (HWd.out.keep hB).keep hx
                have HW5 := Lib.hid hw5
                have HB5 := Lib.hid (below_two (below_two HBd.out hB) hx)
                obtain ⟨g0, g1, g2, g3⟩ := hw5
                dsimp only at g0 g1 g2 g3
                clear hB hx cc hpb5 k0 k1 k2 k3 k4
                by_cases hab : a = b
                · obtain ⟨hv, hg⟩ := HGA.out ha0 hab
                  subst hab
                  injection hv with h1 hv
                  injection hv with h2 hv
                  injection hv with h3 h4
                  subst h1 h2 h3 h4
                  have hne := fun W => neq39 v0 v1 v2 v3 v0 v1 v2 v3 W
                  simp only [decide_true, Bool.not_true] at hne
                  have hg' : (v3 == 0) = false := by simpa using hg
                  clear hg
                  go_wp2_with fail
                  clear g0 g1 g2 g3 hne
                  go_loopw [11] (fun i wr => S2 w P L V (v0, v1, v2, v3) n4 i wr) (fun i _ => n4 - (intOf i).toNat)
                  case atStart => exact ⟨0, Nat.zero_le _, rfl, HPB5.out, HW5.out, HB5.out⟩
                  case round =>
                    obtain ⟨i, hi, rfl, hpb, hwb, hB⟩ := hrel
                    have HPB6 := Lib.hid hpb
                    have HW6 := Lib.hid hwb
                    have HB6 := Lib.hid hB
                    obtain ⟨k0, k1, k2, k3, k4⟩ := hpb
                    rw [← HFE.out] at k0
                    rw [← HN1.out] at k1
                    rw [← HN2.out] at k2
                    rw [← HN4.out] at k4
                    by_cases hlt3 : i < n4
                    · have hlw3 : i < P.2.2.2.2.length := by rw [← HN4.out]; exact hlt3
                      obtain ⟨b4, o4, hA4⟩ := Arr.head HP.out.pairs hlw3
                      have hpa := HP.out.pairs
                      unfold SemsAt at hpa
                      rw [hA4] at hpa k4
                      have e0 := kept (Arr.at (j := 0) hpa hlw3 rfl) hB
                      have e1 := kept (Arr.at (j := 1) hpa hlw3 rfl) hB
                      obtain ⟨n1', n2'⟩ := HAP.out i hlw3
                      obtain ⟨⟨p0, p1⟩, hp⟩ : ∃ x, x = P.2.2.2.2.getD i dS := ⟨_, rfl⟩
                      obtain ⟨⟨u0, u1⟩, ⟨u2, u3⟩⟩ := HO.out.wf.2.2.2.2 _ (getD_mem dS hlw3)
                      rw [← hp] at n1' n2' u0 u1 u2 u3
                      simp only [← hp, Nat.add_zero] at e0 e1
                      dsimp only at n1' n2' u0 u1 u2 u3
                      have ii0 : (0 : Int) ≤ (i : Int) := Int.natCast_nonneg _
                      have ii1 : (i : Int) < (n4 : Int) := by omega
                      clear hpa hA4 hp hlw3 hB hwb
                      by_cases z1 : a = p0
                      · subst z1
                        have y2 : (a == p1) = false := by simpa using fun e => n1' ⟨rfl, e⟩
                        clear n1' n2'
                        go_wp2_with fail
                        go_quiet (fail)
                        go_wp2_with fail
                        go_roundw
                        case rel => exact ⟨i + 1, by omega, by go_num, HPB6.out.keep (below_drewN (Below.refl _ _) _), HW6.out.keep (below_drewN (Below.refl _ _) _), below_drewN HB6.out _⟩
                        case measure => simp [intOf]; omega
                      · have y1 : (a == p0) = false := by simpa using z1
                        by_cases z3 : a = p1
                        · subst z3
                          clear n1' n2' z1
                          go_wp2_with fail
                          go_quiet (fail)
                          go_wp2_with fail
                          go_roundw
                          case rel => exact ⟨i + 1, by omega, by go_num, HPB6.out.keep (below_drewN (Below.refl _ _) _), HW6.out.keep (below_drewN (Below.refl _ _) _), below_drewN HB6.out _⟩
                          case measure => simp [intOf]; omega
                        · have y3 : (a == p1) = false := by simpa using z3
                          clear n1' n2' z1 z3
                          go_wp2_with fail
                          go_quiet (fail)
                          go_wp2_with fail
                          go_roundw
                          case rel => exact ⟨i + 1, by omega, by go_num, HPB6.out.keep (below_drewN (Below.refl _ _) _), HW6.out.keep (below_drewN (Below.refl _ _) _), below_drewN HB6.out _⟩
                          case measure => simp [intOf]; omega
                    · obtain rfl : i = n4 := by omega
                      clear hB hwb
                      go_wp2_with fail
                      go_roundw
                      case rel => exact ⟨d + 1, by omega, by go_num, HPB6.out, HW6.out, HB6.out⟩
                      case measure => simp [intOf]; omega
                · have hab' : (a == b) = false := by simpa using hab
                  clear hab
                  go_wp2_with fail
                  clear g0 g1 g2 g3 hab'
                  go_loopw [11] (fun i wr => S2 w P L V (v0, v1, v2, v3) n4 i wr) (fun i _ => n4 - (intOf i).toNat)
                  case atStart => exact ⟨0, Nat.zero_le _, rfl, HPB5.out, HW5.out, HB5.out⟩
                  case round =>
                    obtain ⟨i, hi, rfl, hpb, hwb, hB⟩ := hrel
                    have HPB6 := Lib.hid hpb
                    have HW6 := Lib.hid hwb
                    have HB6 := Lib.hid hB
                    obtain ⟨k0, k1, k2, k3, k4⟩ := hpb
                    rw [← HFE.out] at k0
                    rw [← HN1.out] at k1
                    rw [← HN2.out] at k2
                    rw [← HN4.out] at k4
                    by_cases hlt3 : i < n4
                    · have hlw3 : i < P.2.2.2.2.length := by rw [← HN4.out]; exact hlt3
                      obtain ⟨b4, o4, hA4⟩ := Arr.head HP.out.pairs hlw3
                      have hpa := HP.out.pairs
                      unfold SemsAt at hpa
                      rw [hA4] at hpa k4
                      have e0 := kept (Arr.at (j := 0) hpa hlw3 rfl) hB
                      have e1 := kept (Arr.at (j := 1) hpa hlw3 rfl) hB
                      obtain ⟨n1', n2'⟩ := HAP.out i hlw3
                      obtain ⟨⟨p0, p1⟩, hp⟩ : ∃ x, x = P.2.2.2.2.getD i dS := ⟨_, rfl⟩
                      obtain ⟨⟨u0, u1⟩, ⟨u2, u3⟩⟩ := HO.out.wf.2.2.2.2 _ (getD_mem dS hlw3)
                      rw [← hp] at n1' n2' u0 u1 u2 u3
                      simp only [← hp, Nat.add_zero] at e0 e1
                      dsimp only at n1' n2' u0 u1 u2 u3
                      have ii0 : (0 : Int) ≤ (i : Int) := Int.natCast_nonneg _
                      have ii1 : (i : Int) < (n4 : Int) := by omega
                      clear hpa hA4 hp hlw3 hB hwb
                      by_cases z1 : a = p0
                      · subst z1
                        have y2 : (b == p1) = false := by simpa using fun e => n1' ⟨rfl, e⟩
                        by_cases z3 : a = p1
                        · subst z3
                          clear n1' n2'
                          go_wp2_with fail
                          go_quiet (fail)
                          go_wp2_with fail
                          go_roundw
                          case rel => exact ⟨i + 1, by omega, by go_num, HPB6.out.keep (below_drewN (Below.refl _ _) _), HW6.out.keep (below_drewN (Below.refl _ _) _), below_drewN HB6.out _⟩
                          case measure => simp [intOf]; omega
                        · have y3 : (a == p1) = false := by simpa using z3
                          clear n1' n2' z3
                          go_wp2_with fail
                          go_quiet (fail)
                          go_wp2_with fail
                          go_roundw
                          case rel => exact ⟨i + 1, by omega, by go_num, HPB6.out.keep (below_drewN (Below.refl _ _) _), HW6.out.keep (below_drewN (Below.refl _ _) _), below_drewN HB6.out _⟩
                          case measure => simp [intOf]; omega
                      · have y1 : (a == p0) = false := by simpa using z1
                        by_cases z3 : a = p1
                        · subst z3
                          have y4 : (b == p0) = false := by simpa using fun e => n2' ⟨rfl, e⟩
                          clear n1' n2' z1
                          go_wp2_with fail
                          go_quiet (fail)
                          go_wp2_with fail
                          go_roundw
                          case rel => exact ⟨i + 1, by omega, by go_num, HPB6.out.keep (below_drewN (Below.refl _ _) _), HW6.out.keep (below_drewN (Below.refl _ _) _), below_drewN HB6.out _⟩
                          case measure => simp [intOf]; omega
                        · have y3 : (a == p1) = false := by simpa using z3
                          clear n1' n2' z1 z3
                          go_wp2_with fail
                          go_quiet (fail)
                          go_wp2_with fail
                          go_roundw
                          case rel => exact ⟨i + 1, by omega, by go_num, HPB6.out.keep (below_drewN (Below.refl _ _) _), HW6.out.keep (below_drewN (Below.refl _ _) _), below_drewN HB6.out _⟩
                          case measure => simp [intOf]; omega
                    · obtain rfl : i = n4 := by omega
                      clear hB hwb
                      go_wp2_with fail
                      go_roundw
                      case rel => exact ⟨d + 1, by omega, by go_num, HPB6.out, HW6.out, HB6.out⟩
                      case measure => simp [intOf]; omega
              · obtain rfl : d = c := by omega
                clear hB hwb
                go_wp2_with fail
                go_roundw
                case rel => exact ⟨d + 1, by omega, by go_num, HPBd.out, HBd.out⟩
                case measure => simp [intOf]; omega
          · have ha1 : a < 0 := by omega
            clear ha0
            have hdd : decide ((0 : Int) ≤ a) = false := decide_eq_false (by omega)
            have hde : decide (a < (0 : Int)) = true := decide_eq_true ha1
            rcases hta with ⟨ht1, _⟩ | ht1
            · go_wp2_with fail
              clear k0 k1 k2 k3 k4
              rw [← HV.out]
              go_loopw [8] (fun i wr => S2 w P L V (v0, v1, v2, v3) c i wr) (fun i _ => c - (intOf i).toNat)
              case atStart => exact ⟨0, Nat.zero_le _, rfl, HPB4.out, HW4.out, HB4.out⟩
              case round =>
                obtain ⟨d, hd, rfl, hpb, hwb, hB⟩ := hrel
                have HPBd := Lib.hid hpb
                have HWd := Lib.hid hwb
                have HBd := Lib.hid hB
                obtain ⟨k0, k1, k2, k3, k4⟩ := hpb
                rw [← HFE.out] at k0
                rw [← HN1.out] at k1
                rw [← HN2.out] at k2
                rw [← HN4.out] at k4
                by_cases hlt2 : d < c
                · have hlw : c < P.2.1.length := by rw [← HN1.out]; exact hlt
                  have hlw2 : d < P.2.1.length := by omega
                  have q1 := HQ1.out
                  rw [HA1.out] at k1
                  have cc := kept (Arr.at (j := 0) q1 hlw2 rfl) hB
                  obtain ⟨hh, -⟩ := HQ2.out d hlw2
                  have hwf := HO.out.wf.2.1 _ (getD_mem [] hlw2)
                  have hl2 := H256.out _ (getD_mem [] hlw2)
                  have HSV2 := Lib.hid (serves_any (Pf d).1 (Pf d).2 (P.2.1.getD d []) t wr (Arr.keep hh hB) hwf (holds_uniq HH.out HO.out.wf hlw2 t) (by omega))
                  obtain ⟨s1, s2, -⟩ := serves_lo (P.2.1.getD d []) t hwf
                  have hgang := fun h1 h2 => holds_gang HH.out hlt2 hlw (t := t) h1 h2
                  have hap := fun i hi => holds_apart HH.out HO.out.wf hlw hlw2 (i := i) hi (t := t)
                  obtain ⟨⟨b, x0, x1, x2, x3⟩, hS2⟩ : ∃ S, S = servesV (P.2.1.getD d []) t := ⟨_, rfl⟩
                  rw [← hS2] at HSV2 s1 s2 hgang hap
                  rw [← HS.out] at hgang hap
                  simp only [wv] at HSV2
                  dsimp only at s1 s2 hgang hap
                  obtain ⟨m2, hm2⟩ : ∃ m, m = (P.2.1.getD d []).length := ⟨_, rfl⟩
                  rw [← hm2] at HSV2 hl2
                  simp only [slV, ← hm2, Nat.mul_one, Nat.add_zero] at cc
                  have HAP := Lib.hid hap
                  have HGA := Lib.hid hgang
                  clear q1 hh hB hlw hlw2 hwf hS2 hm2 hgang hap hwb
                  go_wp2_with fail
                  refine HSV2.out.mono ?_
                  rintro e w5 ⟨rfl, hB⟩
                  have hx : Below w5.heap.size w5 (w5.alloc (.cells #[.int .u16 x0, .int .u16 x1, .int .u8 x2, .int .u8 x3] 39)) := (Below.refl _ _).alloc (Nat.le_refl _) _
                  have hpb5 := (HPBd.out.keep hB).keep hx
                  have HPB5 := Lib.hid hpb5
                  have hw5 := (HWd.out.keep hB).keep hx
                  have HW5 := Lib.hid hw5
                  have HB5 := Lib.hid (below_two (below_two HBd.out hB) hx)
                  obtain ⟨g0, g1, g2, g3⟩ := hw5
                  dsimp only at g0 g1 g2 g3
                  clear hB hx cc hpb5 k0 k1 k2 k3 k4
                  go_wp2_with fail
                  clear g0 g1 g2 g3
                  go_loopw [11] (fun i wr => S2 w P L V (v0, v1, v2, v3) n4 i wr) (fun i _ => n4 - (intOf i).toNat)
                  case atStart => exact ⟨0, Nat.zero_le _, rfl, HPB5.out, HW5.out, HB5.out⟩
                  case round =>
                    obtain ⟨i, hi, rfl, hpb, hwb, hB⟩ := hrel
                    have HPB6 := Lib.hid hpb
                    have HW6 := Lib.hid hwb
                    have HB6 := Lib.hid hB
                    obtain ⟨k0, k1, k2, k3, k4⟩ := hpb
                    rw [← HFE.out] at k0
                    rw [← HN1.out] at k1
                    rw [← HN2.out] at k2
                    rw [← HN4.out] at k4
                    by_cases hlt3 : i < n4
                    · have hlw3 : i < P.2.2.2.2.length := by rw [← HN4.out]; exact hlt3
                      obtain ⟨b4, o4, hA4⟩ := Arr.head HP.out.pairs hlw3
                      have hpa := HP.out.pairs
                      unfold SemsAt at hpa
                      rw [hA4] at hpa k4
                      have e0 := kept (Arr.at (j := 0) hpa hlw3 rfl) hB
                      have e1 := kept (Arr.at (j := 1) hpa hlw3 rfl) hB
                      obtain ⟨n1', n2'⟩ := HAP.out i hlw3
                      obtain ⟨⟨p0, p1⟩, hp⟩ : ∃ x, x = P.2.2.2.2.getD i dS := ⟨_, rfl⟩
                      obtain ⟨⟨u0, u1⟩, ⟨u2, u3⟩⟩ := HO.out.wf.2.2.2.2 _ (getD_mem dS hlw3)
                      rw [← hp] at n1' n2' u0 u1 u2 u3
                      simp only [← hp, Nat.add_zero] at e0 e1
                      dsimp only at n1' n2' u0 u1 u2 u3
                      have ii0 : (0 : Int) ≤ (i : Int) := Int.natCast_nonneg _
                      have ii1 : (i : Int) < (n4 : Int) := by omega
                      clear hpa hA4 hp hlw3 hB hwb
                      have y1 : (a == p0) = false := by simp; omega
                      have y3 : (a == p1) = false := by simp; omega
                      clear n1' n2'
                      go_wp2_with fail
                      go_quiet (fail)
                      go_wp2_with fail
                      go_roundw
                      case rel => exact ⟨i + 1, by omega, by go_num, HPB6.out.keep (below_drewN (Below.refl _ _) _), HW6.out.keep (below_drewN (Below.refl _ _) _), below_drewN HB6.out _⟩
                      case measure => simp [intOf]; omega
                    · obtain rfl : i = n4 := by omega
                      clear hB hwb
                      go_wp2_with fail
                      go_roundw
                      case rel => exact ⟨d + 1, by omega, by go_num, HPB6.out, HW6.out, HB6.out⟩
                      case measure => simp [intOf]; omega
                · obtain rfl : d = c := by omega
                  clear hB hwb
                  go_wp2_with fail
                  go_roundw
                  case rel => exact ⟨d + 1, by omega, by go_num, HPBd.out, HBd.out⟩
                  case measure => simp [intOf]; omega
            · go_wp2_with fail
              clear k0 k1 k2 k3 k4
              rw [← HV.out]
              go_loopw [8] (fun i wr => S2 w P L V (v0, v1, v2, v3) c i wr) (fun i _ => c - (intOf i).toNat)
              case atStart => exact ⟨0, Nat.zero_le _, rfl, HPB4.out, HW4.out, HB4.out⟩
              case round =>
                obtain ⟨d, hd, rfl, hpb, hwb, hB⟩ := hrel
                have HPBd := Lib.hid hpb
                have HWd := Lib.hid hwb
                have HBd := Lib.hid hB
                obtain ⟨k0, k1, k2, k3, k4⟩ := hpb
                rw [← HFE.out] at k0
                rw [← HN1.out] at k1
                rw [← HN2.out] at k2
                rw [← HN4.out] at k4
                by_cases hlt2 : d < c
                · have hlw : c < P.2.1.length := by rw [← HN1.out]; exact hlt
                  have hlw2 : d < P.2.1.length := by omega
                  have q1 := HQ1.out
                  rw [HA1.out] at k1
                  have cc := kept (Arr.at (j := 0) q1 hlw2 rfl) hB
                  obtain ⟨hh, -⟩ := HQ2.out d hlw2
                  have hwf := HO.out.wf.2.1 _ (getD_mem [] hlw2)
                  have hl2 := H256.out _ (getD_mem [] hlw2)
                  have HSV2 := Lib.hid (serves_any (Pf d).1 (Pf d).2 (P.2.1.getD d []) t wr (Arr.keep hh hB) hwf (holds_uniq HH.out HO.out.wf hlw2 t) (by omega))
                  obtain ⟨s1, s2, -⟩ := serves_lo (P.2.1.getD d []) t hwf
                  have hgang := fun h1 h2 => holds_gang HH.out hlt2 hlw (t := t) h1 h2
                  have hap := fun i hi => holds_apart HH.out HO.out.wf hlw hlw2 (i := i) hi (t := t)
                  obtain ⟨⟨b, x0, x1, x2, x3⟩, hS2⟩ : ∃ S, S = servesV (P.2.1.getD d []) t := ⟨_, rfl⟩
                  rw [← hS2] at HSV2 s1 s2 hgang hap
                  rw [← HS.out] at hgang hap
                  simp only [wv] at HSV2
                  dsimp only at s1 s2 hgang hap
                  obtain ⟨m2, hm2⟩ : ∃ m, m = (P.2.1.getD d []).length := ⟨_, rfl⟩
                  rw [← hm2] at HSV2 hl2
                  simp only [slV, ← hm2, Nat.mul_one, Nat.add_zero] at cc
                  have HAP := Lib.hid hap
                  have HGA := Lib.hid hgang
                  clear q1 hh hB hlw hlw2 hwf hS2 hm2 hgang hap hwb
                  go_wp2_with fail
                  refine HSV2.out.mono ?_
                  rintro e w5 ⟨rfl, hB⟩
                  have hx : Below w5.heap.size w5 (w5.alloc (.cells #[.int .u16 x0, .int .u16 x1, .int .u8 x2, .int .u8 x3] 39)) := (Below.refl _ _).alloc (Nat.le_refl _) _
                  have hpb5 := (HPBd.out.keep hB).keep hx
                  have HPB5 := Lib.hid hpb5
                  have hw5 := (HWd.out.keep hB).keep hx
                  have HW5 := Lib.hid hw5
                  have HB5 := Lib.hid (below_two (below_two HBd.out hB) hx)
                  obtain ⟨g0, g1, g2, g3⟩ := hw5
                  dsimp only at g0 g1 g2 g3
                  clear hB hx cc hpb5 k0 k1 k2 k3 k4
                  go_wp2_with fail
                  clear g0 g1 g2 g3
                  go_loopw [11] (fun i wr => S2 w P L V (v0, v1, v2, v3) n4 i wr) (fun i _ => n4 - (intOf i).toNat)
                  case atStart => exact ⟨0, Nat.zero_le _, rfl, HPB5.out, HW5.out, HB5.out⟩
                  case round =>
                    obtain ⟨i, hi, rfl, hpb, hwb, hB⟩ := hrel
                    have HPB6 := Lib.hid hpb
                    have HW6 := Lib.hid hwb
                    have HB6 := Lib.hid hB
                    obtain ⟨k0, k1, k2, k3, k4⟩ := hpb
                    rw [← HFE.out] at k0
                    rw [← HN1.out] at k1
                    rw [← HN2.out] at k2
                    rw [← HN4.out] at k4
                    by_cases hlt3 : i < n4
                    · have hlw3 : i < P.2.2.2.2.length := by rw [← HN4.out]; exact hlt3
                      obtain ⟨b4, o4, hA4⟩ := Arr.head HP.out.pairs hlw3
                      have hpa := HP.out.pairs
                      unfold SemsAt at hpa
                      rw [hA4] at hpa k4
                      have e0 := kept (Arr.at (j := 0) hpa hlw3 rfl) hB
                      have e1 := kept (Arr.at (j := 1) hpa hlw3 rfl) hB
                      obtain ⟨n1', n2'⟩ := HAP.out i hlw3
                      obtain ⟨⟨p0, p1⟩, hp⟩ : ∃ x, x = P.2.2.2.2.getD i dS := ⟨_, rfl⟩
                      obtain ⟨⟨u0, u1⟩, ⟨u2, u3⟩⟩ := HO.out.wf.2.2.2.2 _ (getD_mem dS hlw3)
                      rw [← hp] at n1' n2' u0 u1 u2 u3
                      simp only [← hp, Nat.add_zero] at e0 e1
                      dsimp only at n1' n2' u0 u1 u2 u3
                      have ii0 : (0 : Int) ≤ (i : Int) := Int.natCast_nonneg _
                      have ii1 : (i : Int) < (n4 : Int) := by omega
                      clear hpa hA4 hp hlw3 hB hwb
                      have y1 : (a == p0) = false := by simp; omega
                      have y3 : (a == p1) = false := by simp; omega
                      clear n1' n2'
                      go_wp2_with fail
                      go_quiet (fail)
                      go_wp2_with fail
                      go_roundw
                      case rel => exact ⟨i + 1, by omega, by go_num, HPB6.out.keep (below_drewN (Below.refl _ _) _), HW6.out.keep (below_drewN (Below.refl _ _) _), below_drewN HB6.out _⟩
                      case measure => simp [intOf]; omega
                    · obtain rfl : i = n4 := by omega
                      clear hB hwb
                      go_wp2_with fail
                      go_roundw
                      case rel => exact ⟨d + 1, by omega, by go_num, HPB6.out, HW6.out, HB6.out⟩
                      case measure => simp [intOf]; omega
                · obtain rfl : d = c := by omega
                  clear hB hwb
                  go_wp2_with fail
                  go_roundw
                  case rel => exact ⟨d + 1, by omega, by go_num, HPBd.out, HBd.out⟩
                  case measure => simp [intOf]; omega
        · obtain rfl : c = n1 := by omega
          clear hB
          go_wp2_with fail
          go_ret
          exact ⟨rfl, HB.out⟩
    · go_wp2_with fail
      refine (HAW.out _ HB3.out).mono ?_
      rintro e w4 ⟨rfl, hB⟩
      have HB4 := Lib.hid hB
      clear hB
      go_wp2_with fail
      go_ret
      exact ⟨rfl, below_two HB3.out HB4.out⟩
end Go.Proofs.YtmfelkdcoihkpaaDoor
