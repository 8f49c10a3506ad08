/-
  The walk of RulesParts.
-/
import Derived.Test.YtmfelkdcoihkpaaDoorFew
import Derived.Test.YtmfelkdcoihkpaaDoorAwake
import Derived.LoopTactic
namespace Go.Proofs.YtmfelkdcoihkpaaDoor
open Go.RowKit Go.Stop

theorem holds_chan {P : PlanA} (h : Holds_ P 9) : ∀ i, i < P.2.2.2.1.length → i < 64 ∧ chanB P.2.2.1.length (P.2.2.2.1.getD i dC) = true := by
  intro i hi
  have h7 := h 7 (by omega)
  have := firstP_zero (show (firstP (chanE P) (fun c => (c : Int)) (List.range P.2.2.2.1.length)).1 = 0 from h7) i (List.mem_range.2 hi)
  unfold chanE at this
  split at this
  · assumption
  · simp at this
theorem holds_prt {P : PlanA} (h : Holds_ P 9) : ∀ i, i < P.2.2.1.length → partB (P.2.2.1.getD i dQ) = true := by
  intro i hi
  have h8 := h 8 (by omega)
  have := firstP_zero (show (firstP (partE P) (fun c => (c : Int)) (List.range P.2.2.1.length)).1 = 0 from h8) i (List.mem_range.2 hi)
  unfold partE at this
  split at this
  · assumption
  · simp at this
theorem holds_frame {P : PlanA} (h : Holds_ P 9) : P.1 ≠ 0 := by
  have := h 0 (by omega)
  simp only [ruleN, frameR] at this
  split at this
  · simp at this
  · assumption
theorem holds_cores {P : PlanA} (h : Holds_ P 9) : 1 ≤ P.2.1.length ∧ P.2.1.length ≤ 8 := by
  have := h 1 (by omega)
  simp only [ruleN, coresR] at this
  split at this
  · assumption
  · simp at this
/-- What a channel that may be is. -/
theorem chan_parts {n : Nat} {x0 x1 x2 x3 x4 x5 : Int} (h : chanB n (x0, x1, x2, x3, x4, x5) = true) :
    x1 < n ∧ x2 < n ∧ x1 ≠ x2 ∧ 1 ≤ x3 ∧ x3 ≤ 32 ∧ ((x0 = 0 ∧ x5 = 0 ∧ 1 ≤ x4 ∧ x4 ≤ 16) ∨ (x0 = 1 ∧ x4 = 0 ∧ 0 < x5)) := by
  unfold chanB depthB at h
  simp at h
  omega
theorem part_parts {q : PartA} (h : partB q = true) : q.1.length ≤ 16 ∧ q.2.1 ≤ 16 ∧ 1 ≤ q.2.2.1.length ∧ q.2.2.1.length ≤ 16 := by
  unfold partB at h
  simp at h
  omega

def CRel (w : World) (P : PlanA) (L : PlanL) (b n : Nat) (i : Value) (wr : World) : Prop :=
  ∃ k : Nat, k ≤ n ∧ i = .int .i64 k ∧ PB wr b P L ∧ Below w.heap.size w wr

set_option maxHeartbeats 16000000 in
set_option maxRecDepth 100000 in
theorem walk_parts (P : PlanA) (L : PlanL) (w : World) (hG : GOk w) (hP : PlanAt w P L) (hO : POk P L) :
    Calls Tryd.prog 7 #[planV P L] w fun e w' => e = .returned (.bool true) ∧ Below w.heap.size w w' := by
  have h0 := hG.lt
  have HAW := Lib.hid (fun W (hB : Below w.heap.size w W) => awake_any W (hG.below hB h0))
  have HF := Lib.hid (fun W (hB : Below w.heap.size w W) => few_any P L W (hP.keep hB) hO)
  have HC := Lib.hid (fun W (hB : Below w.heap.size w W) => check_any P L W (hP.keep hB) hO)
  have HP := Lib.hid hP
  have HO := Lib.hid hO
  have hpv : planV P L = .agg #[.int .u16 P.1, .slice L.a1 P.2.1.length L.c1, .slice L.a2 P.2.2.1.length L.c2, .slice L.a3 P.2.2.2.1.length L.c3, .slice L.a4 P.2.2.2.2.length L.c4] := rfl
  rw [hpv] at HF HC ⊢
  have HB0 : Hid (Below w.heap.size w (w.alloc (.cells #[.int .u16 P.1, .slice L.a1 P.2.1.length L.c1, .slice L.a2 P.2.2.1.length L.c2, .slice L.a3 P.2.2.2.1.length L.c3, .slice L.a4 P.2.2.2.2.length L.c4] 28))) := (Below.refl _ _).alloc (Nat.le_refl _) _
  have HPB0 : Hid (PB (w.alloc (.cells #[.int .u16 P.1, .slice L.a1 P.2.1.length L.c1, .slice L.a2 P.2.2.1.length L.c2, .slice L.a3 P.2.2.2.1.length L.c3, .slice L.a4 P.2.2.2.2.length L.c4] 28)) w.heap.size P L) := PB.new w P.1 P.2.1 P.2.2.1 P.2.2.2.1 P.2.2.2.2 L.a1 L.c1 L.a2 L.c2 L.a3 L.c3 L.a4 L.c4
  clear hpv hG hP hO
  have hnn := fun W => run_neq_nil_nil_at (P := Tryd.prog) (w := W) 35 (by kernel_rfl)
  have hni := fun W v => run_neq_iface_nil (P := Tryd.prog) (w := W) 35 (by kernel_rfl) 57 v
  go_enter Tryd.func7, Tryd.ntmps7
  go_wp2_with fail
  refine (HF.out _ HB0.out).mono ?_
  rintro e w1 ⟨⟨bb, rfl⟩, hB⟩
  have HB1 := Lib.hid (below_two HB0.out hB)
  have HPB1 := Lib.hid (HPB0.out.keep hB)
  clear hB
  cases bb
  · go_wp2_with fail
    refine (HAW.out _ HB1.out).mono ?_
    rintro e w2 ⟨rfl, hB⟩
    have HB2 := Lib.hid hB
    clear hB
    go_wp2_with fail
    go_ret
    exact ⟨rfl, below_two HB1.out HB2.out⟩
  · go_wp2_with fail
    refine (HAW.out _ HB1.out).mono ?_
    rintro e w2 ⟨rfl, hB⟩
    have HB2 := Lib.hid (below_two HB1.out hB)
    have HPB2 := Lib.hid (HPB1.out.keep hB)
    obtain ⟨k0, k1, k2, k3, k4⟩ := HPB2.out
    clear hB
    go_wp2_with fail
    refine (HC.out _ HB2.out).mono ?_
    rintro e w3 ⟨hT, hB⟩
    clear k0 k1 k2 k3 k4
    have HB3 := Lib.hid (below_two HB2.out hB)
    have HPB3 := Lib.hid (HPB2.out.keep hB)
    clear hB
    rcases hT with ⟨h0, rfl⟩ | ⟨_, q, _, rfl, _, _⟩
    · have hH := holds_of_ok h0
      have HH := Lib.hid hH
      obtain ⟨hc1, hc2⟩ := holds_cores hH
      have hfr := holds_frame hH
      have h64 := holds_64 hH (by omega)
      have hfw := HO.out.wf.1
      have hl3 := HO.out.l3
      have hn3 : P.2.2.2.1.length ≤ 64 := by
        rcases Nat.lt_or_ge 64 P.2.2.2.1.length with h | h
        · have := (holds_chan hH 64 h).1
          omega
        · exact h
      unfold wide at hfw
      have hfr1 : 0 < P.1 := by omega
      obtain ⟨k0, k1, k2, k3, k4⟩ := HPB3.out
      obtain ⟨fr, hfe⟩ : ∃ fr, fr = P.1 := ⟨_, rfl⟩
      obtain ⟨n1, hn1⟩ : ∃ n, n = P.2.1.length := ⟨_, rfl⟩
      obtain ⟨n2, hn2⟩ : ∃ n, n = P.2.2.1.length := ⟨_, rfl⟩
      obtain ⟨n3, hn3'⟩ : ∃ n, n = P.2.2.2.1.length := ⟨_, rfl⟩
      rw [← hfe] at hfw hfr1
      rw [← hn1] at hc1 hc2
      rw [← hn2] at h64
      rw [← hn3'] at hn3
      have HFE := Lib.hid hfe
      have HN1 := Lib.hid hn1
      have HN2 := Lib.hid hn2
      have HN3 := Lib.hid hn3'
      rw [← HFE.out] at k0
      rw [← HN1.out] at k1
      rw [← HN2.out] at k2
      rw [← HN3.out] at k3
      clear h0 hH hfr hl3 hfe hn1 hn2 hn3'
      go_wp2_with fail
      clear k0 k1 k2 k3 k4
      go_loopw [4] (fun i wr => CRel w P L w.heap.size n3 i wr) (fun i _ => n3 - (intOf i).toNat)
      case atStart => exact ⟨0, Nat.zero_le _, rfl, HPB3.out, HB3.out⟩
      case round =>
        obtain ⟨k, hk, rfl, hpb, hB⟩ := hrel
        have HPB := Lib.hid hpb
        have HB := Lib.hid hB
        obtain ⟨k0, k1, k2, k3, k4⟩ := hpb
        rw [← HFE.out] at k0
        rw [← HN1.out] at k1
        rw [← HN2.out] at k2
        rw [← HN3.out] at k3
        by_cases hlt : k < n3
        · have hlw : k < P.2.2.2.1.length := by rw [← HN3.out]; exact hlt
          obtain ⟨b3, o3, hA⟩ := Arr.head HP.out.chans hlw
          have hch := HP.out.chans
          unfold ChansAt at hch
          rw [hA] at hch k3
          have d0 := kept (Arr.at (j := 0) hch hlw rfl) hB
          have d1 := kept (Arr.at (j := 1) hch hlw rfl) hB
          have d2 := kept (Arr.at (j := 2) hch hlw rfl) hB
          have d3 := kept (Arr.at (j := 3) hch hlw rfl) hB
          have d4 := kept (Arr.at (j := 4) hch hlw rfl) hB
          have d5 := kept (Arr.at (j := 5) hch hlw rfl) hB
          obtain ⟨-, hcb⟩ := holds_chan HH.out k hlw
          obtain ⟨⟨x0, x1, x2, x3, x4, x5⟩, hx⟩ : ∃ x, x = P.2.2.2.1.getD k dC := ⟨_, rfl⟩
          have hwf := HO.out.wf.2.2.2.1 _ (getD_mem dC hlw)
          rw [← hx] at hcb hwf
          rw [← HN2.out] at hcb
          obtain ⟨f1, f2, f3, f4, f5, hor⟩ := chan_parts hcb
          obtain ⟨⟨u0, -⟩, ⟨u1, -⟩, ⟨u2, -⟩, -, ⟨u4, -⟩, ⟨u5, -⟩⟩ := hwf
          dsimp only at u0 u1 u2 u4 u5
          have f3' : (x1 == x2) = false := by simpa using f3
          simp only [← hx, Nat.add_zero] at d0 d1 d2 d3 d4 d5
          have hpn := HPB.out.alloc (.cells #[.int .u8 x0, .int .u8 x1, .int .u8 x2, .int .u8 x3, .int .u8 x4, .int .u16 x5] 48)
          have HPN := Lib.hid hpn
          have HBN := Lib.hid (below_two hB ((Below.refl _ _).alloc (Nat.le_refl _) (.cells #[.int .u8 x0, .int .u8 x1, .int .u8 x2, .int .u8 x3, .int .u8 x4, .int .u16 x5] 48)))
          clear f3 hcb hx hch hA hB hlw hpn
          rcases hor with ⟨rfl, rfl, g1, g2⟩ | ⟨rfl, rfl, g1⟩
          · have g3 : (x4 == 0) = false := by simp; omega
            go_wp2_with fail
            go_roundw
            case rel => exact ⟨k + 1, by omega, by go_num, HPN.out, HBN.out⟩
            case measure => simp [intOf]; omega
          · have g3 : (x5 == 0) = false := by simp; omega
            go_wp2_with fail
            go_roundw
            case rel => exact ⟨k + 1, by omega, by go_num, HPN.out, HBN.out⟩
            case measure => simp [intOf]; omega
        · obtain rfl : k = n3 := by omega
          clear hB
          go_wp2_with fail
          clear k0 k1 k2 k3 k4
          go_loopw [6] (fun i wr => CRel w P L w.heap.size n2 i wr) (fun i _ => n2 - (intOf i).toNat)
          case atStart => exact ⟨0, Nat.zero_le _, rfl, HPB.out, HB.out⟩
          case round =>
            obtain ⟨j, hj, rfl, hpb, hB⟩ := hrel
            have HPB' := Lib.hid hpb
            have HB' := Lib.hid hB
            obtain ⟨k0, k1, k2, k3, k4⟩ := hpb
            rw [← HFE.out] at k0
            rw [← HN1.out] at k1
            rw [← HN2.out] at k2
            rw [← HN3.out] at k3
            by_cases hlt : j < n2
            · have hlw : j < P.2.2.1.length := by rw [← HN2.out]; exact hlt
              obtain ⟨Sf, Qf, q1, -⟩ := HP.out.parts
              obtain ⟨b3, o3, hA⟩ := Arr.head q1 hlw
              rw [hA] at q1 k2
              have d0 := kept (Arr.at (j := 0) q1 hlw rfl) hB
              have d1 := kept (Arr.at (j := 1) q1 hlw rfl) hB
              have d2 := kept (Arr.at (j := 2) q1 hlw rfl) hB
              have d3 := kept (Arr.at (j := 3) q1 hlw rfl) hB
              have d4 := kept (Arr.at (j := 4) q1 hlw rfl) hB
              have d5 := kept (Arr.at (j := 5) q1 hlw rfl) hB
              obtain ⟨g1, g2, g3, g4⟩ := part_parts (holds_prt HH.out j hlw)
              obtain ⟨⟨x0, x1, x2, x3, x4, x5⟩, hx⟩ : ∃ x, x = P.2.2.1.getD j dQ := ⟨_, rfl⟩
              rw [← hx] at g1 g2 g3 g4
              dsimp only at g1 g2 g3 g4
              simp only [← hx, Nat.add_zero, slV] at d0 d1 d2 d3 d4 d5
              obtain ⟨m0, hm0⟩ : ∃ n, n = x0.length := ⟨_, rfl⟩
              obtain ⟨m2, hm2⟩ : ∃ n, n = x2.length := ⟨_, rfl⟩
              rw [← hm0] at g1 d0
              rw [← hm2] at g3 g4 d2
              have HPN := Lib.hid (HPB'.out.alloc (.cells #[.slice (Sf j).1 m0 (Sf j).2, .int .u8 x1, .slice (Qf j).1 m2 (Qf j).2, .int .u8 x3, .int .u8 x4, .int .u8 x5] 54))
              have HBN := Lib.hid (below_two hB ((Below.refl _ _).alloc (Nat.le_refl _) (.cells #[.slice (Sf j).1 m0 (Sf j).2, .int .u8 x1, .slice (Qf j).1 m2 (Qf j).2, .int .u8 x3, .int .u8 x4, .int .u8 x5] 54)))
              clear hx hA hB hlw q1 hm0 hm2
              go_wp2_with fail
              go_roundw
              case rel => exact ⟨j + 1, by omega, by go_num, HPN.out, HBN.out⟩
              case measure => simp [intOf]; omega
            · obtain rfl : j = n2 := by omega
              clear hB
              go_wp2_with fail
              go_ret
              exact ⟨ret_b (by first | rfl | (simp; done) | (simp; omega)), HB'.out⟩
    · go_wp2_with fail
      refine (HAW.out _ HB3.out).mono ?_
      rintro e w4 ⟨rfl, hB⟩
      have HB4 := Lib.hid hB
      clear hB
      go_wp2_with fail
      go_ret
      exact ⟨rfl, below_two HB3.out HB4.out⟩
end Go.Proofs.YtmfelkdcoihkpaaDoor
