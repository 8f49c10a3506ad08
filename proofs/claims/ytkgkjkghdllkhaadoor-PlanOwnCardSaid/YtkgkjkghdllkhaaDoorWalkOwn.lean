/-
  PlanOwn, walked: a copy that is changed changes nothing else.
-/
import Derived.Test.YtkgkjkghdllkhaaDoorOwnA
import Derived.Test.YtkgkjkghdllkhaaDoorWalkSames
namespace Go.Proofs.YtkgkjkghdllkhaaDoor
open Go.RowKit

def SRel (lo hi : Nat) (W0 : World) (n : Nat) (i : Value) (wr : World) : Prop := ∃ k : Nat, k ≤ n ∧ i = .int .i64 k ∧ Soft lo hi W0 wr

set_option maxHeartbeats 8000000 in
set_option maxRecDepth 100000 in
theorem walk_own (P : PlanA) (L : PlanL) (w : World) (hG : GOk w) (hP : PlanAt w P L) (h1 : P.2.1.length ≤ 140737488355328) (h2 : P.2.2.1.length ≤ 140737488355328) (h3 : P.2.2.2.1.length ≤ 140737488355328) (h4 : P.2.2.2.2.length ≤ 140737488355328)
    (h5 : ∀ ws ∈ P.2.1, ws.length ≤ 140737488355328) (h6 : ∀ q ∈ P.2.2.1, q.1.length ≤ 140737488355328 ∧ q.2.2.1.length ≤ 140737488355328) :
    Calls Tryd.prog 9 #[planV P L] w fun e w' => e = .returned (.bool true) ∧ Below w.heap.size w w' := by
  have h0 := hG.lt
  have HAW := Lib.hid (fun W (hB : Below w.heap.size w W) => awake_any W (hG.below hB h0))
  have HF := Lib.hid (fun W (hB : Below w.heap.size w W) => few_any P L W (hP.keep hB) h1 h2 h3 h4 h5 h6)
  have HC := Lib.hid (fun W (hB : Below w.heap.size w W) hf => cp.copy_any P L W (hP.keep hB) hf)
  have HS5 := Lib.hid (fun W K (hB : Below w.heap.size w W) (hK : PlanAt W P K) => same_eq P L K W (hP.keep hB) hK h1 h2 h3 h4 h5 h6)
  have hpv : ∀ (P : PlanA) (L : PlanL), planV P L = .agg #[.int .u16 P.1, .slice L.a1 P.2.1.length L.c1, .slice L.a2 P.2.2.1.length L.c2, .slice L.a3 P.2.2.2.1.length L.c3, .slice L.a4 P.2.2.2.2.length L.c4] := fun _ _ => rfl
  have HPV := Lib.hid hpv
  simp only [hpv] at HF HC HS5 ⊢
  have hB0 : Below w.heap.size w (w.alloc (.cells #[.int .u16 P.1, .slice L.a1 P.2.1.length L.c1, .slice L.a2 P.2.2.1.length L.c2, .slice L.a3 P.2.2.2.1.length L.c3, .slice L.a4 P.2.2.2.2.length L.c4] 28)) := (Below.refl _ _).alloc (Nat.le_refl _) _
  have hpb : PB (w.alloc (.cells #[.int .u16 P.1, .slice L.a1 P.2.1.length L.c1, .slice L.a2 P.2.2.1.length L.c2, .slice L.a3 P.2.2.2.1.length L.c3, .slice L.a4 P.2.2.2.2.length L.c4] 28)) w.heap.size P L := ⟨by simp, by simp, by simp, by simp, by simp⟩
  have HB0 := Lib.hid hB0
  have HPB0 := Lib.hid hpb
  have H5 := Lib.hid h5
  have H6 := Lib.hid h6
  clear hpv hB0 hpb hP hG h5 h6
  go_enter Tryd.func9, Tryd.ntmps9
  go_wp2_with fail
  refine (HF.out _ HB0.out).mono ?_
  rintro e w1 ⟨hB, bb, rfl, hall⟩
  have HB1 := Lib.hid (below_two HB0.out hB)
  have HPB1 := Lib.hid (HPB0.out.keep hB)
  have HALL := Lib.hid hall
  have HLT := Lib.hid (show w.heap.size < w1.heap.size by have := hB.size; simp at this; omega)
  clear hB hall
  cases bb
  · go_wp2_with fail
    refine (HAW.out _ HB1.out).mono ?_
    rintro e w2 ⟨rfl, hB⟩
    have HB2 := Lib.hid hB
    clear hB
    go_wp2_with fail
    go_ret
    exact ⟨rfl, below_two HB1.out HB2.out⟩
  have HFW := Lib.hid (few_lists (HALL.out rfl))
  go_upto_region 3 with fail
  go_cut [3, 4] (fun x y W => OwnR P L w x y W)
  case first =>
    refine wp_region_held_drew (S := fun W => Below w1.heap.size w1 W) (by kernel_rfl) (Below.refl _ _).drew (fun hHeld => ?_)
    refine wpAnyH_take (i := 0) (oi := { dst := some 16, op := Op.load 28 (Operand.tmp 1), type := 28, pos := "law.go:129", after := #[], guard := none }) (v := ?_) rfl (by kernel_rfl) (by kernel_rfl) (by kernel_rfl) (fun _ _ _ h => h) (Or.inl ⟨by rfl, ?_⟩) (by assumption) ?_
    rotate_left
    · intro W0 hSw
      try dsimp only at hSw
      obtain ⟨k0, k1, k2, k3, k4⟩ := HPB1.out.keep hSw
      go_simp
      try with_reducible rfl
    try simp only [Act.put, List.setIfInBounds_toArray, List.set_cons_zero, List.set_cons_succ]
    refine wpAnyH_take (i := 2) (oi := { dst := some 18, op := Op.load 28 (Operand.tmp 1), type := 28, pos := "law.go:129", after := #[], guard := none }) (v := ?_) rfl (by kernel_rfl) (by kernel_rfl) (by kernel_rfl) (fun _ _ _ h => h) (Or.inl ⟨by rfl, ?_⟩) (by assumption) ?_
    rotate_left
    · intro W0 hSw
      try dsimp only at hSw
      obtain ⟨k0, k1, k2, k3, k4⟩ := HPB1.out.keep hSw
      go_simp
      try with_reducible rfl
    try simp only [Act.put, List.setIfInBounds_toArray, List.set_cons_zero, List.set_cons_succ]
    have hs : w1.drew.heap.size = w1.heap.size := rfl
    obtain ⟨v0, hv⟩ : ∃ W, W = w1.drew := ⟨_, rfl⟩
    rw [← hv] at hs hHeld
    rw [← hv]
    clear hv
    have HB_v0 := Lib.hid hHeld
    have HS0 := Lib.hid hs
    clear hs hHeld
    refine wpAnyH_ready (rs := [1, 4, 5]) (by kernel_rfl) (by simp) ?_
    refine AllReadyH.cons rfl (fun K hK => ?_) ?_
    · go_simp
      refine (HC.out _ (below_two HB1.out HB_v0.out) HFW.out).mono ?_
      rintro e v1 ⟨Ka, rfl, hC, hb⟩
      rw [HPV.out]
      go_wp2_with fail
      refine hK.out _ _ ?hS (fun hHeld => ?_)
      case hS => exact below_two HB_v0.out hb
      clear hK K hHeld
      try simp only [Act.put, List.setIfInBounds_toArray, List.set_cons_zero, List.set_cons_succ]
      have hc := CpIn.new hC
      have hs := hb.size
      have HB_v1 := Lib.hid (below_two HB_v0.out hb)
      have HcA_v1 := Lib.hid hc
      have HS_v1 := Lib.hid hs
      clear HB_v0
      clear hb hc hs hC
      refine wpAnyH_ready (rs := [3, 4, 5]) (by kernel_rfl) (by simp) ?_
      refine AllReadyH.cons rfl (fun K hK => ?_) ?_
      · go_simp
        refine (HC.out _ (below_two HB1.out HB_v1.out) HFW.out).mono ?_
        rintro e v2 ⟨Kb, rfl, hC, hb⟩
        rw [HPV.out]
        go_wp2_with fail
        refine hK.out _ _ ?hS (fun hHeld => ?_)
        case hS => exact below_two HB_v1.out hb
        clear hK K hHeld
        try simp only [Act.put, List.setIfInBounds_toArray, List.set_cons_zero, List.set_cons_succ]
        have hc := CpIn.new hC
        have hs := hb.size
        have HB_v2 := Lib.hid (below_two HB_v1.out hb)
        have HcA_v2 := Lib.hid (CpIn.keep HcA_v1.out hb)
        have HcB_v2 := Lib.hid hc
        have HS_v2 := Lib.hid hs
        clear HB_v1 HcA_v1
        clear hb hc hs hC
        refine wpAnyH_ready (rs := [4, 5]) (by kernel_rfl) (by simp) ?_
        refine AllReadyH.cons rfl (fun K hK => ?_) ?_
        · go_simp
          refine hK.out _ _ ?hS (fun hHeld => ?_)
          case hS => exact below_alloc HB_v2.out _
          clear hK K hHeld
          try simp only [Act.put, List.setIfInBounds_toArray, List.set_cons_zero, List.set_cons_succ]
          have hb : Below v2.heap.size v2 (v2.alloc (.cells #[.int .u16 0, .slice none 0 0, .slice none 0 0, .slice none 0 0, .slice none 0 0] 28)) := (Below.refl _ _).alloc (Nat.le_refl _) _
          have hq : ZB (v2.alloc (.cells #[.int .u16 0, .slice none 0 0, .slice none 0 0, .slice none 0 0, .slice none 0 0] 28)) v2.heap.size := cp.QBox.new _ _ _ _ _ _
          have hs : (v2.alloc (.cells #[.int .u16 0, .slice none 0 0, .slice none 0 0, .slice none 0 0, .slice none 0 0] 28)).heap.size = v2.heap.size + 1 := by simp
          obtain ⟨v3, hv⟩ : ∃ W, W = v2.alloc (.cells #[.int .u16 0, .slice none 0 0, .slice none 0 0, .slice none 0 0, .slice none 0 0] 28) := ⟨_, rfl⟩
          rw [← hv] at hb hq hs
          rw [← hv]
          clear hv
          have HB_v3 := Lib.hid (below_two HB_v2.out hb)
          have HcA_v3 := Lib.hid (CpIn.keep HcA_v2.out hb)
          have HcB_v3 := Lib.hid (CpIn.keep HcB_v2.out hb)
          have Hb3_v3 := Lib.hid hq
          have HS_v3 := Lib.hid hs
          clear HB_v2 HcA_v2 HcB_v2
          clear hb hq hs
          refine wpAnyH_ready (rs := [5]) (by kernel_rfl) (by simp) ?_
          refine AllReadyH.cons rfl (fun K hK => ?_) ?_
          · go_simp
            refine hK.out _ _ ?hS (fun hHeld => ?_)
            case hS => exact below_alloc HB_v3.out _
            clear hK K hHeld
            try simp only [Act.put, List.setIfInBounds_toArray, List.set_cons_zero, List.set_cons_succ]
            have hb : Below v3.heap.size v3 (v3.alloc (.cells #[.int .u16 0, .slice none 0 0, .slice none 0 0, .slice none 0 0, .slice none 0 0] 28)) := (Below.refl _ _).alloc (Nat.le_refl _) _
            have hq : ZB (v3.alloc (.cells #[.int .u16 0, .slice none 0 0, .slice none 0 0, .slice none 0 0, .slice none 0 0] 28)) v3.heap.size := cp.QBox.new _ _ _ _ _ _
            have hs : (v3.alloc (.cells #[.int .u16 0, .slice none 0 0, .slice none 0 0, .slice none 0 0, .slice none 0 0] 28)).heap.size = v3.heap.size + 1 := by simp
            obtain ⟨v4, hv⟩ : ∃ W, W = v3.alloc (.cells #[.int .u16 0, .slice none 0 0, .slice none 0 0, .slice none 0 0, .slice none 0 0] 28) := ⟨_, rfl⟩
            rw [← hv] at hb hq hs
            rw [← hv]
            clear hv
            have HB_v4 := Lib.hid (below_two HB_v3.out hb)
            have Hb3_v4 := Lib.hid (cp.QBox.keep Hb3_v3.out hb)
            have HcA_v4 := Lib.hid (CpIn.keep HcA_v3.out hb)
            have HcB_v4 := Lib.hid (CpIn.keep HcB_v3.out hb)
            have Hb4_v4 := Lib.hid hq
            have HS_v4 := Lib.hid hs
            clear HB_v3 Hb3_v3 HcA_v3 HcB_v3
            clear hb hq hs
            refine wpAnyH_ready (rs := [6]) (by kernel_rfl) (by simp) ?_
            refine AllReadyH.cons rfl (fun K hK => ?_) ?_
            · obtain ⟨a0, a1, a2, a3, a4⟩ := cp.QBox.cells Hb3_v4.out
              have f0 := cp.QBox.frozen (j := 0) Hb3_v4.out
              have f1 := cp.QBox.frozen (j := 1) Hb3_v4.out
              have f2 := cp.QBox.frozen (j := 2) Hb3_v4.out
              have f3 := cp.QBox.frozen (j := 3) Hb3_v4.out
              have f4 := cp.QBox.frozen (j := 4) Hb3_v4.out
              go_simp
              have hlow : w1.heap.size ≤ v2.heap.size := by
                have := HS_v1.out
                have := HS_v2.out
                have := HS_v3.out
                have := HS_v4.out
                have := HS0.out
                omega
              have hne : v3.heap.size ≠ v2.heap.size := by
                have := HS_v1.out
                have := HS_v2.out
                have := HS_v3.out
                have := HS_v4.out
                omega
              have hnA : ¬ (v0.heap.size ≤ v2.heap.size ∧ v2.heap.size < v1.heap.size) := by
                have := HS_v1.out
                have := HS_v2.out
                have := HS_v3.out
                have := HS_v4.out
                omega
              have hnB : ¬ (v1.heap.size ≤ v2.heap.size ∧ v2.heap.size < v2.heap.size) := by
                have := HS_v1.out
                have := HS_v2.out
                have := HS_v3.out
                have := HS_v4.out
                omega
              have ho := chain_only v4 (v2.heap.size) P Ka
              have hq := chain_kb (P := P) (K := Ka) Hb3_v4.out
              refine hK.out _ _ ?hS (fun hHeld => ?_)
              case hS => exact only_below2 HB_v4.out ho hlow
              clear hK K hHeld
              try simp only [Act.put, List.setIfInBounds_toArray, List.set_cons_zero, List.set_cons_succ]
              obtain ⟨v5, hv⟩ : ∃ W, W = chainV v4 (v2.heap.size) P Ka := ⟨_, rfl⟩
              rw [← hv] at ho hq
              unfold chainV at hv
              rw [← hv]
              clear hv a0 a1 a2 a3 a4 f0 f1 f2 f3 f4
              have HB_v5 := Lib.hid (only_below2 HB_v4.out ho hlow)
              have Hb4_v5 := Lib.hid (QBox.only Hb4_v4.out ho hne)
              have HcA_v5 := Lib.hid (CpIn.only HcA_v4.out ho hnA)
              have HcB_v5 := Lib.hid (CpIn.only HcB_v4.out ho hnB)
              have Hb3_v5 := Lib.hid hq
              clear HB_v4 Hb3_v4 Hb4_v4 HcA_v4 HcB_v4
              clear ho hq hlow hne hnA hnB
              refine wpAnyH_ready (rs := [7]) (by kernel_rfl) (by simp) ?_
              refine AllReadyH.cons rfl (fun K hK => ?_) ?_
              · obtain ⟨a0, a1, a2, a3, a4⟩ := cp.QBox.cells Hb4_v5.out
                have f0 := cp.QBox.frozen (j := 0) Hb4_v5.out
                have f1 := cp.QBox.frozen (j := 1) Hb4_v5.out
                have f2 := cp.QBox.frozen (j := 2) Hb4_v5.out
                have f3 := cp.QBox.frozen (j := 3) Hb4_v5.out
                have f4 := cp.QBox.frozen (j := 4) Hb4_v5.out
                go_simp
                have hlow : w1.heap.size ≤ v3.heap.size := by
                  have := HS_v1.out
                  have := HS_v2.out
                  have := HS_v3.out
                  have := HS_v4.out
                  have := HS0.out
                  omega
                have hne : v2.heap.size ≠ v3.heap.size := by
                  have := HS_v1.out
                  have := HS_v2.out
                  have := HS_v3.out
                  have := HS_v4.out
                  omega
                have hnA : ¬ (v0.heap.size ≤ v3.heap.size ∧ v3.heap.size < v1.heap.size) := by
                  have := HS_v1.out
                  have := HS_v2.out
                  have := HS_v3.out
                  have := HS_v4.out
                  omega
                have hnB : ¬ (v1.heap.size ≤ v3.heap.size ∧ v3.heap.size < v2.heap.size) := by
                  have := HS_v1.out
                  have := HS_v2.out
                  have := HS_v3.out
                  have := HS_v4.out
                  omega
                have ho := chain_only v5 (v3.heap.size) P Kb
                have hq := chain_kb (P := P) (K := Kb) Hb4_v5.out
                refine hK.out _ _ ?hS (fun hHeld => ?_)
                case hS => exact only_below2 HB_v5.out ho hlow
                clear hK K hHeld
                try simp only [Act.put, List.setIfInBounds_toArray, List.set_cons_zero, List.set_cons_succ]
                obtain ⟨v6, hv⟩ : ∃ W, W = chainV v5 (v3.heap.size) P Kb := ⟨_, rfl⟩
                rw [← hv] at ho hq
                unfold chainV at hv
                rw [← hv]
                clear hv a0 a1 a2 a3 a4 f0 f1 f2 f3 f4
                have HB_v6 := Lib.hid (only_below2 HB_v5.out ho hlow)
                have Hb3_v6 := Lib.hid (QBox.only Hb3_v5.out ho hne)
                have HcA_v6 := Lib.hid (CpIn.only HcA_v5.out ho hnA)
                have HcB_v6 := Lib.hid (CpIn.only HcB_v5.out ho hnB)
                have Hb4_v6 := Lib.hid hq
                clear HB_v5 Hb3_v5 Hb4_v5 HcA_v5 HcB_v5
                clear ho hq hlow hne hnA hnB
                refine wpAnyH_done (by kernel_rfl) ?_ _
                go_wp2_with fail
                go_meet
                refine own_fin (lo := v0.heap.size) (hi := v1.heap.size) (lo2 := v1.heap.size) (hi2 := v2.heap.size) (K := Ka) (K2 := Kb) (below_two HB1.out HB_v6.out) (HPB1.out.keep HB_v6.out) ?_ Hb3_v6.out Hb4_v6.out HcA_v6.out HcB_v6.out ?_ ?_ ?_
                all_goals
                  have := HS_v1.out
                  have := HS_v2.out
                  have := HS_v3.out
                  have := HS_v4.out
                  have := HS0.out
                  have := HLT.out
                  omega
              exact AllReadyH.nil
            exact AllReadyH.nil
          exact AllReadyH.nil
        refine AllReadyH.cons rfl (fun K hK => ?_) ?_
        · go_simp
          refine hK.out _ _ ?hS (fun hHeld => ?_)
          case hS => exact below_alloc HB_v2.out _
          clear hK K hHeld
          try simp only [Act.put, List.setIfInBounds_toArray, List.set_cons_zero, List.set_cons_succ]
          have hb : Below v2.heap.size v2 (v2.alloc (.cells #[.int .u16 0, .slice none 0 0, .slice none 0 0, .slice none 0 0, .slice none 0 0] 28)) := (Below.refl _ _).alloc (Nat.le_refl _) _
          have hq : ZB (v2.alloc (.cells #[.int .u16 0, .slice none 0 0, .slice none 0 0, .slice none 0 0, .slice none 0 0] 28)) v2.heap.size := cp.QBox.new _ _ _ _ _ _
          have hs : (v2.alloc (.cells #[.int .u16 0, .slice none 0 0, .slice none 0 0, .slice none 0 0, .slice none 0 0] 28)).heap.size = v2.heap.size + 1 := by simp
          obtain ⟨v7, hv⟩ : ∃ W, W = v2.alloc (.cells #[.int .u16 0, .slice none 0 0, .slice none 0 0, .slice none 0 0, .slice none 0 0] 28) := ⟨_, rfl⟩
          rw [← hv] at hb hq hs
          rw [← hv]
          clear hv
          have HB_v7 := Lib.hid (below_two HB_v2.out hb)
          have HcA_v7 := Lib.hid (CpIn.keep HcA_v2.out hb)
          have HcB_v7 := Lib.hid (CpIn.keep HcB_v2.out hb)
          have Hb4_v7 := Lib.hid hq
          have HS_v7 := Lib.hid hs
          clear HB_v2 HcA_v2 HcB_v2
          clear hb hq hs
          refine wpAnyH_ready (rs := [4]) (by kernel_rfl) (by simp) ?_
          refine AllReadyH.cons rfl (fun K hK => ?_) ?_
          · go_simp
            refine hK.out _ _ ?hS (fun hHeld => ?_)
            case hS => exact below_alloc HB_v7.out _
            clear hK K hHeld
            try simp only [Act.put, List.setIfInBounds_toArray, List.set_cons_zero, List.set_cons_succ]
            have hb : Below v7.heap.size v7 (v7.alloc (.cells #[.int .u16 0, .slice none 0 0, .slice none 0 0, .slice none 0 0, .slice none 0 0] 28)) := (Below.refl _ _).alloc (Nat.le_refl _) _
            have hq : ZB (v7.alloc (.cells #[.int .u16 0, .slice none 0 0, .slice none 0 0, .slice none 0 0, .slice none 0 0] 28)) v7.heap.size := cp.QBox.new _ _ _ _ _ _
            have hs : (v7.alloc (.cells #[.int .u16 0, .slice none 0 0, .slice none 0 0, .slice none 0 0, .slice none 0 0] 28)).heap.size = v7.heap.size + 1 := by simp
            obtain ⟨v8, hv⟩ : ∃ W, W = v7.alloc (.cells #[.int .u16 0, .slice none 0 0, .slice none 0 0, .slice none 0 0, .slice none 0 0] 28) := ⟨_, rfl⟩
            rw [← hv] at hb hq hs
            rw [← hv]
            clear hv
            have HB_v8 := Lib.hid (below_two HB_v7.out hb)
            have Hb4_v8 := Lib.hid (cp.QBox.keep Hb4_v7.out hb)
            have HcA_v8 := Lib.hid (CpIn.keep HcA_v7.out hb)
            have HcB_v8 := Lib.hid (CpIn.keep HcB_v7.out hb)
            have Hb3_v8 := Lib.hid hq
            have HS_v8 := Lib.hid hs
            clear HB_v7 Hb4_v7 HcA_v7 HcB_v7
            clear hb hq hs
            refine wpAnyH_ready (rs := [6]) (by kernel_rfl) (by simp) ?_
            refine AllReadyH.cons rfl (fun K hK => ?_) ?_
            · obtain ⟨a0, a1, a2, a3, a4⟩ := cp.QBox.cells Hb3_v8.out
              have f0 := cp.QBox.frozen (j := 0) Hb3_v8.out
              have f1 := cp.QBox.frozen (j := 1) Hb3_v8.out
              have f2 := cp.QBox.frozen (j := 2) Hb3_v8.out
              have f3 := cp.QBox.frozen (j := 3) Hb3_v8.out
              have f4 := cp.QBox.frozen (j := 4) Hb3_v8.out
              go_simp
              have hlow : w1.heap.size ≤ v7.heap.size := by
                have := HS_v1.out
                have := HS_v2.out
                have := HS_v7.out
                have := HS_v8.out
                have := HS0.out
                omega
              have hne : v2.heap.size ≠ v7.heap.size := by
                have := HS_v1.out
                have := HS_v2.out
                have := HS_v7.out
                have := HS_v8.out
                omega
              have hnA : ¬ (v0.heap.size ≤ v7.heap.size ∧ v7.heap.size < v1.heap.size) := by
                have := HS_v1.out
                have := HS_v2.out
                have := HS_v7.out
                have := HS_v8.out
                omega
              have hnB : ¬ (v1.heap.size ≤ v7.heap.size ∧ v7.heap.size < v2.heap.size) := by
                have := HS_v1.out
                have := HS_v2.out
                have := HS_v7.out
                have := HS_v8.out
                omega
              have ho := chain_only v8 (v7.heap.size) P Ka
              have hq := chain_kb (P := P) (K := Ka) Hb3_v8.out
              refine hK.out _ _ ?hS (fun hHeld => ?_)
              case hS => exact only_below2 HB_v8.out ho hlow
              clear hK K hHeld
              try simp only [Act.put, List.setIfInBounds_toArray, List.set_cons_zero, List.set_cons_succ]
              obtain ⟨v9, hv⟩ : ∃ W, W = chainV v8 (v7.heap.size) P Ka := ⟨_, rfl⟩
              rw [← hv] at ho hq
              unfold chainV at hv
              rw [← hv]
              clear hv a0 a1 a2 a3 a4 f0 f1 f2 f3 f4
              have HB_v9 := Lib.hid (only_below2 HB_v8.out ho hlow)
              have Hb4_v9 := Lib.hid (QBox.only Hb4_v8.out ho hne)
              have HcA_v9 := Lib.hid (CpIn.only HcA_v8.out ho hnA)
              have HcB_v9 := Lib.hid (CpIn.only HcB_v8.out ho hnB)
              have Hb3_v9 := Lib.hid hq
              clear HB_v8 Hb3_v8 Hb4_v8 HcA_v8 HcB_v8
              clear ho hq hlow hne hnA hnB
              refine wpAnyH_ready (rs := [7]) (by kernel_rfl) (by simp) ?_
              refine AllReadyH.cons rfl (fun K hK => ?_) ?_
              · obtain ⟨a0, a1, a2, a3, a4⟩ := cp.QBox.cells Hb4_v9.out
                have f0 := cp.QBox.frozen (j := 0) Hb4_v9.out
                have f1 := cp.QBox.frozen (j := 1) Hb4_v9.out
                have f2 := cp.QBox.frozen (j := 2) Hb4_v9.out
                have f3 := cp.QBox.frozen (j := 3) Hb4_v9.out
                have f4 := cp.QBox.frozen (j := 4) Hb4_v9.out
                go_simp
                have hlow : w1.heap.size ≤ v2.heap.size := by
                  have := HS_v1.out
                  have := HS_v2.out
                  have := HS_v7.out
                  have := HS_v8.out
                  have := HS0.out
                  omega
                have hne : v7.heap.size ≠ v2.heap.size := by
                  have := HS_v1.out
                  have := HS_v2.out
                  have := HS_v7.out
                  have := HS_v8.out
                  omega
                have hnA : ¬ (v0.heap.size ≤ v2.heap.size ∧ v2.heap.size < v1.heap.size) := by
                  have := HS_v1.out
                  have := HS_v2.out
                  have := HS_v7.out
                  have := HS_v8.out
                  omega
                have hnB : ¬ (v1.heap.size ≤ v2.heap.size ∧ v2.heap.size < v2.heap.size) := by
                  have := HS_v1.out
                  have := HS_v2.out
                  have := HS_v7.out
                  have := HS_v8.out
                  omega
                have ho := chain_only v9 (v2.heap.size) P Kb
                have hq := chain_kb (P := P) (K := Kb) Hb4_v9.out
                refine hK.out _ _ ?hS (fun hHeld => ?_)
                case hS => exact only_below2 HB_v9.out ho hlow
                clear hK K hHeld
                try simp only [Act.put, List.setIfInBounds_toArray, List.set_cons_zero, List.set_cons_succ]
                obtain ⟨v10, hv⟩ : ∃ W, W = chainV v9 (v2.heap.size) P Kb := ⟨_, rfl⟩
                rw [← hv] at ho hq
                unfold chainV at hv
                rw [← hv]
                clear hv a0 a1 a2 a3 a4 f0 f1 f2 f3 f4
                have HB_v10 := Lib.hid (only_below2 HB_v9.out ho hlow)
                have Hb3_v10 := Lib.hid (QBox.only Hb3_v9.out ho hne)
                have HcA_v10 := Lib.hid (CpIn.only HcA_v9.out ho hnA)
                have HcB_v10 := Lib.hid (CpIn.only HcB_v9.out ho hnB)
                have Hb4_v10 := Lib.hid hq
                clear HB_v9 Hb3_v9 Hb4_v9 HcA_v9 HcB_v9
                clear ho hq hlow hne hnA hnB
                refine wpAnyH_done (by kernel_rfl) ?_ _
                go_wp2_with fail
                go_meet
                refine own_fin (lo := v0.heap.size) (hi := v1.heap.size) (lo2 := v1.heap.size) (hi2 := v2.heap.size) (K := Ka) (K2 := Kb) (below_two HB1.out HB_v10.out) (HPB1.out.keep HB_v10.out) ?_ Hb3_v10.out Hb4_v10.out HcA_v10.out HcB_v10.out ?_ ?_ ?_
                all_goals
                  have := HS_v1.out
                  have := HS_v2.out
                  have := HS_v7.out
                  have := HS_v8.out
                  have := HS0.out
                  have := HLT.out
                  omega
              exact AllReadyH.nil
            exact AllReadyH.nil
          exact AllReadyH.nil
        exact AllReadyH.nil
      refine AllReadyH.cons rfl (fun K hK => ?_) ?_
      · go_simp
        refine hK.out _ _ ?hS (fun hHeld => ?_)
        case hS => exact below_alloc HB_v1.out _
        clear hK K hHeld
        try simp only [Act.put, List.setIfInBounds_toArray, List.set_cons_zero, List.set_cons_succ]
        have hb : Below v1.heap.size v1 (v1.alloc (.cells #[.int .u16 0, .slice none 0 0, .slice none 0 0, .slice none 0 0, .slice none 0 0] 28)) := (Below.refl _ _).alloc (Nat.le_refl _) _
        have hq : ZB (v1.alloc (.cells #[.int .u16 0, .slice none 0 0, .slice none 0 0, .slice none 0 0, .slice none 0 0] 28)) v1.heap.size := cp.QBox.new _ _ _ _ _ _
        have hs : (v1.alloc (.cells #[.int .u16 0, .slice none 0 0, .slice none 0 0, .slice none 0 0, .slice none 0 0] 28)).heap.size = v1.heap.size + 1 := by simp
        obtain ⟨v11, hv⟩ : ∃ W, W = v1.alloc (.cells #[.int .u16 0, .slice none 0 0, .slice none 0 0, .slice none 0 0, .slice none 0 0] 28) := ⟨_, rfl⟩
        rw [← hv] at hb hq hs
        rw [← hv]
        clear hv
        have HB_v11 := Lib.hid (below_two HB_v1.out hb)
        have HcA_v11 := Lib.hid (CpIn.keep HcA_v1.out hb)
        have Hb3_v11 := Lib.hid hq
        have HS_v11 := Lib.hid hs
        clear HB_v1 HcA_v1
        clear hb hq hs
        refine wpAnyH_ready (rs := [3, 5]) (by kernel_rfl) (by simp) ?_
        refine AllReadyH.cons rfl (fun K hK => ?_) ?_
        · go_simp
          refine (HC.out _ (below_two HB1.out HB_v11.out) HFW.out).mono ?_
          rintro e v12 ⟨Kb, rfl, hC, hb⟩
          rw [HPV.out]
          go_wp2_with fail
          refine hK.out _ _ ?hS (fun hHeld => ?_)
          case hS => exact below_two HB_v11.out hb
          clear hK K hHeld
          try simp only [Act.put, List.setIfInBounds_toArray, List.set_cons_zero, List.set_cons_succ]
          have hc := CpIn.new hC
          have hs := hb.size
          have HB_v12 := Lib.hid (below_two HB_v11.out hb)
          have Hb3_v12 := Lib.hid (cp.QBox.keep Hb3_v11.out hb)
          have HcA_v12 := Lib.hid (CpIn.keep HcA_v11.out hb)
          have HcB_v12 := Lib.hid hc
          have HS_v12 := Lib.hid hs
          clear HB_v11 Hb3_v11 HcA_v11
          clear hb hc hs hC
          refine wpAnyH_ready (rs := [5]) (by kernel_rfl) (by simp) ?_
          refine AllReadyH.cons rfl (fun K hK => ?_) ?_
          · go_simp
            refine hK.out _ _ ?hS (fun hHeld => ?_)
            case hS => exact below_alloc HB_v12.out _
            clear hK K hHeld
            try simp only [Act.put, List.setIfInBounds_toArray, List.set_cons_zero, List.set_cons_succ]
            have hb : Below v12.heap.size v12 (v12.alloc (.cells #[.int .u16 0, .slice none 0 0, .slice none 0 0, .slice none 0 0, .slice none 0 0] 28)) := (Below.refl _ _).alloc (Nat.le_refl _) _
            have hq : ZB (v12.alloc (.cells #[.int .u16 0, .slice none 0 0, .slice none 0 0, .slice none 0 0, .slice none 0 0] 28)) v12.heap.size := cp.QBox.new _ _ _ _ _ _
            have hs : (v12.alloc (.cells #[.int .u16 0, .slice none 0 0, .slice none 0 0, .slice none 0 0, .slice none 0 0] 28)).heap.size = v12.heap.size + 1 := by simp
            obtain ⟨v13, hv⟩ : ∃ W, W = v12.alloc (.cells #[.int .u16 0, .slice none 0 0, .slice none 0 0, .slice none 0 0, .slice none 0 0] 28) := ⟨_, rfl⟩
            rw [← hv] at hb hq hs
            rw [← hv]
            clear hv
            have HB_v13 := Lib.hid (below_two HB_v12.out hb)
            have Hb3_v13 := Lib.hid (cp.QBox.keep Hb3_v12.out hb)
            have HcA_v13 := Lib.hid (CpIn.keep HcA_v12.out hb)
            have HcB_v13 := Lib.hid (CpIn.keep HcB_v12.out hb)
            have Hb4_v13 := Lib.hid hq
            have HS_v13 := Lib.hid hs
            clear HB_v12 Hb3_v12 HcA_v12 HcB_v12
            clear hb hq hs
            refine wpAnyH_ready (rs := [6]) (by kernel_rfl) (by simp) ?_
            refine AllReadyH.cons rfl (fun K hK => ?_) ?_
            · obtain ⟨a0, a1, a2, a3, a4⟩ := cp.QBox.cells Hb3_v13.out
              have f0 := cp.QBox.frozen (j := 0) Hb3_v13.out
              have f1 := cp.QBox.frozen (j := 1) Hb3_v13.out
              have f2 := cp.QBox.frozen (j := 2) Hb3_v13.out
              have f3 := cp.QBox.frozen (j := 3) Hb3_v13.out
              have f4 := cp.QBox.frozen (j := 4) Hb3_v13.out
              go_simp
              have hlow : w1.heap.size ≤ v1.heap.size := by
                have := HS_v1.out
                have := HS_v11.out
                have := HS_v12.out
                have := HS_v13.out
                have := HS0.out
                omega
              have hne : v12.heap.size ≠ v1.heap.size := by
                have := HS_v1.out
                have := HS_v11.out
                have := HS_v12.out
                have := HS_v13.out
                omega
              have hnA : ¬ (v0.heap.size ≤ v1.heap.size ∧ v1.heap.size < v1.heap.size) := by
                have := HS_v1.out
                have := HS_v11.out
                have := HS_v12.out
                have := HS_v13.out
                omega
              have hnB : ¬ (v11.heap.size ≤ v1.heap.size ∧ v1.heap.size < v12.heap.size) := by
                have := HS_v1.out
                have := HS_v11.out
                have := HS_v12.out
                have := HS_v13.out
                omega
              have ho := chain_only v13 (v1.heap.size) P Ka
              have hq := chain_kb (P := P) (K := Ka) Hb3_v13.out
              refine hK.out _ _ ?hS (fun hHeld => ?_)
              case hS => exact only_below2 HB_v13.out ho hlow
              clear hK K hHeld
              try simp only [Act.put, List.setIfInBounds_toArray, List.set_cons_zero, List.set_cons_succ]
              obtain ⟨v14, hv⟩ : ∃ W, W = chainV v13 (v1.heap.size) P Ka := ⟨_, rfl⟩
              rw [← hv] at ho hq
              unfold chainV at hv
              rw [← hv]
              clear hv a0 a1 a2 a3 a4 f0 f1 f2 f3 f4
              have HB_v14 := Lib.hid (only_below2 HB_v13.out ho hlow)
              have Hb4_v14 := Lib.hid (QBox.only Hb4_v13.out ho hne)
              have HcA_v14 := Lib.hid (CpIn.only HcA_v13.out ho hnA)
              have HcB_v14 := Lib.hid (CpIn.only HcB_v13.out ho hnB)
              have Hb3_v14 := Lib.hid hq
              clear HB_v13 Hb3_v13 Hb4_v13 HcA_v13 HcB_v13
              clear ho hq hlow hne hnA hnB
              refine wpAnyH_ready (rs := [7]) (by kernel_rfl) (by simp) ?_
              refine AllReadyH.cons rfl (fun K hK => ?_) ?_
              · obtain ⟨a0, a1, a2, a3, a4⟩ := cp.QBox.cells Hb4_v14.out
                have f0 := cp.QBox.frozen (j := 0) Hb4_v14.out
                have f1 := cp.QBox.frozen (j := 1) Hb4_v14.out
                have f2 := cp.QBox.frozen (j := 2) Hb4_v14.out
                have f3 := cp.QBox.frozen (j := 3) Hb4_v14.out
                have f4 := cp.QBox.frozen (j := 4) Hb4_v14.out
                go_simp
                have hlow : w1.heap.size ≤ v12.heap.size := by
                  have := HS_v1.out
                  have := HS_v11.out
                  have := HS_v12.out
                  have := HS_v13.out
                  have := HS0.out
                  omega
                have hne : v1.heap.size ≠ v12.heap.size := by
                  have := HS_v1.out
                  have := HS_v11.out
                  have := HS_v12.out
                  have := HS_v13.out
                  omega
                have hnA : ¬ (v0.heap.size ≤ v12.heap.size ∧ v12.heap.size < v1.heap.size) := by
                  have := HS_v1.out
                  have := HS_v11.out
                  have := HS_v12.out
                  have := HS_v13.out
                  omega
                have hnB : ¬ (v11.heap.size ≤ v12.heap.size ∧ v12.heap.size < v12.heap.size) := by
                  have := HS_v1.out
                  have := HS_v11.out
                  have := HS_v12.out
                  have := HS_v13.out
                  omega
                have ho := chain_only v14 (v12.heap.size) P Kb
                have hq := chain_kb (P := P) (K := Kb) Hb4_v14.out
                refine hK.out _ _ ?hS (fun hHeld => ?_)
                case hS => exact only_below2 HB_v14.out ho hlow
                clear hK K hHeld
                try simp only [Act.put, List.setIfInBounds_toArray, List.set_cons_zero, List.set_cons_succ]
                obtain ⟨v15, hv⟩ : ∃ W, W = chainV v14 (v12.heap.size) P Kb := ⟨_, rfl⟩
                rw [← hv] at ho hq
                unfold chainV at hv
                rw [← hv]
                clear hv a0 a1 a2 a3 a4 f0 f1 f2 f3 f4
                have HB_v15 := Lib.hid (only_below2 HB_v14.out ho hlow)
                have Hb3_v15 := Lib.hid (QBox.only Hb3_v14.out ho hne)
                have HcA_v15 := Lib.hid (CpIn.only HcA_v14.out ho hnA)
                have HcB_v15 := Lib.hid (CpIn.only HcB_v14.out ho hnB)
                have Hb4_v15 := Lib.hid hq
                clear HB_v14 Hb3_v14 Hb4_v14 HcA_v14 HcB_v14
                clear ho hq hlow hne hnA hnB
                refine wpAnyH_done (by kernel_rfl) ?_ _
                go_wp2_with fail
                go_meet
                refine own_fin (lo := v0.heap.size) (hi := v1.heap.size) (lo2 := v11.heap.size) (hi2 := v12.heap.size) (K := Ka) (K2 := Kb) (below_two HB1.out HB_v15.out) (HPB1.out.keep HB_v15.out) ?_ Hb3_v15.out Hb4_v15.out HcA_v15.out HcB_v15.out ?_ ?_ ?_
                all_goals
                  have := HS_v1.out
                  have := HS_v11.out
                  have := HS_v12.out
                  have := HS_v13.out
                  have := HS0.out
                  have := HLT.out
                  omega
              exact AllReadyH.nil
            exact AllReadyH.nil
          exact AllReadyH.nil
        refine AllReadyH.cons rfl (fun K hK => ?_) ?_
        · go_simp
          refine hK.out _ _ ?hS (fun hHeld => ?_)
          case hS => exact below_alloc HB_v11.out _
          clear hK K hHeld
          try simp only [Act.put, List.setIfInBounds_toArray, List.set_cons_zero, List.set_cons_succ]
          have hb : Below v11.heap.size v11 (v11.alloc (.cells #[.int .u16 0, .slice none 0 0, .slice none 0 0, .slice none 0 0, .slice none 0 0] 28)) := (Below.refl _ _).alloc (Nat.le_refl _) _
          have hq : ZB (v11.alloc (.cells #[.int .u16 0, .slice none 0 0, .slice none 0 0, .slice none 0 0, .slice none 0 0] 28)) v11.heap.size := cp.QBox.new _ _ _ _ _ _
          have hs : (v11.alloc (.cells #[.int .u16 0, .slice none 0 0, .slice none 0 0, .slice none 0 0, .slice none 0 0] 28)).heap.size = v11.heap.size + 1 := by simp
          obtain ⟨v16, hv⟩ : ∃ W, W = v11.alloc (.cells #[.int .u16 0, .slice none 0 0, .slice none 0 0, .slice none 0 0, .slice none 0 0] 28) := ⟨_, rfl⟩
          rw [← hv] at hb hq hs
          rw [← hv]
          clear hv
          have HB_v16 := Lib.hid (below_two HB_v11.out hb)
          have Hb3_v16 := Lib.hid (cp.QBox.keep Hb3_v11.out hb)
          have HcA_v16 := Lib.hid (CpIn.keep HcA_v11.out hb)
          have Hb4_v16 := Lib.hid hq
          have HS_v16 := Lib.hid hs
          clear HB_v11 Hb3_v11 HcA_v11
          clear hb hq hs
          refine wpAnyH_ready (rs := [3]) (by kernel_rfl) (by simp) ?_
          refine AllReadyH.cons rfl (fun K hK => ?_) ?_
          · go_simp
            refine (HC.out _ (below_two HB1.out HB_v16.out) HFW.out).mono ?_
            rintro e v17 ⟨Kb, rfl, hC, hb⟩
            rw [HPV.out]
            go_wp2_with fail
            refine hK.out _ _ ?hS (fun hHeld => ?_)
            case hS => exact below_two HB_v16.out hb
            clear hK K hHeld
            try simp only [Act.put, List.setIfInBounds_toArray, List.set_cons_zero, List.set_cons_succ]
            have hc := CpIn.new hC
            have hs := hb.size
            have HB_v17 := Lib.hid (below_two HB_v16.out hb)
            have Hb3_v17 := Lib.hid (cp.QBox.keep Hb3_v16.out hb)
            have Hb4_v17 := Lib.hid (cp.QBox.keep Hb4_v16.out hb)
            have HcA_v17 := Lib.hid (CpIn.keep HcA_v16.out hb)
            have HcB_v17 := Lib.hid hc
            have HS_v17 := Lib.hid hs
            clear HB_v16 Hb3_v16 Hb4_v16 HcA_v16
            clear hb hc hs hC
            refine wpAnyH_ready (rs := [6]) (by kernel_rfl) (by simp) ?_
            refine AllReadyH.cons rfl (fun K hK => ?_) ?_
            · obtain ⟨a0, a1, a2, a3, a4⟩ := cp.QBox.cells Hb3_v17.out
              have f0 := cp.QBox.frozen (j := 0) Hb3_v17.out
              have f1 := cp.QBox.frozen (j := 1) Hb3_v17.out
              have f2 := cp.QBox.frozen (j := 2) Hb3_v17.out
              have f3 := cp.QBox.frozen (j := 3) Hb3_v17.out
              have f4 := cp.QBox.frozen (j := 4) Hb3_v17.out
              go_simp
              have hlow : w1.heap.size ≤ v1.heap.size := by
                have := HS_v1.out
                have := HS_v11.out
                have := HS_v16.out
                have := HS_v17.out
                have := HS0.out
                omega
              have hne : v11.heap.size ≠ v1.heap.size := by
                have := HS_v1.out
                have := HS_v11.out
                have := HS_v16.out
                have := HS_v17.out
                omega
              have hnA : ¬ (v0.heap.size ≤ v1.heap.size ∧ v1.heap.size < v1.heap.size) := by
                have := HS_v1.out
                have := HS_v11.out
                have := HS_v16.out
                have := HS_v17.out
                omega
              have hnB : ¬ (v16.heap.size ≤ v1.heap.size ∧ v1.heap.size < v17.heap.size) := by
                have := HS_v1.out
                have := HS_v11.out
                have := HS_v16.out
                have := HS_v17.out
                omega
              have ho := chain_only v17 (v1.heap.size) P Ka
              have hq := chain_kb (P := P) (K := Ka) Hb3_v17.out
              refine hK.out _ _ ?hS (fun hHeld => ?_)
              case hS => exact only_below2 HB_v17.out ho hlow
              clear hK K hHeld
              try simp only [Act.put, List.setIfInBounds_toArray, List.set_cons_zero, List.set_cons_succ]
              obtain ⟨v18, hv⟩ : ∃ W, W = chainV v17 (v1.heap.size) P Ka := ⟨_, rfl⟩
              rw [← hv] at ho hq
              unfold chainV at hv
              rw [← hv]
              clear hv a0 a1 a2 a3 a4 f0 f1 f2 f3 f4
              have HB_v18 := Lib.hid (only_below2 HB_v17.out ho hlow)
              have Hb4_v18 := Lib.hid (QBox.only Hb4_v17.out ho hne)
              have HcA_v18 := Lib.hid (CpIn.only HcA_v17.out ho hnA)
              have HcB_v18 := Lib.hid (CpIn.only HcB_v17.out ho hnB)
              have Hb3_v18 := Lib.hid hq
              clear HB_v17 Hb3_v17 Hb4_v17 HcA_v17 HcB_v17
              clear ho hq hlow hne hnA hnB
              refine wpAnyH_ready (rs := [7]) (by kernel_rfl) (by simp) ?_
              refine AllReadyH.cons rfl (fun K hK => ?_) ?_
              · obtain ⟨a0, a1, a2, a3, a4⟩ := cp.QBox.cells Hb4_v18.out
                have f0 := cp.QBox.frozen (j := 0) Hb4_v18.out
                have f1 := cp.QBox.frozen (j := 1) Hb4_v18.out
                have f2 := cp.QBox.frozen (j := 2) Hb4_v18.out
                have f3 := cp.QBox.frozen (j := 3) Hb4_v18.out
                have f4 := cp.QBox.frozen (j := 4) Hb4_v18.out
                go_simp
                have hlow : w1.heap.size ≤ v11.heap.size := by
                  have := HS_v1.out
                  have := HS_v11.out
                  have := HS_v16.out
                  have := HS_v17.out
                  have := HS0.out
                  omega
                have hne : v1.heap.size ≠ v11.heap.size := by
                  have := HS_v1.out
                  have := HS_v11.out
                  have := HS_v16.out
                  have := HS_v17.out
                  omega
                have hnA : ¬ (v0.heap.size ≤ v11.heap.size ∧ v11.heap.size < v1.heap.size) := by
                  have := HS_v1.out
                  have := HS_v11.out
                  have := HS_v16.out
                  have := HS_v17.out
                  omega
                have hnB : ¬ (v16.heap.size ≤ v11.heap.size ∧ v11.heap.size < v17.heap.size) := by
                  have := HS_v1.out
                  have := HS_v11.out
                  have := HS_v16.out
                  have := HS_v17.out
                  omega
                have ho := chain_only v18 (v11.heap.size) P Kb
                have hq := chain_kb (P := P) (K := Kb) Hb4_v18.out
                refine hK.out _ _ ?hS (fun hHeld => ?_)
                case hS => exact only_below2 HB_v18.out ho hlow
                clear hK K hHeld
                try simp only [Act.put, List.setIfInBounds_toArray, List.set_cons_zero, List.set_cons_succ]
                obtain ⟨v19, hv⟩ : ∃ W, W = chainV v18 (v11.heap.size) P Kb := ⟨_, rfl⟩
                rw [← hv] at ho hq
                unfold chainV at hv
                rw [← hv]
                clear hv a0 a1 a2 a3 a4 f0 f1 f2 f3 f4
                have HB_v19 := Lib.hid (only_below2 HB_v18.out ho hlow)
                have Hb3_v19 := Lib.hid (QBox.only Hb3_v18.out ho hne)
                have HcA_v19 := Lib.hid (CpIn.only HcA_v18.out ho hnA)
                have HcB_v19 := Lib.hid (CpIn.only HcB_v18.out ho hnB)
                have Hb4_v19 := Lib.hid hq
                clear HB_v18 Hb3_v18 Hb4_v18 HcA_v18 HcB_v18
                clear ho hq hlow hne hnA hnB
                refine wpAnyH_done (by kernel_rfl) ?_ _
                go_wp2_with fail
                go_meet
                refine own_fin (lo := v0.heap.size) (hi := v1.heap.size) (lo2 := v16.heap.size) (hi2 := v17.heap.size) (K := Ka) (K2 := Kb) (below_two HB1.out HB_v19.out) (HPB1.out.keep HB_v19.out) ?_ Hb3_v19.out Hb4_v19.out HcA_v19.out HcB_v19.out ?_ ?_ ?_
                all_goals
                  have := HS_v1.out
                  have := HS_v11.out
                  have := HS_v16.out
                  have := HS_v17.out
                  have := HS0.out
                  have := HLT.out
                  omega
              exact AllReadyH.nil
            exact AllReadyH.nil
          exact AllReadyH.nil
        exact AllReadyH.nil
      refine AllReadyH.cons rfl (fun K hK => ?_) ?_
      · go_simp
        refine hK.out _ _ ?hS (fun hHeld => ?_)
        case hS => exact below_alloc HB_v1.out _
        clear hK K hHeld
        try simp only [Act.put, List.setIfInBounds_toArray, List.set_cons_zero, List.set_cons_succ]
        have hb : Below v1.heap.size v1 (v1.alloc (.cells #[.int .u16 0, .slice none 0 0, .slice none 0 0, .slice none 0 0, .slice none 0 0] 28)) := (Below.refl _ _).alloc (Nat.le_refl _) _
        have hq : ZB (v1.alloc (.cells #[.int .u16 0, .slice none 0 0, .slice none 0 0, .slice none 0 0, .slice none 0 0] 28)) v1.heap.size := cp.QBox.new _ _ _ _ _ _
        have hs : (v1.alloc (.cells #[.int .u16 0, .slice none 0 0, .slice none 0 0, .slice none 0 0, .slice none 0 0] 28)).heap.size = v1.heap.size + 1 := by simp
        obtain ⟨v20, hv⟩ : ∃ W, W = v1.alloc (.cells #[.int .u16 0, .slice none 0 0, .slice none 0 0, .slice none 0 0, .slice none 0 0] 28) := ⟨_, rfl⟩
        rw [← hv] at hb hq hs
        rw [← hv]
        clear hv
        have HB_v20 := Lib.hid (below_two HB_v1.out hb)
        have HcA_v20 := Lib.hid (CpIn.keep HcA_v1.out hb)
        have Hb4_v20 := Lib.hid hq
        have HS_v20 := Lib.hid hs
        clear HB_v1 HcA_v1
        clear hb hq hs
        refine wpAnyH_ready (rs := [3, 4]) (by kernel_rfl) (by simp) ?_
        refine AllReadyH.cons rfl (fun K hK => ?_) ?_
        · go_simp
          refine (HC.out _ (below_two HB1.out HB_v20.out) HFW.out).mono ?_
          rintro e v21 ⟨Kb, rfl, hC, hb⟩
          rw [HPV.out]
          go_wp2_with fail
          refine hK.out _ _ ?hS (fun hHeld => ?_)
          case hS => exact below_two HB_v20.out hb
          clear hK K hHeld
          try simp only [Act.put, List.setIfInBounds_toArray, List.set_cons_zero, List.set_cons_succ]
          have hc := CpIn.new hC
          have hs := hb.size
          have HB_v21 := Lib.hid (below_two HB_v20.out hb)
          have Hb4_v21 := Lib.hid (cp.QBox.keep Hb4_v20.out hb)
          have HcA_v21 := Lib.hid (CpIn.keep HcA_v20.out hb)
          have HcB_v21 := Lib.hid hc
          have HS_v21 := Lib.hid hs
          clear HB_v20 Hb4_v20 HcA_v20
          clear hb hc hs hC
          refine wpAnyH_ready (rs := [4]) (by kernel_rfl) (by simp) ?_
          refine AllReadyH.cons rfl (fun K hK => ?_) ?_
          · go_simp
            refine hK.out _ _ ?hS (fun hHeld => ?_)
            case hS => exact below_alloc HB_v21.out _
            clear hK K hHeld
            try simp only [Act.put, List.setIfInBounds_toArray, List.set_cons_zero, List.set_cons_succ]
            have hb : Below v21.heap.size v21 (v21.alloc (.cells #[.int .u16 0, .slice none 0 0, .slice none 0 0, .slice none 0 0, .slice none 0 0] 28)) := (Below.refl _ _).alloc (Nat.le_refl _) _
            have hq : ZB (v21.alloc (.cells #[.int .u16 0, .slice none 0 0, .slice none 0 0, .slice none 0 0, .slice none 0 0] 28)) v21.heap.size := cp.QBox.new _ _ _ _ _ _
            have hs : (v21.alloc (.cells #[.int .u16 0, .slice none 0 0, .slice none 0 0, .slice none 0 0, .slice none 0 0] 28)).heap.size = v21.heap.size + 1 := by simp
            obtain ⟨v22, hv⟩ : ∃ W, W = v21.alloc (.cells #[.int .u16 0, .slice none 0 0, .slice none 0 0, .slice none 0 0, .slice none 0 0] 28) := ⟨_, rfl⟩
            rw [← hv] at hb hq hs
            rw [← hv]
            clear hv
            have HB_v22 := Lib.hid (below_two HB_v21.out hb)
            have Hb4_v22 := Lib.hid (cp.QBox.keep Hb4_v21.out hb)
            have HcA_v22 := Lib.hid (CpIn.keep HcA_v21.out hb)
            have HcB_v22 := Lib.hid (CpIn.keep HcB_v21.out hb)
            have Hb3_v22 := Lib.hid hq
            have HS_v22 := Lib.hid hs
            clear HB_v21 Hb4_v21 HcA_v21 HcB_v21
            clear hb hq hs
            refine wpAnyH_ready (rs := [6]) (by kernel_rfl) (by simp) ?_
            refine AllReadyH.cons rfl (fun K hK => ?_) ?_
            · obtain ⟨a0, a1, a2, a3, a4⟩ := cp.QBox.cells Hb3_v22.out
              have f0 := cp.QBox.frozen (j := 0) Hb3_v22.out
              have f1 := cp.QBox.frozen (j := 1) Hb3_v22.out
              have f2 := cp.QBox.frozen (j := 2) Hb3_v22.out
              have f3 := cp.QBox.frozen (j := 3) Hb3_v22.out
              have f4 := cp.QBox.frozen (j := 4) Hb3_v22.out
              go_simp
              have hlow : w1.heap.size ≤ v21.heap.size := by
                have := HS_v1.out
                have := HS_v20.out
                have := HS_v21.out
                have := HS_v22.out
                have := HS0.out
                omega
              have hne : v1.heap.size ≠ v21.heap.size := by
                have := HS_v1.out
                have := HS_v20.out
                have := HS_v21.out
                have := HS_v22.out
                omega
              have hnA : ¬ (v0.heap.size ≤ v21.heap.size ∧ v21.heap.size < v1.heap.size) := by
                have := HS_v1.out
                have := HS_v20.out
                have := HS_v21.out
                have := HS_v22.out
                omega
              have hnB : ¬ (v20.heap.size ≤ v21.heap.size ∧ v21.heap.size < v21.heap.size) := by
                have := HS_v1.out
                have := HS_v20.out
                have := HS_v21.out
                have := HS_v22.out
                omega
              have ho := chain_only v22 (v21.heap.size) P Ka
              have hq := chain_kb (P := P) (K := Ka) Hb3_v22.out
              refine hK.out _ _ ?hS (fun hHeld => ?_)
              case hS => exact only_below2 HB_v22.out ho hlow
              clear hK K hHeld
              try simp only [Act.put, List.setIfInBounds_toArray, List.set_cons_zero, List.set_cons_succ]
              obtain ⟨v23, hv⟩ : ∃ W, W = chainV v22 (v21.heap.size) P Ka := ⟨_, rfl⟩
              rw [← hv] at ho hq
              unfold chainV at hv
              rw [← hv]
              clear hv a0 a1 a2 a3 a4 f0 f1 f2 f3 f4
              have HB_v23 := Lib.hid (only_below2 HB_v22.out ho hlow)
              have Hb4_v23 := Lib.hid (QBox.only Hb4_v22.out ho hne)
              have HcA_v23 := Lib.hid (CpIn.only HcA_v22.out ho hnA)
              have HcB_v23 := Lib.hid (CpIn.only HcB_v22.out ho hnB)
              have Hb3_v23 := Lib.hid hq
              clear HB_v22 Hb3_v22 Hb4_v22 HcA_v22 HcB_v22
              clear ho hq hlow hne hnA hnB
              refine wpAnyH_ready (rs := [7]) (by kernel_rfl) (by simp) ?_
              refine AllReadyH.cons rfl (fun K hK => ?_) ?_
              · obtain ⟨a0, a1, a2, a3, a4⟩ := cp.QBox.cells Hb4_v23.out
                have f0 := cp.QBox.frozen (j := 0) Hb4_v23.out
                have f1 := cp.QBox.frozen (j := 1) Hb4_v23.out
                have f2 := cp.QBox.frozen (j := 2) Hb4_v23.out
                have f3 := cp.QBox.frozen (j := 3) Hb4_v23.out
                have f4 := cp.QBox.frozen (j := 4) Hb4_v23.out
                go_simp
                have hlow : w1.heap.size ≤ v1.heap.size := by
                  have := HS_v1.out
                  have := HS_v20.out
                  have := HS_v21.out
                  have := HS_v22.out
                  have := HS0.out
                  omega
                have hne : v21.heap.size ≠ v1.heap.size := by
                  have := HS_v1.out
                  have := HS_v20.out
                  have := HS_v21.out
                  have := HS_v22.out
                  omega
                have hnA : ¬ (v0.heap.size ≤ v1.heap.size ∧ v1.heap.size < v1.heap.size) := by
                  have := HS_v1.out
                  have := HS_v20.out
                  have := HS_v21.out
                  have := HS_v22.out
                  omega
                have hnB : ¬ (v20.heap.size ≤ v1.heap.size ∧ v1.heap.size < v21.heap.size) := by
                  have := HS_v1.out
                  have := HS_v20.out
                  have := HS_v21.out
                  have := HS_v22.out
                  omega
                have ho := chain_only v23 (v1.heap.size) P Kb
                have hq := chain_kb (P := P) (K := Kb) Hb4_v23.out
                refine hK.out _ _ ?hS (fun hHeld => ?_)
                case hS => exact only_below2 HB_v23.out ho hlow
                clear hK K hHeld
                try simp only [Act.put, List.setIfInBounds_toArray, List.set_cons_zero, List.set_cons_succ]
                obtain ⟨v24, hv⟩ : ∃ W, W = chainV v23 (v1.heap.size) P Kb := ⟨_, rfl⟩
                rw [← hv] at ho hq
                unfold chainV at hv
                rw [← hv]
                clear hv a0 a1 a2 a3 a4 f0 f1 f2 f3 f4
                have HB_v24 := Lib.hid (only_below2 HB_v23.out ho hlow)
                have Hb3_v24 := Lib.hid (QBox.only Hb3_v23.out ho hne)
                have HcA_v24 := Lib.hid (CpIn.only HcA_v23.out ho hnA)
                have HcB_v24 := Lib.hid (CpIn.only HcB_v23.out ho hnB)
                have Hb4_v24 := Lib.hid hq
                clear HB_v23 Hb3_v23 Hb4_v23 HcA_v23 HcB_v23
                clear ho hq hlow hne hnA hnB
                refine wpAnyH_done (by kernel_rfl) ?_ _
                go_wp2_with fail
                go_meet
                refine own_fin (lo := v0.heap.size) (hi := v1.heap.size) (lo2 := v20.heap.size) (hi2 := v21.heap.size) (K := Ka) (K2 := Kb) (below_two HB1.out HB_v24.out) (HPB1.out.keep HB_v24.out) ?_ Hb3_v24.out Hb4_v24.out HcA_v24.out HcB_v24.out ?_ ?_ ?_
                all_goals
                  have := HS_v1.out
                  have := HS_v20.out
                  have := HS_v21.out
                  have := HS_v22.out
                  have := HS0.out
                  have := HLT.out
                  omega
              exact AllReadyH.nil
            exact AllReadyH.nil
          exact AllReadyH.nil
        refine AllReadyH.cons rfl (fun K hK => ?_) ?_
        · go_simp
          refine hK.out _ _ ?hS (fun hHeld => ?_)
          case hS => exact below_alloc HB_v20.out _
          clear hK K hHeld
          try simp only [Act.put, List.setIfInBounds_toArray, List.set_cons_zero, List.set_cons_succ]
          have hb : Below v20.heap.size v20 (v20.alloc (.cells #[.int .u16 0, .slice none 0 0, .slice none 0 0, .slice none 0 0, .slice none 0 0] 28)) := (Below.refl _ _).alloc (Nat.le_refl _) _
          have hq : ZB (v20.alloc (.cells #[.int .u16 0, .slice none 0 0, .slice none 0 0, .slice none 0 0, .slice none 0 0] 28)) v20.heap.size := cp.QBox.new _ _ _ _ _ _
          have hs : (v20.alloc (.cells #[.int .u16 0, .slice none 0 0, .slice none 0 0, .slice none 0 0, .slice none 0 0] 28)).heap.size = v20.heap.size + 1 := by simp
          obtain ⟨v25, hv⟩ : ∃ W, W = v20.alloc (.cells #[.int .u16 0, .slice none 0 0, .slice none 0 0, .slice none 0 0, .slice none 0 0] 28) := ⟨_, rfl⟩
          rw [← hv] at hb hq hs
          rw [← hv]
          clear hv
          have HB_v25 := Lib.hid (below_two HB_v20.out hb)
          have Hb4_v25 := Lib.hid (cp.QBox.keep Hb4_v20.out hb)
          have HcA_v25 := Lib.hid (CpIn.keep HcA_v20.out hb)
          have Hb3_v25 := Lib.hid hq
          have HS_v25 := Lib.hid hs
          clear HB_v20 Hb4_v20 HcA_v20
          clear hb hq hs
          refine wpAnyH_ready (rs := [3]) (by kernel_rfl) (by simp) ?_
          refine AllReadyH.cons rfl (fun K hK => ?_) ?_
          · go_simp
            refine (HC.out _ (below_two HB1.out HB_v25.out) HFW.out).mono ?_
            rintro e v26 ⟨Kb, rfl, hC, hb⟩
            rw [HPV.out]
            go_wp2_with fail
            refine hK.out _ _ ?hS (fun hHeld => ?_)
            case hS => exact below_two HB_v25.out hb
            clear hK K hHeld
            try simp only [Act.put, List.setIfInBounds_toArray, List.set_cons_zero, List.set_cons_succ]
            have hc := CpIn.new hC
            have hs := hb.size
            have HB_v26 := Lib.hid (below_two HB_v25.out hb)
            have Hb3_v26 := Lib.hid (cp.QBox.keep Hb3_v25.out hb)
            have Hb4_v26 := Lib.hid (cp.QBox.keep Hb4_v25.out hb)
            have HcA_v26 := Lib.hid (CpIn.keep HcA_v25.out hb)
            have HcB_v26 := Lib.hid hc
            have HS_v26 := Lib.hid hs
            clear HB_v25 Hb3_v25 Hb4_v25 HcA_v25
            clear hb hc hs hC
            refine wpAnyH_ready (rs := [6]) (by kernel_rfl) (by simp) ?_
            refine AllReadyH.cons rfl (fun K hK => ?_) ?_
            · obtain ⟨a0, a1, a2, a3, a4⟩ := cp.QBox.cells Hb3_v26.out
              have f0 := cp.QBox.frozen (j := 0) Hb3_v26.out
              have f1 := cp.QBox.frozen (j := 1) Hb3_v26.out
              have f2 := cp.QBox.frozen (j := 2) Hb3_v26.out
              have f3 := cp.QBox.frozen (j := 3) Hb3_v26.out
              have f4 := cp.QBox.frozen (j := 4) Hb3_v26.out
              go_simp
              have hlow : w1.heap.size ≤ v20.heap.size := by
                have := HS_v1.out
                have := HS_v20.out
                have := HS_v25.out
                have := HS_v26.out
                have := HS0.out
                omega
              have hne : v1.heap.size ≠ v20.heap.size := by
                have := HS_v1.out
                have := HS_v20.out
                have := HS_v25.out
                have := HS_v26.out
                omega
              have hnA : ¬ (v0.heap.size ≤ v20.heap.size ∧ v20.heap.size < v1.heap.size) := by
                have := HS_v1.out
                have := HS_v20.out
                have := HS_v25.out
                have := HS_v26.out
                omega
              have hnB : ¬ (v25.heap.size ≤ v20.heap.size ∧ v20.heap.size < v26.heap.size) := by
                have := HS_v1.out
                have := HS_v20.out
                have := HS_v25.out
                have := HS_v26.out
                omega
              have ho := chain_only v26 (v20.heap.size) P Ka
              have hq := chain_kb (P := P) (K := Ka) Hb3_v26.out
              refine hK.out _ _ ?hS (fun hHeld => ?_)
              case hS => exact only_below2 HB_v26.out ho hlow
              clear hK K hHeld
              try simp only [Act.put, List.setIfInBounds_toArray, List.set_cons_zero, List.set_cons_succ]
              obtain ⟨v27, hv⟩ : ∃ W, W = chainV v26 (v20.heap.size) P Ka := ⟨_, rfl⟩
              rw [← hv] at ho hq
              unfold chainV at hv
              rw [← hv]
              clear hv a0 a1 a2 a3 a4 f0 f1 f2 f3 f4
              have HB_v27 := Lib.hid (only_below2 HB_v26.out ho hlow)
              have Hb4_v27 := Lib.hid (QBox.only Hb4_v26.out ho hne)
              have HcA_v27 := Lib.hid (CpIn.only HcA_v26.out ho hnA)
              have HcB_v27 := Lib.hid (CpIn.only HcB_v26.out ho hnB)
              have Hb3_v27 := Lib.hid hq
              clear HB_v26 Hb3_v26 Hb4_v26 HcA_v26 HcB_v26
              clear ho hq hlow hne hnA hnB
              refine wpAnyH_ready (rs := [7]) (by kernel_rfl) (by simp) ?_
              refine AllReadyH.cons rfl (fun K hK => ?_) ?_
              · obtain ⟨a0, a1, a2, a3, a4⟩ := cp.QBox.cells Hb4_v27.out
                have f0 := cp.QBox.frozen (j := 0) Hb4_v27.out
                have f1 := cp.QBox.frozen (j := 1) Hb4_v27.out
                have f2 := cp.QBox.frozen (j := 2) Hb4_v27.out
                have f3 := cp.QBox.frozen (j := 3) Hb4_v27.out
                have f4 := cp.QBox.frozen (j := 4) Hb4_v27.out
                go_simp
                have hlow : w1.heap.size ≤ v1.heap.size := by
                  have := HS_v1.out
                  have := HS_v20.out
                  have := HS_v25.out
                  have := HS_v26.out
                  have := HS0.out
                  omega
                have hne : v20.heap.size ≠ v1.heap.size := by
                  have := HS_v1.out
                  have := HS_v20.out
                  have := HS_v25.out
                  have := HS_v26.out
                  omega
                have hnA : ¬ (v0.heap.size ≤ v1.heap.size ∧ v1.heap.size < v1.heap.size) := by
                  have := HS_v1.out
                  have := HS_v20.out
                  have := HS_v25.out
                  have := HS_v26.out
                  omega
                have hnB : ¬ (v25.heap.size ≤ v1.heap.size ∧ v1.heap.size < v26.heap.size) := by
                  have := HS_v1.out
                  have := HS_v20.out
                  have := HS_v25.out
                  have := HS_v26.out
                  omega
                have ho := chain_only v27 (v1.heap.size) P Kb
                have hq := chain_kb (P := P) (K := Kb) Hb4_v27.out
                refine hK.out _ _ ?hS (fun hHeld => ?_)
                case hS => exact only_below2 HB_v27.out ho hlow
                clear hK K hHeld
                try simp only [Act.put, List.setIfInBounds_toArray, List.set_cons_zero, List.set_cons_succ]
                obtain ⟨v28, hv⟩ : ∃ W, W = chainV v27 (v1.heap.size) P Kb := ⟨_, rfl⟩
                rw [← hv] at ho hq
                unfold chainV at hv
                rw [← hv]
                clear hv a0 a1 a2 a3 a4 f0 f1 f2 f3 f4
                have HB_v28 := Lib.hid (only_below2 HB_v27.out ho hlow)
                have Hb3_v28 := Lib.hid (QBox.only Hb3_v27.out ho hne)
                have HcA_v28 := Lib.hid (CpIn.only HcA_v27.out ho hnA)
                have HcB_v28 := Lib.hid (CpIn.only HcB_v27.out ho hnB)
                have Hb4_v28 := Lib.hid hq
                clear HB_v27 Hb3_v27 Hb4_v27 HcA_v27 HcB_v27
                clear ho hq hlow hne hnA hnB
                refine wpAnyH_done (by kernel_rfl) ?_ _
                go_wp2_with fail
                go_meet
                refine own_fin (lo := v0.heap.size) (hi := v1.heap.size) (lo2 := v25.heap.size) (hi2 := v26.heap.size) (K := Ka) (K2 := Kb) (below_two HB1.out HB_v28.out) (HPB1.out.keep HB_v28.out) ?_ Hb3_v28.out Hb4_v28.out HcA_v28.out HcB_v28.out ?_ ?_ ?_
                all_goals
                  have := HS_v1.out
                  have := HS_v20.out
                  have := HS_v25.out
                  have := HS_v26.out
                  have := HS0.out
                  have := HLT.out
                  omega
              exact AllReadyH.nil
            exact AllReadyH.nil
          exact AllReadyH.nil
        exact AllReadyH.nil
      exact AllReadyH.nil
    refine AllReadyH.cons rfl (fun K hK => ?_) ?_
    · go_simp
      refine hK.out _ _ ?hS (fun hHeld => ?_)
      case hS => exact below_alloc HB_v0.out _
      clear hK K hHeld
      try simp only [Act.put, List.setIfInBounds_toArray, List.set_cons_zero, List.set_cons_succ]
      have hb : Below v0.heap.size v0 (v0.alloc (.cells #[.int .u16 0, .slice none 0 0, .slice none 0 0, .slice none 0 0, .slice none 0 0] 28)) := (Below.refl _ _).alloc (Nat.le_refl _) _
      have hq : ZB (v0.alloc (.cells #[.int .u16 0, .slice none 0 0, .slice none 0 0, .slice none 0 0, .slice none 0 0] 28)) v0.heap.size := cp.QBox.new _ _ _ _ _ _
      have hs : (v0.alloc (.cells #[.int .u16 0, .slice none 0 0, .slice none 0 0, .slice none 0 0, .slice none 0 0] 28)).heap.size = v0.heap.size + 1 := by simp
      obtain ⟨v29, hv⟩ : ∃ W, W = v0.alloc (.cells #[.int .u16 0, .slice none 0 0, .slice none 0 0, .slice none 0 0, .slice none 0 0] 28) := ⟨_, rfl⟩
      rw [← hv] at hb hq hs
      rw [← hv]
      clear hv
      have HB_v29 := Lib.hid (below_two HB_v0.out hb)
      have Hb3_v29 := Lib.hid hq
      have HS_v29 := Lib.hid hs
      clear HB_v0
      clear hb hq hs
      refine wpAnyH_ready (rs := [1, 5]) (by kernel_rfl) (by simp) ?_
      refine AllReadyH.cons rfl (fun K hK => ?_) ?_
      · go_simp
        refine (HC.out _ (below_two HB1.out HB_v29.out) HFW.out).mono ?_
        rintro e v30 ⟨Ka, rfl, hC, hb⟩
        rw [HPV.out]
        go_wp2_with fail
        refine hK.out _ _ ?hS (fun hHeld => ?_)
        case hS => exact below_two HB_v29.out hb
        clear hK K hHeld
        try simp only [Act.put, List.setIfInBounds_toArray, List.set_cons_zero, List.set_cons_succ]
        have hc := CpIn.new hC
        have hs := hb.size
        have HB_v30 := Lib.hid (below_two HB_v29.out hb)
        have Hb3_v30 := Lib.hid (cp.QBox.keep Hb3_v29.out hb)
        have HcA_v30 := Lib.hid hc
        have HS_v30 := Lib.hid hs
        clear HB_v29 Hb3_v29
        clear hb hc hs hC
        refine wpAnyH_ready (rs := [3, 5]) (by kernel_rfl) (by simp) ?_
        refine AllReadyH.cons rfl (fun K hK => ?_) ?_
        · go_simp
          refine (HC.out _ (below_two HB1.out HB_v30.out) HFW.out).mono ?_
          rintro e v31 ⟨Kb, rfl, hC, hb⟩
          rw [HPV.out]
          go_wp2_with fail
          refine hK.out _ _ ?hS (fun hHeld => ?_)
          case hS => exact below_two HB_v30.out hb
          clear hK K hHeld
          try simp only [Act.put, List.setIfInBounds_toArray, List.set_cons_zero, List.set_cons_succ]
          have hc := CpIn.new hC
          have hs := hb.size
          have HB_v31 := Lib.hid (below_two HB_v30.out hb)
          have Hb3_v31 := Lib.hid (cp.QBox.keep Hb3_v30.out hb)
          have HcA_v31 := Lib.hid (CpIn.keep HcA_v30.out hb)
          have HcB_v31 := Lib.hid hc
          have HS_v31 := Lib.hid hs
          clear HB_v30 Hb3_v30 HcA_v30
          clear hb hc hs hC
          refine wpAnyH_ready (rs := [5]) (by kernel_rfl) (by simp) ?_
          refine AllReadyH.cons rfl (fun K hK => ?_) ?_
          · go_simp
            refine hK.out _ _ ?hS (fun hHeld => ?_)
            case hS => exact below_alloc HB_v31.out _
            clear hK K hHeld
            try simp only [Act.put, List.setIfInBounds_toArray, List.set_cons_zero, List.set_cons_succ]
            have hb : Below v31.heap.size v31 (v31.alloc (.cells #[.int .u16 0, .slice none 0 0, .slice none 0 0, .slice none 0 0, .slice none 0 0] 28)) := (Below.refl _ _).alloc (Nat.le_refl _) _
            have hq : ZB (v31.alloc (.cells #[.int .u16 0, .slice none 0 0, .slice none 0 0, .slice none 0 0, .slice none 0 0] 28)) v31.heap.size := cp.QBox.new _ _ _ _ _ _
            have hs : (v31.alloc (.cells #[.int .u16 0, .slice none 0 0, .slice none 0 0, .slice none 0 0, .slice none 0 0] 28)).heap.size = v31.heap.size + 1 := by simp
            obtain ⟨v32, hv⟩ : ∃ W, W = v31.alloc (.cells #[.int .u16 0, .slice none 0 0, .slice none 0 0, .slice none 0 0, .slice none 0 0] 28) := ⟨_, rfl⟩
            rw [← hv] at hb hq hs
            rw [← hv]
            clear hv
            have HB_v32 := Lib.hid (below_two HB_v31.out hb)
            have Hb3_v32 := Lib.hid (cp.QBox.keep Hb3_v31.out hb)
            have HcA_v32 := Lib.hid (CpIn.keep HcA_v31.out hb)
            have HcB_v32 := Lib.hid (CpIn.keep HcB_v31.out hb)
            have Hb4_v32 := Lib.hid hq
            have HS_v32 := Lib.hid hs
            clear HB_v31 Hb3_v31 HcA_v31 HcB_v31
            clear hb hq hs
            refine wpAnyH_ready (rs := [6]) (by kernel_rfl) (by simp) ?_
            refine AllReadyH.cons rfl (fun K hK => ?_) ?_
            · obtain ⟨a0, a1, a2, a3, a4⟩ := cp.QBox.cells Hb3_v32.out
              have f0 := cp.QBox.frozen (j := 0) Hb3_v32.out
              have f1 := cp.QBox.frozen (j := 1) Hb3_v32.out
              have f2 := cp.QBox.frozen (j := 2) Hb3_v32.out
              have f3 := cp.QBox.frozen (j := 3) Hb3_v32.out
              have f4 := cp.QBox.frozen (j := 4) Hb3_v32.out
              go_simp
              have hlow : w1.heap.size ≤ v0.heap.size := by
                have := HS_v29.out
                have := HS_v30.out
                have := HS_v31.out
                have := HS_v32.out
                have := HS0.out
                omega
              have hne : v31.heap.size ≠ v0.heap.size := by
                have := HS_v29.out
                have := HS_v30.out
                have := HS_v31.out
                have := HS_v32.out
                omega
              have hnA : ¬ (v29.heap.size ≤ v0.heap.size ∧ v0.heap.size < v30.heap.size) := by
                have := HS_v29.out
                have := HS_v30.out
                have := HS_v31.out
                have := HS_v32.out
                omega
              have hnB : ¬ (v30.heap.size ≤ v0.heap.size ∧ v0.heap.size < v31.heap.size) := by
                have := HS_v29.out
                have := HS_v30.out
                have := HS_v31.out
                have := HS_v32.out
                omega
              have ho := chain_only v32 (v0.heap.size) P Ka
              have hq := chain_kb (P := P) (K := Ka) Hb3_v32.out
              refine hK.out _ _ ?hS (fun hHeld => ?_)
              case hS => exact only_below2 HB_v32.out ho hlow
              clear hK K hHeld
              try simp only [Act.put, List.setIfInBounds_toArray, List.set_cons_zero, List.set_cons_succ]
              obtain ⟨v33, hv⟩ : ∃ W, W = chainV v32 (v0.heap.size) P Ka := ⟨_, rfl⟩
              rw [← hv] at ho hq
              unfold chainV at hv
              rw [← hv]
              clear hv a0 a1 a2 a3 a4 f0 f1 f2 f3 f4
              have HB_v33 := Lib.hid (only_below2 HB_v32.out ho hlow)
              have Hb4_v33 := Lib.hid (QBox.only Hb4_v32.out ho hne)
              have HcA_v33 := Lib.hid (CpIn.only HcA_v32.out ho hnA)
              have HcB_v33 := Lib.hid (CpIn.only HcB_v32.out ho hnB)
              have Hb3_v33 := Lib.hid hq
              clear HB_v32 Hb3_v32 Hb4_v32 HcA_v32 HcB_v32
              clear ho hq hlow hne hnA hnB
              refine wpAnyH_ready (rs := [7]) (by kernel_rfl) (by simp) ?_
              refine AllReadyH.cons rfl (fun K hK => ?_) ?_
              · obtain ⟨a0, a1, a2, a3, a4⟩ := cp.QBox.cells Hb4_v33.out
                have f0 := cp.QBox.frozen (j := 0) Hb4_v33.out
                have f1 := cp.QBox.frozen (j := 1) Hb4_v33.out
                have f2 := cp.QBox.frozen (j := 2) Hb4_v33.out
                have f3 := cp.QBox.frozen (j := 3) Hb4_v33.out
                have f4 := cp.QBox.frozen (j := 4) Hb4_v33.out
                go_simp
                have hlow : w1.heap.size ≤ v31.heap.size := by
                  have := HS_v29.out
                  have := HS_v30.out
                  have := HS_v31.out
                  have := HS_v32.out
                  have := HS0.out
                  omega
                have hne : v0.heap.size ≠ v31.heap.size := by
                  have := HS_v29.out
                  have := HS_v30.out
                  have := HS_v31.out
                  have := HS_v32.out
                  omega
                have hnA : ¬ (v29.heap.size ≤ v31.heap.size ∧ v31.heap.size < v30.heap.size) := by
                  have := HS_v29.out
                  have := HS_v30.out
                  have := HS_v31.out
                  have := HS_v32.out
                  omega
                have hnB : ¬ (v30.heap.size ≤ v31.heap.size ∧ v31.heap.size < v31.heap.size) := by
                  have := HS_v29.out
                  have := HS_v30.out
                  have := HS_v31.out
                  have := HS_v32.out
                  omega
                have ho := chain_only v33 (v31.heap.size) P Kb
                have hq := chain_kb (P := P) (K := Kb) Hb4_v33.out
                refine hK.out _ _ ?hS (fun hHeld => ?_)
                case hS => exact only_below2 HB_v33.out ho hlow
                clear hK K hHeld
                try simp only [Act.put, List.setIfInBounds_toArray, List.set_cons_zero, List.set_cons_succ]
                obtain ⟨v34, hv⟩ : ∃ W, W = chainV v33 (v31.heap.size) P Kb := ⟨_, rfl⟩
                rw [← hv] at ho hq
                unfold chainV at hv
                rw [← hv]
                clear hv a0 a1 a2 a3 a4 f0 f1 f2 f3 f4
                have HB_v34 := Lib.hid (only_below2 HB_v33.out ho hlow)
                have Hb3_v34 := Lib.hid (QBox.only Hb3_v33.out ho hne)
                have HcA_v34 := Lib.hid (CpIn.only HcA_v33.out ho hnA)
                have HcB_v34 := Lib.hid (CpIn.only HcB_v33.out ho hnB)
                have Hb4_v34 := Lib.hid hq
                clear HB_v33 Hb3_v33 Hb4_v33 HcA_v33 HcB_v33
                clear ho hq hlow hne hnA hnB
                refine wpAnyH_done (by kernel_rfl) ?_ _
                go_wp2_with fail
                go_meet
                refine own_fin (lo := v29.heap.size) (hi := v30.heap.size) (lo2 := v30.heap.size) (hi2 := v31.heap.size) (K := Ka) (K2 := Kb) (below_two HB1.out HB_v34.out) (HPB1.out.keep HB_v34.out) ?_ Hb3_v34.out Hb4_v34.out HcA_v34.out HcB_v34.out ?_ ?_ ?_
                all_goals
                  have := HS_v29.out
                  have := HS_v30.out
                  have := HS_v31.out
                  have := HS_v32.out
                  have := HS0.out
                  have := HLT.out
                  omega
              exact AllReadyH.nil
            exact AllReadyH.nil
          exact AllReadyH.nil
        refine AllReadyH.cons rfl (fun K hK => ?_) ?_
        · go_simp
          refine hK.out _ _ ?hS (fun hHeld => ?_)
          case hS => exact below_alloc HB_v30.out _
          clear hK K hHeld
          try simp only [Act.put, List.setIfInBounds_toArray, List.set_cons_zero, List.set_cons_succ]
          have hb : Below v30.heap.size v30 (v30.alloc (.cells #[.int .u16 0, .slice none 0 0, .slice none 0 0, .slice none 0 0, .slice none 0 0] 28)) := (Below.refl _ _).alloc (Nat.le_refl _) _
          have hq : ZB (v30.alloc (.cells #[.int .u16 0, .slice none 0 0, .slice none 0 0, .slice none 0 0, .slice none 0 0] 28)) v30.heap.size := cp.QBox.new _ _ _ _ _ _
          have hs : (v30.alloc (.cells #[.int .u16 0, .slice none 0 0, .slice none 0 0, .slice none 0 0, .slice none 0 0] 28)).heap.size = v30.heap.size + 1 := by simp
          obtain ⟨v35, hv⟩ : ∃ W, W = v30.alloc (.cells #[.int .u16 0, .slice none 0 0, .slice none 0 0, .slice none 0 0, .slice none 0 0] 28) := ⟨_, rfl⟩
          rw [← hv] at hb hq hs
          rw [← hv]
          clear hv
          have HB_v35 := Lib.hid (below_two HB_v30.out hb)
          have Hb3_v35 := Lib.hid (cp.QBox.keep Hb3_v30.out hb)
          have HcA_v35 := Lib.hid (CpIn.keep HcA_v30.out hb)
          have Hb4_v35 := Lib.hid hq
          have HS_v35 := Lib.hid hs
          clear HB_v30 Hb3_v30 HcA_v30
          clear hb hq hs
          refine wpAnyH_ready (rs := [3]) (by kernel_rfl) (by simp) ?_
          refine AllReadyH.cons rfl (fun K hK => ?_) ?_
          · go_simp
            refine (HC.out _ (below_two HB1.out HB_v35.out) HFW.out).mono ?_
            rintro e v36 ⟨Kb, rfl, hC, hb⟩
            rw [HPV.out]
            go_wp2_with fail
            refine hK.out _ _ ?hS (fun hHeld => ?_)
            case hS => exact below_two HB_v35.out hb
            clear hK K hHeld
            try simp only [Act.put, List.setIfInBounds_toArray, List.set_cons_zero, List.set_cons_succ]
            have hc := CpIn.new hC
            have hs := hb.size
            have HB_v36 := Lib.hid (below_two HB_v35.out hb)
            have Hb3_v36 := Lib.hid (cp.QBox.keep Hb3_v35.out hb)
            have Hb4_v36 := Lib.hid (cp.QBox.keep Hb4_v35.out hb)
            have HcA_v36 := Lib.hid (CpIn.keep HcA_v35.out hb)
            have HcB_v36 := Lib.hid hc
            have HS_v36 := Lib.hid hs
            clear HB_v35 Hb3_v35 Hb4_v35 HcA_v35
            clear hb hc hs hC
            refine wpAnyH_ready (rs := [6]) (by kernel_rfl) (by simp) ?_
            refine AllReadyH.cons rfl (fun K hK => ?_) ?_
            · obtain ⟨a0, a1, a2, a3, a4⟩ := cp.QBox.cells Hb3_v36.out
              have f0 := cp.QBox.frozen (j := 0) Hb3_v36.out
              have f1 := cp.QBox.frozen (j := 1) Hb3_v36.out
              have f2 := cp.QBox.frozen (j := 2) Hb3_v36.out
              have f3 := cp.QBox.frozen (j := 3) Hb3_v36.out
              have f4 := cp.QBox.frozen (j := 4) Hb3_v36.out
              go_simp
              have hlow : w1.heap.size ≤ v0.heap.size := by
                have := HS_v29.out
                have := HS_v30.out
                have := HS_v35.out
                have := HS_v36.out
                have := HS0.out
                omega
              have hne : v30.heap.size ≠ v0.heap.size := by
                have := HS_v29.out
                have := HS_v30.out
                have := HS_v35.out
                have := HS_v36.out
                omega
              have hnA : ¬ (v29.heap.size ≤ v0.heap.size ∧ v0.heap.size < v30.heap.size) := by
                have := HS_v29.out
                have := HS_v30.out
                have := HS_v35.out
                have := HS_v36.out
                omega
              have hnB : ¬ (v35.heap.size ≤ v0.heap.size ∧ v0.heap.size < v36.heap.size) := by
                have := HS_v29.out
                have := HS_v30.out
                have := HS_v35.out
                have := HS_v36.out
                omega
              have ho := chain_only v36 (v0.heap.size) P Ka
              have hq := chain_kb (P := P) (K := Ka) Hb3_v36.out
              refine hK.out _ _ ?hS (fun hHeld => ?_)
              case hS => exact only_below2 HB_v36.out ho hlow
              clear hK K hHeld
              try simp only [Act.put, List.setIfInBounds_toArray, List.set_cons_zero, List.set_cons_succ]
              obtain ⟨v37, hv⟩ : ∃ W, W = chainV v36 (v0.heap.size) P Ka := ⟨_, rfl⟩
              rw [← hv] at ho hq
              unfold chainV at hv
              rw [← hv]
              clear hv a0 a1 a2 a3 a4 f0 f1 f2 f3 f4
              have HB_v37 := Lib.hid (only_below2 HB_v36.out ho hlow)
              have Hb4_v37 := Lib.hid (QBox.only Hb4_v36.out ho hne)
              have HcA_v37 := Lib.hid (CpIn.only HcA_v36.out ho hnA)
              have HcB_v37 := Lib.hid (CpIn.only HcB_v36.out ho hnB)
              have Hb3_v37 := Lib.hid hq
              clear HB_v36 Hb3_v36 Hb4_v36 HcA_v36 HcB_v36
              clear ho hq hlow hne hnA hnB
              refine wpAnyH_ready (rs := [7]) (by kernel_rfl) (by simp) ?_
              refine AllReadyH.cons rfl (fun K hK => ?_) ?_
              · obtain ⟨a0, a1, a2, a3, a4⟩ := cp.QBox.cells Hb4_v37.out
                have f0 := cp.QBox.frozen (j := 0) Hb4_v37.out
                have f1 := cp.QBox.frozen (j := 1) Hb4_v37.out
                have f2 := cp.QBox.frozen (j := 2) Hb4_v37.out
                have f3 := cp.QBox.frozen (j := 3) Hb4_v37.out
                have f4 := cp.QBox.frozen (j := 4) Hb4_v37.out
                go_simp
                have hlow : w1.heap.size ≤ v30.heap.size := by
                  have := HS_v29.out
                  have := HS_v30.out
                  have := HS_v35.out
                  have := HS_v36.out
                  have := HS0.out
                  omega
                have hne : v0.heap.size ≠ v30.heap.size := by
                  have := HS_v29.out
                  have := HS_v30.out
                  have := HS_v35.out
                  have := HS_v36.out
                  omega
                have hnA : ¬ (v29.heap.size ≤ v30.heap.size ∧ v30.heap.size < v30.heap.size) := by
                  have := HS_v29.out
                  have := HS_v30.out
                  have := HS_v35.out
                  have := HS_v36.out
                  omega
                have hnB : ¬ (v35.heap.size ≤ v30.heap.size ∧ v30.heap.size < v36.heap.size) := by
                  have := HS_v29.out
                  have := HS_v30.out
                  have := HS_v35.out
                  have := HS_v36.out
                  omega
                have ho := chain_only v37 (v30.heap.size) P Kb
                have hq := chain_kb (P := P) (K := Kb) Hb4_v37.out
                refine hK.out _ _ ?hS (fun hHeld => ?_)
                case hS => exact only_below2 HB_v37.out ho hlow
                clear hK K hHeld
                try simp only [Act.put, List.setIfInBounds_toArray, List.set_cons_zero, List.set_cons_succ]
                obtain ⟨v38, hv⟩ : ∃ W, W = chainV v37 (v30.heap.size) P Kb := ⟨_, rfl⟩
                rw [← hv] at ho hq
                unfold chainV at hv
                rw [← hv]
                clear hv a0 a1 a2 a3 a4 f0 f1 f2 f3 f4
                have HB_v38 := Lib.hid (only_below2 HB_v37.out ho hlow)
                have Hb3_v38 := Lib.hid (QBox.only Hb3_v37.out ho hne)
                have HcA_v38 := Lib.hid (CpIn.only HcA_v37.out ho hnA)
                have HcB_v38 := Lib.hid (CpIn.only HcB_v37.out ho hnB)
                have Hb4_v38 := Lib.hid hq
                clear HB_v37 Hb3_v37 Hb4_v37 HcA_v37 HcB_v37
                clear ho hq hlow hne hnA hnB
                refine wpAnyH_done (by kernel_rfl) ?_ _
                go_wp2_with fail
                go_meet
                refine own_fin (lo := v29.heap.size) (hi := v30.heap.size) (lo2 := v35.heap.size) (hi2 := v36.heap.size) (K := Ka) (K2 := Kb) (below_two HB1.out HB_v38.out) (HPB1.out.keep HB_v38.out) ?_ Hb3_v38.out Hb4_v38.out HcA_v38.out HcB_v38.out ?_ ?_ ?_
                all_goals
                  have := HS_v29.out
                  have := HS_v30.out
                  have := HS_v35.out
                  have := HS_v36.out
                  have := HS0.out
                  have := HLT.out
                  omega
              exact AllReadyH.nil
            exact AllReadyH.nil
          exact AllReadyH.nil
        exact AllReadyH.nil
      refine AllReadyH.cons rfl (fun K hK => ?_) ?_
      · go_simp
        refine hK.out _ _ ?hS (fun hHeld => ?_)
        case hS => exact below_alloc HB_v29.out _
        clear hK K hHeld
        try simp only [Act.put, List.setIfInBounds_toArray, List.set_cons_zero, List.set_cons_succ]
        have hb : Below v29.heap.size v29 (v29.alloc (.cells #[.int .u16 0, .slice none 0 0, .slice none 0 0, .slice none 0 0, .slice none 0 0] 28)) := (Below.refl _ _).alloc (Nat.le_refl _) _
        have hq : ZB (v29.alloc (.cells #[.int .u16 0, .slice none 0 0, .slice none 0 0, .slice none 0 0, .slice none 0 0] 28)) v29.heap.size := cp.QBox.new _ _ _ _ _ _
        have hs : (v29.alloc (.cells #[.int .u16 0, .slice none 0 0, .slice none 0 0, .slice none 0 0, .slice none 0 0] 28)).heap.size = v29.heap.size + 1 := by simp
        obtain ⟨v39, hv⟩ : ∃ W, W = v29.alloc (.cells #[.int .u16 0, .slice none 0 0, .slice none 0 0, .slice none 0 0, .slice none 0 0] 28) := ⟨_, rfl⟩
        rw [← hv] at hb hq hs
        rw [← hv]
        clear hv
        have HB_v39 := Lib.hid (below_two HB_v29.out hb)
        have Hb3_v39 := Lib.hid (cp.QBox.keep Hb3_v29.out hb)
        have Hb4_v39 := Lib.hid hq
        have HS_v39 := Lib.hid hs
        clear HB_v29 Hb3_v29
        clear hb hq hs
        refine wpAnyH_ready (rs := [1]) (by kernel_rfl) (by simp) ?_
        refine AllReadyH.cons rfl (fun K hK => ?_) ?_
        · go_simp
          refine (HC.out _ (below_two HB1.out HB_v39.out) HFW.out).mono ?_
          rintro e v40 ⟨Ka, rfl, hC, hb⟩
          rw [HPV.out]
          go_wp2_with fail
          refine hK.out _ _ ?hS (fun hHeld => ?_)
          case hS => exact below_two HB_v39.out hb
          clear hK K hHeld
          try simp only [Act.put, List.setIfInBounds_toArray, List.set_cons_zero, List.set_cons_succ]
          have hc := CpIn.new hC
          have hs := hb.size
          have HB_v40 := Lib.hid (below_two HB_v39.out hb)
          have Hb3_v40 := Lib.hid (cp.QBox.keep Hb3_v39.out hb)
          have Hb4_v40 := Lib.hid (cp.QBox.keep Hb4_v39.out hb)
          have HcA_v40 := Lib.hid hc
          have HS_v40 := Lib.hid hs
          clear HB_v39 Hb3_v39 Hb4_v39
          clear hb hc hs hC
          refine wpAnyH_ready (rs := [3]) (by kernel_rfl) (by simp) ?_
          refine AllReadyH.cons rfl (fun K hK => ?_) ?_
          · go_simp
            refine (HC.out _ (below_two HB1.out HB_v40.out) HFW.out).mono ?_
            rintro e v41 ⟨Kb, rfl, hC, hb⟩
            rw [HPV.out]
            go_wp2_with fail
            refine hK.out _ _ ?hS (fun hHeld => ?_)
            case hS => exact below_two HB_v40.out hb
            clear hK K hHeld
            try simp only [Act.put, List.setIfInBounds_toArray, List.set_cons_zero, List.set_cons_succ]
            have hc := CpIn.new hC
            have hs := hb.size
            have HB_v41 := Lib.hid (below_two HB_v40.out hb)
            have Hb3_v41 := Lib.hid (cp.QBox.keep Hb3_v40.out hb)
            have Hb4_v41 := Lib.hid (cp.QBox.keep Hb4_v40.out hb)
            have HcA_v41 := Lib.hid (CpIn.keep HcA_v40.out hb)
            have HcB_v41 := Lib.hid hc
            have HS_v41 := Lib.hid hs
            clear HB_v40 Hb3_v40 Hb4_v40 HcA_v40
            clear hb hc hs hC
            refine wpAnyH_ready (rs := [6]) (by kernel_rfl) (by simp) ?_
            refine AllReadyH.cons rfl (fun K hK => ?_) ?_
            · obtain ⟨a0, a1, a2, a3, a4⟩ := cp.QBox.cells Hb3_v41.out
              have f0 := cp.QBox.frozen (j := 0) Hb3_v41.out
              have f1 := cp.QBox.frozen (j := 1) Hb3_v41.out
              have f2 := cp.QBox.frozen (j := 2) Hb3_v41.out
              have f3 := cp.QBox.frozen (j := 3) Hb3_v41.out
              have f4 := cp.QBox.frozen (j := 4) Hb3_v41.out
              go_simp
              have hlow : w1.heap.size ≤ v0.heap.size := by
                have := HS_v29.out
                have := HS_v39.out
                have := HS_v40.out
                have := HS_v41.out
                have := HS0.out
                omega
              have hne : v29.heap.size ≠ v0.heap.size := by
                have := HS_v29.out
                have := HS_v39.out
                have := HS_v40.out
                have := HS_v41.out
                omega
              have hnA : ¬ (v39.heap.size ≤ v0.heap.size ∧ v0.heap.size < v40.heap.size) := by
                have := HS_v29.out
                have := HS_v39.out
                have := HS_v40.out
                have := HS_v41.out
                omega
              have hnB : ¬ (v40.heap.size ≤ v0.heap.size ∧ v0.heap.size < v41.heap.size) := by
                have := HS_v29.out
                have := HS_v39.out
                have := HS_v40.out
                have := HS_v41.out
                omega
              have ho := chain_only v41 (v0.heap.size) P Ka
              have hq := chain_kb (P := P) (K := Ka) Hb3_v41.out
              refine hK.out _ _ ?hS (fun hHeld => ?_)
              case hS => exact only_below2 HB_v41.out ho hlow
              clear hK K hHeld
              try simp only [Act.put, List.setIfInBounds_toArray, List.set_cons_zero, List.set_cons_succ]
              obtain ⟨v42, hv⟩ : ∃ W, W = chainV v41 (v0.heap.size) P Ka := ⟨_, rfl⟩
              rw [← hv] at ho hq
              unfold chainV at hv
              rw [← hv]
              clear hv a0 a1 a2 a3 a4 f0 f1 f2 f3 f4
              have HB_v42 := Lib.hid (only_below2 HB_v41.out ho hlow)
              have Hb4_v42 := Lib.hid (QBox.only Hb4_v41.out ho hne)
              have HcA_v42 := Lib.hid (CpIn.only HcA_v41.out ho hnA)
              have HcB_v42 := Lib.hid (CpIn.only HcB_v41.out ho hnB)
              have Hb3_v42 := Lib.hid hq
              clear HB_v41 Hb3_v41 Hb4_v41 HcA_v41 HcB_v41
              clear ho hq hlow hne hnA hnB
              refine wpAnyH_ready (rs := [7]) (by kernel_rfl) (by simp) ?_
              refine AllReadyH.cons rfl (fun K hK => ?_) ?_
              · obtain ⟨a0, a1, a2, a3, a4⟩ := cp.QBox.cells Hb4_v42.out
                have f0 := cp.QBox.frozen (j := 0) Hb4_v42.out
                have f1 := cp.QBox.frozen (j := 1) Hb4_v42.out
                have f2 := cp.QBox.frozen (j := 2) Hb4_v42.out
                have f3 := cp.QBox.frozen (j := 3) Hb4_v42.out
                have f4 := cp.QBox.frozen (j := 4) Hb4_v42.out
                go_simp
                have hlow : w1.heap.size ≤ v29.heap.size := by
                  have := HS_v29.out
                  have := HS_v39.out
                  have := HS_v40.out
                  have := HS_v41.out
                  have := HS0.out
                  omega
                have hne : v0.heap.size ≠ v29.heap.size := by
                  have := HS_v29.out
                  have := HS_v39.out
                  have := HS_v40.out
                  have := HS_v41.out
                  omega
                have hnA : ¬ (v39.heap.size ≤ v29.heap.size ∧ v29.heap.size < v40.heap.size) := by
                  have := HS_v29.out
                  have := HS_v39.out
                  have := HS_v40.out
                  have := HS_v41.out
                  omega
                have hnB : ¬ (v40.heap.size ≤ v29.heap.size ∧ v29.heap.size < v41.heap.size) := by
                  have := HS_v29.out
                  have := HS_v39.out
                  have := HS_v40.out
                  have := HS_v41.out
                  omega
                have ho := chain_only v42 (v29.heap.size) P Kb
                have hq := chain_kb (P := P) (K := Kb) Hb4_v42.out
                refine hK.out _ _ ?hS (fun hHeld => ?_)
                case hS => exact only_below2 HB_v42.out ho hlow
                clear hK K hHeld
                try simp only [Act.put, List.setIfInBounds_toArray, List.set_cons_zero, List.set_cons_succ]
                obtain ⟨v43, hv⟩ : ∃ W, W = chainV v42 (v29.heap.size) P Kb := ⟨_, rfl⟩
                rw [← hv] at ho hq
                unfold chainV at hv
                rw [← hv]
                clear hv a0 a1 a2 a3 a4 f0 f1 f2 f3 f4
                have HB_v43 := Lib.hid (only_below2 HB_v42.out ho hlow)
                have Hb3_v43 := Lib.hid (QBox.only Hb3_v42.out ho hne)
                have HcA_v43 := Lib.hid (CpIn.only HcA_v42.out ho hnA)
                have HcB_v43 := Lib.hid (CpIn.only HcB_v42.out ho hnB)
                have Hb4_v43 := Lib.hid hq
                clear HB_v42 Hb3_v42 Hb4_v42 HcA_v42 HcB_v42
                clear ho hq hlow hne hnA hnB
                refine wpAnyH_done (by kernel_rfl) ?_ _
                go_wp2_with fail
                go_meet
                refine own_fin (lo := v39.heap.size) (hi := v40.heap.size) (lo2 := v40.heap.size) (hi2 := v41.heap.size) (K := Ka) (K2 := Kb) (below_two HB1.out HB_v43.out) (HPB1.out.keep HB_v43.out) ?_ Hb3_v43.out Hb4_v43.out HcA_v43.out HcB_v43.out ?_ ?_ ?_
                all_goals
                  have := HS_v29.out
                  have := HS_v39.out
                  have := HS_v40.out
                  have := HS_v41.out
                  have := HS0.out
                  have := HLT.out
                  omega
              exact AllReadyH.nil
            exact AllReadyH.nil
          exact AllReadyH.nil
        exact AllReadyH.nil
      exact AllReadyH.nil
    refine AllReadyH.cons rfl (fun K hK => ?_) ?_
    · go_simp
      refine hK.out _ _ ?hS (fun hHeld => ?_)
      case hS => exact below_alloc HB_v0.out _
      clear hK K hHeld
      try simp only [Act.put, List.setIfInBounds_toArray, List.set_cons_zero, List.set_cons_succ]
      have hb : Below v0.heap.size v0 (v0.alloc (.cells #[.int .u16 0, .slice none 0 0, .slice none 0 0, .slice none 0 0, .slice none 0 0] 28)) := (Below.refl _ _).alloc (Nat.le_refl _) _
      have hq : ZB (v0.alloc (.cells #[.int .u16 0, .slice none 0 0, .slice none 0 0, .slice none 0 0, .slice none 0 0] 28)) v0.heap.size := cp.QBox.new _ _ _ _ _ _
      have hs : (v0.alloc (.cells #[.int .u16 0, .slice none 0 0, .slice none 0 0, .slice none 0 0, .slice none 0 0] 28)).heap.size = v0.heap.size + 1 := by simp
      obtain ⟨v44, hv⟩ : ∃ W, W = v0.alloc (.cells #[.int .u16 0, .slice none 0 0, .slice none 0 0, .slice none 0 0, .slice none 0 0] 28) := ⟨_, rfl⟩
      rw [← hv] at hb hq hs
      rw [← hv]
      clear hv
      have HB_v44 := Lib.hid (below_two HB_v0.out hb)
      have Hb4_v44 := Lib.hid hq
      have HS_v44 := Lib.hid hs
      clear HB_v0
      clear hb hq hs
      refine wpAnyH_ready (rs := [1, 4]) (by kernel_rfl) (by simp) ?_
      refine AllReadyH.cons rfl (fun K hK => ?_) ?_
      · go_simp
        refine (HC.out _ (below_two HB1.out HB_v44.out) HFW.out).mono ?_
        rintro e v45 ⟨Ka, rfl, hC, hb⟩
        rw [HPV.out]
        go_wp2_with fail
        refine hK.out _ _ ?hS (fun hHeld => ?_)
        case hS => exact below_two HB_v44.out hb
        clear hK K hHeld
        try simp only [Act.put, List.setIfInBounds_toArray, List.set_cons_zero, List.set_cons_succ]
        have hc := CpIn.new hC
        have hs := hb.size
        have HB_v45 := Lib.hid (below_two HB_v44.out hb)
        have Hb4_v45 := Lib.hid (cp.QBox.keep Hb4_v44.out hb)
        have HcA_v45 := Lib.hid hc
        have HS_v45 := Lib.hid hs
        clear HB_v44 Hb4_v44
        clear hb hc hs hC
        refine wpAnyH_ready (rs := [3, 4]) (by kernel_rfl) (by simp) ?_
        refine AllReadyH.cons rfl (fun K hK => ?_) ?_
        · go_simp
          refine (HC.out _ (below_two HB1.out HB_v45.out) HFW.out).mono ?_
          rintro e v46 ⟨Kb, rfl, hC, hb⟩
          rw [HPV.out]
          go_wp2_with fail
          refine hK.out _ _ ?hS (fun hHeld => ?_)
          case hS => exact below_two HB_v45.out hb
          clear hK K hHeld
          try simp only [Act.put, List.setIfInBounds_toArray, List.set_cons_zero, List.set_cons_succ]
          have hc := CpIn.new hC
          have hs := hb.size
          have HB_v46 := Lib.hid (below_two HB_v45.out hb)
          have Hb4_v46 := Lib.hid (cp.QBox.keep Hb4_v45.out hb)
          have HcA_v46 := Lib.hid (CpIn.keep HcA_v45.out hb)
          have HcB_v46 := Lib.hid hc
          have HS_v46 := Lib.hid hs
          clear HB_v45 Hb4_v45 HcA_v45
          clear hb hc hs hC
          refine wpAnyH_ready (rs := [4]) (by kernel_rfl) (by simp) ?_
          refine AllReadyH.cons rfl (fun K hK => ?_) ?_
          · go_simp
            refine hK.out _ _ ?hS (fun hHeld => ?_)
            case hS => exact below_alloc HB_v46.out _
            clear hK K hHeld
            try simp only [Act.put, List.setIfInBounds_toArray, List.set_cons_zero, List.set_cons_succ]
            have hb : Below v46.heap.size v46 (v46.alloc (.cells #[.int .u16 0, .slice none 0 0, .slice none 0 0, .slice none 0 0, .slice none 0 0] 28)) := (Below.refl _ _).alloc (Nat.le_refl _) _
            have hq : ZB (v46.alloc (.cells #[.int .u16 0, .slice none 0 0, .slice none 0 0, .slice none 0 0, .slice none 0 0] 28)) v46.heap.size := cp.QBox.new _ _ _ _ _ _
            have hs : (v46.alloc (.cells #[.int .u16 0, .slice none 0 0, .slice none 0 0, .slice none 0 0, .slice none 0 0] 28)).heap.size = v46.heap.size + 1 := by simp
            obtain ⟨v47, hv⟩ : ∃ W, W = v46.alloc (.cells #[.int .u16 0, .slice none 0 0, .slice none 0 0, .slice none 0 0, .slice none 0 0] 28) := ⟨_, rfl⟩
            rw [← hv] at hb hq hs
            rw [← hv]
            clear hv
            have HB_v47 := Lib.hid (below_two HB_v46.out hb)
            have Hb4_v47 := Lib.hid (cp.QBox.keep Hb4_v46.out hb)
            have HcA_v47 := Lib.hid (CpIn.keep HcA_v46.out hb)
            have HcB_v47 := Lib.hid (CpIn.keep HcB_v46.out hb)
            have Hb3_v47 := Lib.hid hq
            have HS_v47 := Lib.hid hs
            clear HB_v46 Hb4_v46 HcA_v46 HcB_v46
            clear hb hq hs
            refine wpAnyH_ready (rs := [6]) (by kernel_rfl) (by simp) ?_
            refine AllReadyH.cons rfl (fun K hK => ?_) ?_
            · obtain ⟨a0, a1, a2, a3, a4⟩ := cp.QBox.cells Hb3_v47.out
              have f0 := cp.QBox.frozen (j := 0) Hb3_v47.out
              have f1 := cp.QBox.frozen (j := 1) Hb3_v47.out
              have f2 := cp.QBox.frozen (j := 2) Hb3_v47.out
              have f3 := cp.QBox.frozen (j := 3) Hb3_v47.out
              have f4 := cp.QBox.frozen (j := 4) Hb3_v47.out
              go_simp
              have hlow : w1.heap.size ≤ v46.heap.size := by
                have := HS_v44.out
                have := HS_v45.out
                have := HS_v46.out
                have := HS_v47.out
                have := HS0.out
                omega
              have hne : v0.heap.size ≠ v46.heap.size := by
                have := HS_v44.out
                have := HS_v45.out
                have := HS_v46.out
                have := HS_v47.out
                omega
              have hnA : ¬ (v44.heap.size ≤ v46.heap.size ∧ v46.heap.size < v45.heap.size) := by
                have := HS_v44.out
                have := HS_v45.out
                have := HS_v46.out
                have := HS_v47.out
                omega
              have hnB : ¬ (v45.heap.size ≤ v46.heap.size ∧ v46.heap.size < v46.heap.size) := by
                have := HS_v44.out
                have := HS_v45.out
                have := HS_v46.out
                have := HS_v47.out
                omega
              have ho := chain_only v47 (v46.heap.size) P Ka
              have hq := chain_kb (P := P) (K := Ka) Hb3_v47.out
              refine hK.out _ _ ?hS (fun hHeld => ?_)
              case hS => exact only_below2 HB_v47.out ho hlow
              clear hK K hHeld
              try simp only [Act.put, List.setIfInBounds_toArray, List.set_cons_zero, List.set_cons_succ]
              obtain ⟨v48, hv⟩ : ∃ W, W = chainV v47 (v46.heap.size) P Ka := ⟨_, rfl⟩
              rw [← hv] at ho hq
              unfold chainV at hv
              rw [← hv]
              clear hv a0 a1 a2 a3 a4 f0 f1 f2 f3 f4
              have HB_v48 := Lib.hid (only_below2 HB_v47.out ho hlow)
              have Hb4_v48 := Lib.hid (QBox.only Hb4_v47.out ho hne)
              have HcA_v48 := Lib.hid (CpIn.only HcA_v47.out ho hnA)
              have HcB_v48 := Lib.hid (CpIn.only HcB_v47.out ho hnB)
              have Hb3_v48 := Lib.hid hq
              clear HB_v47 Hb3_v47 Hb4_v47 HcA_v47 HcB_v47
              clear ho hq hlow hne hnA hnB
              refine wpAnyH_ready (rs := [7]) (by kernel_rfl) (by simp) ?_
              refine AllReadyH.cons rfl (fun K hK => ?_) ?_
              · obtain ⟨a0, a1, a2, a3, a4⟩ := cp.QBox.cells Hb4_v48.out
                have f0 := cp.QBox.frozen (j := 0) Hb4_v48.out
                have f1 := cp.QBox.frozen (j := 1) Hb4_v48.out
                have f2 := cp.QBox.frozen (j := 2) Hb4_v48.out
                have f3 := cp.QBox.frozen (j := 3) Hb4_v48.out
                have f4 := cp.QBox.frozen (j := 4) Hb4_v48.out
                go_simp
                have hlow : w1.heap.size ≤ v0.heap.size := by
                  have := HS_v44.out
                  have := HS_v45.out
                  have := HS_v46.out
                  have := HS_v47.out
                  have := HS0.out
                  omega
                have hne : v46.heap.size ≠ v0.heap.size := by
                  have := HS_v44.out
                  have := HS_v45.out
                  have := HS_v46.out
                  have := HS_v47.out
                  omega
                have hnA : ¬ (v44.heap.size ≤ v0.heap.size ∧ v0.heap.size < v45.heap.size) := by
                  have := HS_v44.out
                  have := HS_v45.out
                  have := HS_v46.out
                  have := HS_v47.out
                  omega
                have hnB : ¬ (v45.heap.size ≤ v0.heap.size ∧ v0.heap.size < v46.heap.size) := by
                  have := HS_v44.out
                  have := HS_v45.out
                  have := HS_v46.out
                  have := HS_v47.out
                  omega
                have ho := chain_only v48 (v0.heap.size) P Kb
                have hq := chain_kb (P := P) (K := Kb) Hb4_v48.out
                refine hK.out _ _ ?hS (fun hHeld => ?_)
                case hS => exact only_below2 HB_v48.out ho hlow
                clear hK K hHeld
                try simp only [Act.put, List.setIfInBounds_toArray, List.set_cons_zero, List.set_cons_succ]
                obtain ⟨v49, hv⟩ : ∃ W, W = chainV v48 (v0.heap.size) P Kb := ⟨_, rfl⟩
                rw [← hv] at ho hq
                unfold chainV at hv
                rw [← hv]
                clear hv a0 a1 a2 a3 a4 f0 f1 f2 f3 f4
                have HB_v49 := Lib.hid (only_below2 HB_v48.out ho hlow)
                have Hb3_v49 := Lib.hid (QBox.only Hb3_v48.out ho hne)
                have HcA_v49 := Lib.hid (CpIn.only HcA_v48.out ho hnA)
                have HcB_v49 := Lib.hid (CpIn.only HcB_v48.out ho hnB)
                have Hb4_v49 := Lib.hid hq
                clear HB_v48 Hb3_v48 Hb4_v48 HcA_v48 HcB_v48
                clear ho hq hlow hne hnA hnB
                refine wpAnyH_done (by kernel_rfl) ?_ _
                go_wp2_with fail
                go_meet
                refine own_fin (lo := v44.heap.size) (hi := v45.heap.size) (lo2 := v45.heap.size) (hi2 := v46.heap.size) (K := Ka) (K2 := Kb) (below_two HB1.out HB_v49.out) (HPB1.out.keep HB_v49.out) ?_ Hb3_v49.out Hb4_v49.out HcA_v49.out HcB_v49.out ?_ ?_ ?_
                all_goals
                  have := HS_v44.out
                  have := HS_v45.out
                  have := HS_v46.out
                  have := HS_v47.out
                  have := HS0.out
                  have := HLT.out
                  omega
              exact AllReadyH.nil
            exact AllReadyH.nil
          exact AllReadyH.nil
        refine AllReadyH.cons rfl (fun K hK => ?_) ?_
        · go_simp
          refine hK.out _ _ ?hS (fun hHeld => ?_)
          case hS => exact below_alloc HB_v45.out _
          clear hK K hHeld
          try simp only [Act.put, List.setIfInBounds_toArray, List.set_cons_zero, List.set_cons_succ]
          have hb : Below v45.heap.size v45 (v45.alloc (.cells #[.int .u16 0, .slice none 0 0, .slice none 0 0, .slice none 0 0, .slice none 0 0] 28)) := (Below.refl _ _).alloc (Nat.le_refl _) _
          have hq : ZB (v45.alloc (.cells #[.int .u16 0, .slice none 0 0, .slice none 0 0, .slice none 0 0, .slice none 0 0] 28)) v45.heap.size := cp.QBox.new _ _ _ _ _ _
          have hs : (v45.alloc (.cells #[.int .u16 0, .slice none 0 0, .slice none 0 0, .slice none 0 0, .slice none 0 0] 28)).heap.size = v45.heap.size + 1 := by simp
          obtain ⟨v50, hv⟩ : ∃ W, W = v45.alloc (.cells #[.int .u16 0, .slice none 0 0, .slice none 0 0, .slice none 0 0, .slice none 0 0] 28) := ⟨_, rfl⟩
          rw [← hv] at hb hq hs
          rw [← hv]
          clear hv
          have HB_v50 := Lib.hid (below_two HB_v45.out hb)
          have Hb4_v50 := Lib.hid (cp.QBox.keep Hb4_v45.out hb)
          have HcA_v50 := Lib.hid (CpIn.keep HcA_v45.out hb)
          have Hb3_v50 := Lib.hid hq
          have HS_v50 := Lib.hid hs
          clear HB_v45 Hb4_v45 HcA_v45
          clear hb hq hs
          refine wpAnyH_ready (rs := [3]) (by kernel_rfl) (by simp) ?_
          refine AllReadyH.cons rfl (fun K hK => ?_) ?_
          · go_simp
            refine (HC.out _ (below_two HB1.out HB_v50.out) HFW.out).mono ?_
            rintro e v51 ⟨Kb, rfl, hC, hb⟩
            rw [HPV.out]
            go_wp2_with fail
            refine hK.out _ _ ?hS (fun hHeld => ?_)
            case hS => exact below_two HB_v50.out hb
            clear hK K hHeld
            try simp only [Act.put, List.setIfInBounds_toArray, List.set_cons_zero, List.set_cons_succ]
            have hc := CpIn.new hC
            have hs := hb.size
            have HB_v51 := Lib.hid (below_two HB_v50.out hb)
            have Hb3_v51 := Lib.hid (cp.QBox.keep Hb3_v50.out hb)
            have Hb4_v51 := Lib.hid (cp.QBox.keep Hb4_v50.out hb)
            have HcA_v51 := Lib.hid (CpIn.keep HcA_v50.out hb)
            have HcB_v51 := Lib.hid hc
            have HS_v51 := Lib.hid hs
            clear HB_v50 Hb3_v50 Hb4_v50 HcA_v50
            clear hb hc hs hC
            refine wpAnyH_ready (rs := [6]) (by kernel_rfl) (by simp) ?_
            refine AllReadyH.cons rfl (fun K hK => ?_) ?_
            · obtain ⟨a0, a1, a2, a3, a4⟩ := cp.QBox.cells Hb3_v51.out
              have f0 := cp.QBox.frozen (j := 0) Hb3_v51.out
              have f1 := cp.QBox.frozen (j := 1) Hb3_v51.out
              have f2 := cp.QBox.frozen (j := 2) Hb3_v51.out
              have f3 := cp.QBox.frozen (j := 3) Hb3_v51.out
              have f4 := cp.QBox.frozen (j := 4) Hb3_v51.out
              go_simp
              have hlow : w1.heap.size ≤ v45.heap.size := by
                have := HS_v44.out
                have := HS_v45.out
                have := HS_v50.out
                have := HS_v51.out
                have := HS0.out
                omega
              have hne : v0.heap.size ≠ v45.heap.size := by
                have := HS_v44.out
                have := HS_v45.out
                have := HS_v50.out
                have := HS_v51.out
                omega
              have hnA : ¬ (v44.heap.size ≤ v45.heap.size ∧ v45.heap.size < v45.heap.size) := by
                have := HS_v44.out
                have := HS_v45.out
                have := HS_v50.out
                have := HS_v51.out
                omega
              have hnB : ¬ (v50.heap.size ≤ v45.heap.size ∧ v45.heap.size < v51.heap.size) := by
                have := HS_v44.out
                have := HS_v45.out
                have := HS_v50.out
                have := HS_v51.out
                omega
              have ho := chain_only v51 (v45.heap.size) P Ka
              have hq := chain_kb (P := P) (K := Ka) Hb3_v51.out
              refine hK.out _ _ ?hS (fun hHeld => ?_)
              case hS => exact only_below2 HB_v51.out ho hlow
              clear hK K hHeld
              try simp only [Act.put, List.setIfInBounds_toArray, List.set_cons_zero, List.set_cons_succ]
              obtain ⟨v52, hv⟩ : ∃ W, W = chainV v51 (v45.heap.size) P Ka := ⟨_, rfl⟩
              rw [← hv] at ho hq
              unfold chainV at hv
              rw [← hv]
              clear hv a0 a1 a2 a3 a4 f0 f1 f2 f3 f4
              have HB_v52 := Lib.hid (only_below2 HB_v51.out ho hlow)
              have Hb4_v52 := Lib.hid (QBox.only Hb4_v51.out ho hne)
              have HcA_v52 := Lib.hid (CpIn.only HcA_v51.out ho hnA)
              have HcB_v52 := Lib.hid (CpIn.only HcB_v51.out ho hnB)
              have Hb3_v52 := Lib.hid hq
              clear HB_v51 Hb3_v51 Hb4_v51 HcA_v51 HcB_v51
              clear ho hq hlow hne hnA hnB
              refine wpAnyH_ready (rs := [7]) (by kernel_rfl) (by simp) ?_
              refine AllReadyH.cons rfl (fun K hK => ?_) ?_
              · obtain ⟨a0, a1, a2, a3, a4⟩ := cp.QBox.cells Hb4_v52.out
                have f0 := cp.QBox.frozen (j := 0) Hb4_v52.out
                have f1 := cp.QBox.frozen (j := 1) Hb4_v52.out
                have f2 := cp.QBox.frozen (j := 2) Hb4_v52.out
                have f3 := cp.QBox.frozen (j := 3) Hb4_v52.out
                have f4 := cp.QBox.frozen (j := 4) Hb4_v52.out
                go_simp
                have hlow : w1.heap.size ≤ v0.heap.size := by
                  have := HS_v44.out
                  have := HS_v45.out
                  have := HS_v50.out
                  have := HS_v51.out
                  have := HS0.out
                  omega
                have hne : v45.heap.size ≠ v0.heap.size := by
                  have := HS_v44.out
                  have := HS_v45.out
                  have := HS_v50.out
                  have := HS_v51.out
                  omega
                have hnA : ¬ (v44.heap.size ≤ v0.heap.size ∧ v0.heap.size < v45.heap.size) := by
                  have := HS_v44.out
                  have := HS_v45.out
                  have := HS_v50.out
                  have := HS_v51.out
                  omega
                have hnB : ¬ (v50.heap.size ≤ v0.heap.size ∧ v0.heap.size < v51.heap.size) := by
                  have := HS_v44.out
                  have := HS_v45.out
                  have := HS_v50.out
                  have := HS_v51.out
                  omega
                have ho := chain_only v52 (v0.heap.size) P Kb
                have hq := chain_kb (P := P) (K := Kb) Hb4_v52.out
                refine hK.out _ _ ?hS (fun hHeld => ?_)
                case hS => exact only_below2 HB_v52.out ho hlow
                clear hK K hHeld
                try simp only [Act.put, List.setIfInBounds_toArray, List.set_cons_zero, List.set_cons_succ]
                obtain ⟨v53, hv⟩ : ∃ W, W = chainV v52 (v0.heap.size) P Kb := ⟨_, rfl⟩
                rw [← hv] at ho hq
                unfold chainV at hv
                rw [← hv]
                clear hv a0 a1 a2 a3 a4 f0 f1 f2 f3 f4
                have HB_v53 := Lib.hid (only_below2 HB_v52.out ho hlow)
                have Hb3_v53 := Lib.hid (QBox.only Hb3_v52.out ho hne)
                have HcA_v53 := Lib.hid (CpIn.only HcA_v52.out ho hnA)
                have HcB_v53 := Lib.hid (CpIn.only HcB_v52.out ho hnB)
                have Hb4_v53 := Lib.hid hq
                clear HB_v52 Hb3_v52 Hb4_v52 HcA_v52 HcB_v52
                clear ho hq hlow hne hnA hnB
                refine wpAnyH_done (by kernel_rfl) ?_ _
                go_wp2_with fail
                go_meet
                refine own_fin (lo := v44.heap.size) (hi := v45.heap.size) (lo2 := v50.heap.size) (hi2 := v51.heap.size) (K := Ka) (K2 := Kb) (below_two HB1.out HB_v53.out) (HPB1.out.keep HB_v53.out) ?_ Hb3_v53.out Hb4_v53.out HcA_v53.out HcB_v53.out ?_ ?_ ?_
                all_goals
                  have := HS_v44.out
                  have := HS_v45.out
                  have := HS_v50.out
                  have := HS_v51.out
                  have := HS0.out
                  have := HLT.out
                  omega
              exact AllReadyH.nil
            exact AllReadyH.nil
          exact AllReadyH.nil
        exact AllReadyH.nil
      refine AllReadyH.cons rfl (fun K hK => ?_) ?_
      · go_simp
        refine hK.out _ _ ?hS (fun hHeld => ?_)
        case hS => exact below_alloc HB_v44.out _
        clear hK K hHeld
        try simp only [Act.put, List.setIfInBounds_toArray, List.set_cons_zero, List.set_cons_succ]
        have hb : Below v44.heap.size v44 (v44.alloc (.cells #[.int .u16 0, .slice none 0 0, .slice none 0 0, .slice none 0 0, .slice none 0 0] 28)) := (Below.refl _ _).alloc (Nat.le_refl _) _
        have hq : ZB (v44.alloc (.cells #[.int .u16 0, .slice none 0 0, .slice none 0 0, .slice none 0 0, .slice none 0 0] 28)) v44.heap.size := cp.QBox.new _ _ _ _ _ _
        have hs : (v44.alloc (.cells #[.int .u16 0, .slice none 0 0, .slice none 0 0, .slice none 0 0, .slice none 0 0] 28)).heap.size = v44.heap.size + 1 := by simp
        obtain ⟨v54, hv⟩ : ∃ W, W = v44.alloc (.cells #[.int .u16 0, .slice none 0 0, .slice none 0 0, .slice none 0 0, .slice none 0 0] 28) := ⟨_, rfl⟩
        rw [← hv] at hb hq hs
        rw [← hv]
        clear hv
        have HB_v54 := Lib.hid (below_two HB_v44.out hb)
        have Hb4_v54 := Lib.hid (cp.QBox.keep Hb4_v44.out hb)
        have Hb3_v54 := Lib.hid hq
        have HS_v54 := Lib.hid hs
        clear HB_v44 Hb4_v44
        clear hb hq hs
        refine wpAnyH_ready (rs := [1]) (by kernel_rfl) (by simp) ?_
        refine AllReadyH.cons rfl (fun K hK => ?_) ?_
        · go_simp
          refine (HC.out _ (below_two HB1.out HB_v54.out) HFW.out).mono ?_
          rintro e v55 ⟨Ka, rfl, hC, hb⟩
          rw [HPV.out]
          go_wp2_with fail
          refine hK.out _ _ ?hS (fun hHeld => ?_)
          case hS => exact below_two HB_v54.out hb
          clear hK K hHeld
          try simp only [Act.put, List.setIfInBounds_toArray, List.set_cons_zero, List.set_cons_succ]
          have hc := CpIn.new hC
          have hs := hb.size
          have HB_v55 := Lib.hid (below_two HB_v54.out hb)
          have Hb3_v55 := Lib.hid (cp.QBox.keep Hb3_v54.out hb)
          have Hb4_v55 := Lib.hid (cp.QBox.keep Hb4_v54.out hb)
          have HcA_v55 := Lib.hid hc
          have HS_v55 := Lib.hid hs
          clear HB_v54 Hb3_v54 Hb4_v54
          clear hb hc hs hC
          refine wpAnyH_ready (rs := [3]) (by kernel_rfl) (by simp) ?_
          refine AllReadyH.cons rfl (fun K hK => ?_) ?_
          · go_simp
            refine (HC.out _ (below_two HB1.out HB_v55.out) HFW.out).mono ?_
            rintro e v56 ⟨Kb, rfl, hC, hb⟩
            rw [HPV.out]
            go_wp2_with fail
            refine hK.out _ _ ?hS (fun hHeld => ?_)
            case hS => exact below_two HB_v55.out hb
            clear hK K hHeld
            try simp only [Act.put, List.setIfInBounds_toArray, List.set_cons_zero, List.set_cons_succ]
            have hc := CpIn.new hC
            have hs := hb.size
            have HB_v56 := Lib.hid (below_two HB_v55.out hb)
            have Hb3_v56 := Lib.hid (cp.QBox.keep Hb3_v55.out hb)
            have Hb4_v56 := Lib.hid (cp.QBox.keep Hb4_v55.out hb)
            have HcA_v56 := Lib.hid (CpIn.keep HcA_v55.out hb)
            have HcB_v56 := Lib.hid hc
            have HS_v56 := Lib.hid hs
            clear HB_v55 Hb3_v55 Hb4_v55 HcA_v55
            clear hb hc hs hC
            refine wpAnyH_ready (rs := [6]) (by kernel_rfl) (by simp) ?_
            refine AllReadyH.cons rfl (fun K hK => ?_) ?_
            · obtain ⟨a0, a1, a2, a3, a4⟩ := cp.QBox.cells Hb3_v56.out
              have f0 := cp.QBox.frozen (j := 0) Hb3_v56.out
              have f1 := cp.QBox.frozen (j := 1) Hb3_v56.out
              have f2 := cp.QBox.frozen (j := 2) Hb3_v56.out
              have f3 := cp.QBox.frozen (j := 3) Hb3_v56.out
              have f4 := cp.QBox.frozen (j := 4) Hb3_v56.out
              go_simp
              have hlow : w1.heap.size ≤ v44.heap.size := by
                have := HS_v44.out
                have := HS_v54.out
                have := HS_v55.out
                have := HS_v56.out
                have := HS0.out
                omega
              have hne : v0.heap.size ≠ v44.heap.size := by
                have := HS_v44.out
                have := HS_v54.out
                have := HS_v55.out
                have := HS_v56.out
                omega
              have hnA : ¬ (v54.heap.size ≤ v44.heap.size ∧ v44.heap.size < v55.heap.size) := by
                have := HS_v44.out
                have := HS_v54.out
                have := HS_v55.out
                have := HS_v56.out
                omega
              have hnB : ¬ (v55.heap.size ≤ v44.heap.size ∧ v44.heap.size < v56.heap.size) := by
                have := HS_v44.out
                have := HS_v54.out
                have := HS_v55.out
                have := HS_v56.out
                omega
              have ho := chain_only v56 (v44.heap.size) P Ka
              have hq := chain_kb (P := P) (K := Ka) Hb3_v56.out
              refine hK.out _ _ ?hS (fun hHeld => ?_)
              case hS => exact only_below2 HB_v56.out ho hlow
              clear hK K hHeld
              try simp only [Act.put, List.setIfInBounds_toArray, List.set_cons_zero, List.set_cons_succ]
              obtain ⟨v57, hv⟩ : ∃ W, W = chainV v56 (v44.heap.size) P Ka := ⟨_, rfl⟩
              rw [← hv] at ho hq
              unfold chainV at hv
              rw [← hv]
              clear hv a0 a1 a2 a3 a4 f0 f1 f2 f3 f4
              have HB_v57 := Lib.hid (only_below2 HB_v56.out ho hlow)
              have Hb4_v57 := Lib.hid (QBox.only Hb4_v56.out ho hne)
              have HcA_v57 := Lib.hid (CpIn.only HcA_v56.out ho hnA)
              have HcB_v57 := Lib.hid (CpIn.only HcB_v56.out ho hnB)
              have Hb3_v57 := Lib.hid hq
              clear HB_v56 Hb3_v56 Hb4_v56 HcA_v56 HcB_v56
              clear ho hq hlow hne hnA hnB
              refine wpAnyH_ready (rs := [7]) (by kernel_rfl) (by simp) ?_
              refine AllReadyH.cons rfl (fun K hK => ?_) ?_
              · obtain ⟨a0, a1, a2, a3, a4⟩ := cp.QBox.cells Hb4_v57.out
                have f0 := cp.QBox.frozen (j := 0) Hb4_v57.out
                have f1 := cp.QBox.frozen (j := 1) Hb4_v57.out
                have f2 := cp.QBox.frozen (j := 2) Hb4_v57.out
                have f3 := cp.QBox.frozen (j := 3) Hb4_v57.out
                have f4 := cp.QBox.frozen (j := 4) Hb4_v57.out
                go_simp
                have hlow : w1.heap.size ≤ v0.heap.size := by
                  have := HS_v44.out
                  have := HS_v54.out
                  have := HS_v55.out
                  have := HS_v56.out
                  have := HS0.out
                  omega
                have hne : v44.heap.size ≠ v0.heap.size := by
                  have := HS_v44.out
                  have := HS_v54.out
                  have := HS_v55.out
                  have := HS_v56.out
                  omega
                have hnA : ¬ (v54.heap.size ≤ v0.heap.size ∧ v0.heap.size < v55.heap.size) := by
                  have := HS_v44.out
                  have := HS_v54.out
                  have := HS_v55.out
                  have := HS_v56.out
                  omega
                have hnB : ¬ (v55.heap.size ≤ v0.heap.size ∧ v0.heap.size < v56.heap.size) := by
                  have := HS_v44.out
                  have := HS_v54.out
                  have := HS_v55.out
                  have := HS_v56.out
                  omega
                have ho := chain_only v57 (v0.heap.size) P Kb
                have hq := chain_kb (P := P) (K := Kb) Hb4_v57.out
                refine hK.out _ _ ?hS (fun hHeld => ?_)
                case hS => exact only_below2 HB_v57.out ho hlow
                clear hK K hHeld
                try simp only [Act.put, List.setIfInBounds_toArray, List.set_cons_zero, List.set_cons_succ]
                obtain ⟨v58, hv⟩ : ∃ W, W = chainV v57 (v0.heap.size) P Kb := ⟨_, rfl⟩
                rw [← hv] at ho hq
                unfold chainV at hv
                rw [← hv]
                clear hv a0 a1 a2 a3 a4 f0 f1 f2 f3 f4
                have HB_v58 := Lib.hid (only_below2 HB_v57.out ho hlow)
                have Hb3_v58 := Lib.hid (QBox.only Hb3_v57.out ho hne)
                have HcA_v58 := Lib.hid (CpIn.only HcA_v57.out ho hnA)
                have HcB_v58 := Lib.hid (CpIn.only HcB_v57.out ho hnB)
                have Hb4_v58 := Lib.hid hq
                clear HB_v57 Hb3_v57 Hb4_v57 HcA_v57 HcB_v57
                clear ho hq hlow hne hnA hnB
                refine wpAnyH_done (by kernel_rfl) ?_ _
                go_wp2_with fail
                go_meet
                refine own_fin (lo := v54.heap.size) (hi := v55.heap.size) (lo2 := v55.heap.size) (hi2 := v56.heap.size) (K := Ka) (K2 := Kb) (below_two HB1.out HB_v58.out) (HPB1.out.keep HB_v58.out) ?_ Hb3_v58.out Hb4_v58.out HcA_v58.out HcB_v58.out ?_ ?_ ?_
                all_goals
                  have := HS_v44.out
                  have := HS_v54.out
                  have := HS_v55.out
                  have := HS_v56.out
                  have := HS0.out
                  have := HLT.out
                  omega
              exact AllReadyH.nil
            exact AllReadyH.nil
          exact AllReadyH.nil
        exact AllReadyH.nil
      exact AllReadyH.nil
    exact AllReadyH.nil
  case rest =>
    obtain ⟨bA, bB, lo, hi, K, K2, rfl, rfl, hB, hpb, hlo, hpA, -, hcp, hpB, hnB, hend⟩ := hcut
    rename World => W0
    obtain ⟨n1, hn1⟩ : ∃ n, n = P.2.1.length := ⟨_, rfl⟩
    obtain ⟨n2, hn2⟩ : ∃ n, n = P.2.2.1.length := ⟨_, rfl⟩
    obtain ⟨n3, hn3⟩ : ∃ n, n = P.2.2.2.1.length := ⟨_, rfl⟩
    obtain ⟨n4, hn4⟩ : ∃ n, n = P.2.2.2.2.length := ⟨_, rfl⟩
    rw [← hn1] at h1
    rw [← hn2] at h2
    rw [← hn3] at h3
    rw [← hn4] at h4
    have HN1 := Lib.hid hn1
    have HN2 := Lib.hid hn2
    have HN3 := Lib.hid hn3
    have HN4 := Lib.hid hn4
    have HBW := Lib.hid hB
    have HPBW := Lib.hid hpb
    have HLO := Lib.hid hlo
    have HPA := Lib.hid hpA
    have HCP := Lib.hid hcp
    have HPBB := Lib.hid hpB
    have HNB := Lib.hid hnB
    have HEND := Lib.hid hend
    clear hn1 hn2 hn3 hn4 hB hpb hlo hpA hcp hpB hnB hend
    go_wp2_with fail
    go_loopw [5] (fun i wr => SRel lo hi W0 n1 i wr) (fun i _ => n1 - (intOf i).toNat)
    case atStart => exact ⟨0, Nat.zero_le _, rfl, Soft.refl _ _ _⟩
    case round => as_aux_lemma =>
      obtain ⟨k, hk, rfl, hS⟩ := hrel
      have HS5L := Lib.hid hS
      have k1 := hS.sl HPA.out.2.1
      have k2 := hS.sl HPA.out.2.2.1
      have k3 := hS.sl HPA.out.2.2.2.1
      have k4 := hS.sl HPA.out.2.2.2.2
      rw [← HN1.out] at k1
      rw [← HN2.out] at k2
      rw [← HN3.out] at k3
      rw [← HN4.out] at k4
      clear hS
      by_cases hltk : k < n1
      · have hlw : k < P.2.1.length := by rw [← HN1.out]; exact hltk
        obtain ⟨S, r1, r2⟩ := HCP.out.cores
        obtain ⟨b, o, hA⟩ := Arr.head r1 hlw
        rw [hA] at r1 k1
        obtain ⟨s1, s3⟩ := r2 k hlw
        have hle := H5.out _ (getD_mem [] hlw)
        obtain ⟨ws, hx⟩ : ∃ x, x = P.2.1.getD k [] := ⟨_, rfl⟩
        rw [← hx] at s1 hle
        have q0 := Arr.at (j := 0) r1 hlw rfl
        obtain ⟨m, hm⟩ : ∃ m, m = ws.length := ⟨_, rfl⟩
        simp only [← hx, slV, Nat.add_zero, Nat.mul_one, ← hm] at q0
        rw [← hm] at hle
        have HA := Lib.hid hA
        have HQ0 := Lib.hid q0
        have SA := Lib.hid s1
        have IA := Lib.hid s3
        have HM0 := Lib.hid hm
        have ii0 : (0 : Int) ≤ (k : Int) := Int.natCast_nonneg _
        have ii1 : (k : Int) < (n1 : Int) := by omega
        have c9 := HS5L.out.sl HQ0.out
        clear r1 r2 hA hx hlw s1 s3 hm q0
        go_wp2_with fail
        clear c9 k1 k2 k3 k4
        go_loopw [6] (fun i wr => SRel lo hi W0 m i wr) (fun i _ => m - (intOf i).toNat)
        case atStart => exact ⟨0, Nat.zero_le _, rfl, HS5L.out⟩
        case round => as_aux_lemma =>
          obtain ⟨j, hj, rfl, hS⟩ := hrel
          have HS6 := Lib.hid hS
          have k1 := hS.sl HPA.out.2.1
          have k2 := hS.sl HPA.out.2.2.1
          have k3 := hS.sl HPA.out.2.2.2.1
          have k4 := hS.sl HPA.out.2.2.2.2
          rw [← HN1.out] at k1
          rw [← HN2.out] at k2
          rw [← HN3.out] at k3
          rw [← HN4.out] at k4
          clear hS
          by_cases hltj : j < m
          · rw [HA.out] at k1
            have c9 := HS6.out.sl HQ0.out
            have hlw2 : j < ws.length := by rw [← HM0.out]; exact hltj
            obtain ⟨b2, o2, hA2⟩ := Arr.head SA.out hlw2
            have ha := SA.out
            unfold WinsAt at ha
            rw [hA2] at ha c9
            obtain ⟨i0, i1, i2⟩ := IA.out b2 o2 hA2
            obtain ⟨z, c0⟩ := HS6.out.num (Arr.at (j := 0) ha hlw2 rfl)
            have fz := (HS6.out.froz b2 (o2 + j * 4 + 0)).trans (i2 _)
            try simp only [Nat.add_zero] at c0
            try simp only [Nat.add_zero] at fz
            have jj0 : (0 : Int) ≤ (j : Int) := Int.natCast_nonneg _
            have jj1 : (j : Int) < (m : Int) := by omega
            have HC0 := Lib.hid c0
            clear ha hA2 hlw2 i2
            go_wp2_with fail
            go_roundw
            case rel => exact ⟨j + 1, by omega, by go_num, HS6.out.set HC0.out i0 i1 _⟩
            case measure => simp [intOf]; omega
          · obtain rfl : j = m := by omega
            rw [HA.out] at k1
            have c9 := HS6.out.sl HQ0.out
            go_wp2_with fail
            go_roundw
            case rel => exact ⟨k + 1, by omega, by go_num, HS6.out⟩
            case measure => simp [intOf]; omega
      · obtain rfl : k = n1 := by omega
        go_wp2_with fail
        clear k1 k2 k3 k4
        go_loopw [7] (fun i wr => SRel lo hi W0 n2 i wr) (fun i _ => n2 - (intOf i).toNat)
        case atStart => exact ⟨0, Nat.zero_le _, rfl, HS5L.out⟩
        case round => as_aux_lemma =>
          obtain ⟨k, hk, rfl, hS⟩ := hrel
          have HS7 := Lib.hid hS
          have k1 := hS.sl HPA.out.2.1
          have k2 := hS.sl HPA.out.2.2.1
          have k3 := hS.sl HPA.out.2.2.2.1
          have k4 := hS.sl HPA.out.2.2.2.2
          rw [← HN1.out] at k1
          rw [← HN2.out] at k2
          rw [← HN3.out] at k3
          rw [← HN4.out] at k4
          clear hS
          by_cases hltk : k < n2
          · have hlw : k < P.2.2.1.length := by rw [← HN2.out]; exact hltk
            obtain ⟨S, R, r1, r2⟩ := HCP.out.parts
            obtain ⟨b, o, hA⟩ := Arr.head r1 hlw
            rw [hA] at r1 k2
            obtain ⟨i0, i1, i2⟩ := HCP.out.in2 b o hA
            obtain ⟨⟨s1, s2⟩, s3, s4⟩ := r2 k hlw
            have hle := H6.out _ (getD_mem dQ hlw)
            obtain ⟨⟨ss, ev, pp, a0, a1, a2⟩, hx⟩ : ∃ x, x = P.2.2.1.getD k dQ := ⟨_, rfl⟩
            rw [← hx] at s1 s2 hle
            dsimp only at s1 s2 hle
            have q0 := Arr.at (j := 0) r1 hlw rfl
            have q1 := Arr.at (j := 1) r1 hlw rfl
            have q2 := Arr.at (j := 2) r1 hlw rfl
            obtain ⟨m, hm⟩ : ∃ m, m = ss.length := ⟨_, rfl⟩
            obtain ⟨l, hl⟩ : ∃ m, m = pp.length := ⟨_, rfl⟩
            simp only [← hx, slV, Nat.add_zero, ← hm, ← hl] at q0 q1 q2
            rw [← hm, ← hl] at hle
            obtain ⟨le1, le2⟩ := hle
            have HA := Lib.hid hA
            have HQ0 := Lib.hid q0
            have HQ1 := Lib.hid q1
            have HQ2 := Lib.hid q2
            have SA := Lib.hid s1
            have SB := Lib.hid s2
            have IA := Lib.hid s3
            have IB := Lib.hid s4
            have HM0 := Lib.hid hm
            have HL0 := Lib.hid hl
            have HFZ := Lib.hid (i2 (o + k * 6 + 1))
            have ii0 : (0 : Int) ≤ (k : Int) := Int.natCast_nonneg _
            have ii1 : (k : Int) < (n2 : Int) := by omega
            have c9 := HS7.out.sl HQ0.out
            clear r1 r2 hA hx hlw s1 s2 s3 s4 hm hl q0 q1 q2 i2
            go_wp2_with fail
            clear c9 k1 k2 k3 k4
            go_loopw [8] (fun i wr => SRel lo hi W0 m i wr) (fun i _ => m - (intOf i).toNat)
            case atStart => exact ⟨0, Nat.zero_le _, rfl, HS7.out⟩
            case round => as_aux_lemma =>
              obtain ⟨j, hj, rfl, hS⟩ := hrel
              have HS8 := Lib.hid hS
              have k1 := hS.sl HPA.out.2.1
              have k2 := hS.sl HPA.out.2.2.1
              have k3 := hS.sl HPA.out.2.2.2.1
              have k4 := hS.sl HPA.out.2.2.2.2
              rw [← HN1.out] at k1
              rw [← HN2.out] at k2
              rw [← HN3.out] at k3
              rw [← HN4.out] at k4
              clear hS
              by_cases hltj : j < m
              · rw [HA.out] at k2
                have c9 := HS8.out.sl HQ0.out
                have hlw2 : j < ss.length := by rw [← HM0.out]; exact hltj
                obtain ⟨b2, o2, hA2⟩ := Arr.head SA.out hlw2
                have ha := SA.out
                unfold SemsAt at ha
                rw [hA2] at ha c9
                obtain ⟨i0, i1, i2⟩ := IA.out b2 o2 hA2
                obtain ⟨z, c0⟩ := HS8.out.num (Arr.at (j := 1) ha hlw2 rfl)
                have fz := (HS8.out.froz b2 (o2 + j * 2 + 1)).trans (i2 _)
                try simp only [Nat.add_zero] at c0
                try simp only [Nat.add_zero] at fz
                have jj0 : (0 : Int) ≤ (j : Int) := Int.natCast_nonneg _
                have jj1 : (j : Int) < (m : Int) := by omega
                have HC0 := Lib.hid c0
                clear ha hA2 hlw2 i2
                go_wp2_with fail
                go_roundw
                case rel => exact ⟨j + 1, by omega, by go_num, HS8.out.set HC0.out i0 i1 _⟩
                case measure => simp [intOf]; omega
              · obtain rfl : m = j := by omega
                rw [HA.out] at k2
                have c9 := HS8.out.sl HQ0.out
                go_wp2_with fail
                clear c9 k1 k2 k3 k4
                go_loopw [9] (fun i wr => SRel lo hi W0 l i wr) (fun i _ => l - (intOf i).toNat)
                case atStart => exact ⟨0, Nat.zero_le _, rfl, HS8.out⟩
                case round => as_aux_lemma =>
                  obtain ⟨j, hj, rfl, hS⟩ := hrel
                  have HS9 := Lib.hid hS
                  have k1 := hS.sl HPA.out.2.1
                  have k2 := hS.sl HPA.out.2.2.1
                  have k3 := hS.sl HPA.out.2.2.2.1
                  have k4 := hS.sl HPA.out.2.2.2.2
                  rw [← HN1.out] at k1
                  rw [← HN2.out] at k2
                  rw [← HN3.out] at k3
                  rw [← HN4.out] at k4
                  clear hS
                  by_cases hltj : j < l
                  · rw [HA.out] at k2
                    have c9 := HS9.out.sl HQ2.out
                    have hlw2 : j < pp.length := by rw [← HL0.out]; exact hltj
                    obtain ⟨b2, o2, hA2⟩ := Arr.head SB.out hlw2
                    have ha := SB.out
                    unfold BytesAt at ha
                    rw [hA2] at ha c9
                    obtain ⟨i0, i1, i2⟩ := IB.out b2 o2 hA2
                    obtain ⟨z, c0⟩ := HS9.out.num (Arr.at (j := 0) ha hlw2 rfl)
                    have fz := (HS9.out.froz b2 (o2 + j * 1 + 0)).trans (i2 _)
                    try simp only [Nat.add_zero, Nat.mul_one] at c0
                    try simp only [Nat.add_zero, Nat.mul_one] at fz
                    have jj0 : (0 : Int) ≤ (j : Int) := Int.natCast_nonneg _
                    have jj1 : (j : Int) < (l : Int) := by omega
                    have HC0 := Lib.hid c0
                    clear ha hA2 hlw2 i2
                    go_wp2_with fail
                    go_roundw
                    case rel => exact ⟨j + 1, by omega, by go_num, HS9.out.set HC0.out i0 i1 _⟩
                    case measure => simp [intOf]; omega
                  · obtain rfl : j = l := by omega
                    rw [HA.out] at k2
                    have c9 := HS9.out.sl HQ2.out
                    obtain ⟨z, c1⟩ := HS9.out.num HQ1.out
                    have fz := (HS9.out.froz b (o + k * 6 + 1)).trans HFZ.out
                    have HC0 := Lib.hid c1
                    go_wp2_with fail
                    go_roundw
                    case rel => exact ⟨k + 1, by omega, by go_num, HS9.out.set HC0.out i0 i1 _⟩
                    case measure => simp [intOf]; omega
          · obtain rfl : k = n2 := by omega
            go_wp2_with fail
            clear k1 k2 k3 k4
            go_loopw [10] (fun i wr => SRel lo hi W0 n3 i wr) (fun i _ => n3 - (intOf i).toNat)
            case atStart => exact ⟨0, Nat.zero_le _, rfl, HS7.out⟩
            case round => as_aux_lemma =>
              obtain ⟨k, hk, rfl, hS⟩ := hrel
              have HS10 := Lib.hid hS
              have k1 := hS.sl HPA.out.2.1
              have k2 := hS.sl HPA.out.2.2.1
              have k3 := hS.sl HPA.out.2.2.2.1
              have k4 := hS.sl HPA.out.2.2.2.2
              rw [← HN1.out] at k1
              rw [← HN2.out] at k2
              rw [← HN3.out] at k3
              rw [← HN4.out] at k4
              clear hS
              by_cases hltk : k < n3
              · have hlw : k < P.2.2.2.1.length := by rw [← HN3.out]; exact hltk
                obtain ⟨b, o, hA⟩ := Arr.head HCP.out.chans hlw
                have ha := HCP.out.chans
                unfold ChansAt at ha
                rw [hA] at ha k3
                obtain ⟨i0, i1, i2⟩ := HCP.out.in3 b o hA
                obtain ⟨z, c0⟩ := HS10.out.num (Arr.at (j := 5) ha hlw rfl)
                have fz := (HS10.out.froz b (o + k * 6 + 5)).trans (i2 _)
                try simp only [Nat.add_zero] at c0
                try simp only [Nat.add_zero] at fz
                have ii0 : (0 : Int) ≤ (k : Int) := Int.natCast_nonneg _
                have ii1 : (k : Int) < (n3 : Int) := by omega
                have HC0 := Lib.hid c0
                clear ha hA hlw i2
                go_wp2_with fail
                go_roundw
                case rel => exact ⟨k + 1, by omega, by go_num, HS10.out.set HC0.out i0 i1 _⟩
                case measure => simp [intOf]; omega
              · obtain rfl : k = n3 := by omega
                go_wp2_with fail
                clear k1 k2 k3 k4
                go_loopw [11] (fun i wr => SRel lo hi W0 n4 i wr) (fun i _ => n4 - (intOf i).toNat)
                case atStart => exact ⟨0, Nat.zero_le _, rfl, HS10.out⟩
                case round => as_aux_lemma =>
                  obtain ⟨k, hk, rfl, hS⟩ := hrel
                  have HS11 := Lib.hid hS
                  have k1 := hS.sl HPA.out.2.1
                  have k2 := hS.sl HPA.out.2.2.1
                  have k3 := hS.sl HPA.out.2.2.2.1
                  have k4 := hS.sl HPA.out.2.2.2.2
                  rw [← HN1.out] at k1
                  rw [← HN2.out] at k2
                  rw [← HN3.out] at k3
                  rw [← HN4.out] at k4
                  clear hS
                  by_cases hltk : k < n4
                  · have hlw : k < P.2.2.2.2.length := by rw [← HN4.out]; exact hltk
                    obtain ⟨b, o, hA⟩ := Arr.head HCP.out.pairs hlw
                    have ha := HCP.out.pairs
                    unfold SemsAt at ha
                    rw [hA] at ha k4
                    obtain ⟨i0, i1, i2⟩ := HCP.out.in4 b o hA
                    obtain ⟨z, c0⟩ := HS11.out.num (Arr.at (j := 0) ha hlw rfl)
                    have fz := (HS11.out.froz b (o + k * 2 + 0)).trans (i2 _)
                    try simp only [Nat.add_zero] at c0
                    try simp only [Nat.add_zero] at fz
                    have ii0 : (0 : Int) ≤ (k : Int) := Int.natCast_nonneg _
                    have ii1 : (k : Int) < (n4 : Int) := by omega
                    have HC0 := Lib.hid c0
                    clear ha hA hlw i2
                    go_wp2_with fail
                    go_roundw
                    case rel => exact ⟨k + 1, by omega, by go_num, HS11.out.set HC0.out i0 i1 _⟩
                    case measure => simp [intOf]; omega
                  · obtain rfl : k = n4 := by omega
                    have hend := HEND.out wr fun b hb => by
                      rcases Nat.lt_or_ge b lo with h | h
                      · exact HS11.out.below.block b h
                      · exact HS11.out.up b (by omega)
                    have hbw : Below w.heap.size w wr := HBW.out.trans (HS11.out.below.mono (by have := HLO.out; omega))
                    have hblk : wr.heap[bB]? = W0.heap[bB]? := by
                      rcases Nat.lt_or_ge bB lo with h | h
                      · exact HS11.out.below.block bB h
                      · exact HS11.out.up bB (by have := HNB.out; omega)
                    have hcb : ∀ j, wr.cell? ⟨bB, j, none⟩ = W0.cell? ⟨bB, j, none⟩ := fun j => World.cell?_of_block (a := ⟨bB, j, none⟩) hblk
                    have hcw : ∀ j, wr.cell? ⟨w.heap.size, j, none⟩ = W0.cell? ⟨w.heap.size, j, none⟩ := fun j => World.cell?_of_block (a := ⟨w.heap.size, j, none⟩) (HS11.out.below.block _ HLO.out)
                    have HQ2 := Lib.hid (show PB wr bB P K2 from ⟨(hcb 0).trans HPBB.out.1, (hcb 1).trans HPBB.out.2.1, (hcb 2).trans HPBB.out.2.2.1, (hcb 3).trans HPBB.out.2.2.2.1, (hcb 4).trans HPBB.out.2.2.2.2⟩)
                    have HQ1 := Lib.hid (show PB wr w.heap.size P L from ⟨(hcw 0).trans HPBW.out.1, (hcw 1).trans HPBW.out.2.1, (hcw 2).trans HPBW.out.2.2.1, (hcw 3).trans HPBW.out.2.2.2.1, (hcw 4).trans HPBW.out.2.2.2.2⟩)
                    have HBF := Lib.hid hbw
                    have HPF := Lib.hid hend
                    clear hend hbw hblk hcb hcw
                    go_wp2_with fail
                    clear k1 k2 k3 k4
                    refine (HAW.out _ HBF.out).mono ?_
                    rintro e wx ⟨rfl, hB⟩
                    obtain ⟨k0, k1, k2, k3, k4⟩ := HQ1.out.keep hB
                    obtain ⟨m0, m1, m2, m3, m4⟩ := HQ2.out.keep hB
                    have HBX := Lib.hid (below_two HBF.out hB)
                    have HPX := Lib.hid (HPF.out.keep hB)
                    clear hB
                    go_wp2_with fail
                    refine (HS5.out _ K2 HBX.out HPX.out).mono ?_
                    rintro e wy ⟨rfl, hB⟩
                    have HBY := Lib.hid (below_two HBX.out hB)
                    clear hB
                    go_wp2_with fail
                    go_ret
                    exact ⟨rfl, HBY.out⟩
end Go.Proofs.YtkgkjkghdllkhaaDoor
