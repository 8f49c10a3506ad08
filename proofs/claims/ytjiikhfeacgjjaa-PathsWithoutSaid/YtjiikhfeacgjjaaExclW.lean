/-
  paths.Excludes, and the document's.
-/
import Derived.Test.YtjiikhfeacgjjaaEndsW
namespace Go.Proofs.Ytjiikhfeacgjjaa
open Go.RowKit

def IdxPost (b : Bool) (w : World) (e : Ending) (w' : World) : Prop := ∃ r : Int, e = .returned (.int .i64 r) ∧ decide (0 ≤ r) = b ∧ Below w.heap.size w w'
def IdxRel_sem (w : World) (ws : List SemA) (p : SemA → Bool) (i : Value) (wr : World) : Prop :=
  ∃ k : Nat, k ≤ ws.length ∧ i = .int .i64 k ∧ (∀ j, j < k → p (ws.getD j dS) = false) ∧ Below w.heap.size w wr
set_option maxHeartbeats 4000000 in
theorem index_sem (K : FuncId) (cap : Array Value) (p : SemA → Bool) (A : Option Addr) (c : Nat) (ws : List SemA) (w : World) (hA : SemsAt w A ws) (hK : Enters K) (hn : ws.length ≤ 1000000000000000)
    (hcall : ∀ v W, v ∈ ws → Below w.heap.size w W → Calls Try.prog K (#[sv v] ++ cap) W fun e w' => e = .returned (.bool (p v)) ∧ Below W.heap.size W w') :
    Calls Try.prog 44 #[.slice A ws.length c, .func (.func K) #[] cap] w fun e w' => IdxPost (ws.any p) w e w' := by
  have HA := Lib.hid hA
  have HC := Lib.hid hcall
  have eg := hK
  unfold Enters at eg
  clear hA hcall hK
  obtain ⟨n, hnn⟩ : ∃ n, n = ws.length := ⟨_, rfl⟩
  rw [← hnn] at hn ⊢
  have HN := Lib.hid hnn
  clear hnn
  go_enter Try.func44, Try.ntmps44
  go_wp2_with fail
  go_loopw [8] (fun i wr => IdxRel_sem w ws p i wr) (fun i _ => n - (intOf i).toNat)
  case atStart => exact ⟨0, Nat.zero_le _, rfl, fun j hj => by omega, Below.refl _ _⟩
  case round =>
    obtain ⟨k, hk, rfl, hj, hB⟩ := hrel
    rw [← HN.out] at hk
    have HJ := Lib.hid hj
    have HB := Lib.hid hB
    by_cases hlt : k < n
    · have hlw : k < ws.length := by rw [← HN.out]; exact hlt
      obtain ⟨b, o, rfl⟩ := Arr.head HA.out hlw
      have HC1 := HC.out (ws.getD k dS) _ (getD_mem dS hlw) hB
      obtain ⟨⟨x0, x1⟩, hx⟩ : ∃ x, x = ws.getD k dS := ⟨_, rfl⟩
      have c0 := Arr.at (j := 0) (Arr.keep HA.out HB.out) hlw rfl
      have c1 := Arr.at (j := 1) (Arr.keep HA.out HB.out) hlw rfl
      rw [← hx] at HC1
      simp only [← hx, Nat.add_zero] at c0 c1
      simp only [sv] at HC1
      obtain ⟨q, hq⟩ : ∃ q, q = p (x0, x1) := ⟨_, rfl⟩
      rw [← hq] at HC1
      have HCC := Lib.hid HC1
      have HX := Lib.hid hx
      have HQ := Lib.hid hq
      clear hj hB hx hlw HC1 hq
      cases q
      · go_wp2_with fail
        refine HCC.out.mono ?_
        rintro e w1 ⟨rfl, hB⟩
        have HB1 := Lib.hid hB
        clear hB
        go_wp2_with fail
        go_roundw
        case rel => exact ⟨k + 1, by rw [← HN.out]; omega, by go_num, fun j hj => (by
          rcases Nat.lt_or_ge j k with h | h
          · exact HJ.out j h
          · obtain rfl : j = k := by omega
            rw [← HX.out]; exact HQ.out.symm), below_two HB.out HB1.out⟩
        case measure => simp [intOf]; omega
      · go_wp2_with fail
        refine HCC.out.mono ?_
        rintro e w1 ⟨rfl, hB⟩
        have HB1 := Lib.hid hB
        clear hB
        go_wp2_with fail
        go_ret
        refine ⟨k, rfl, ?_, below_two HB.out HB1.out⟩
        rw [any_at dS (by rw [← HN.out]; exact hlt) (by rw [← HX.out]; exact HQ.out.symm)]
        exact decide_eq_true (by omega)
    · have hk' : k = n := by omega
      subst hk'
      clear hj hB
      go_wp2_with fail
      go_ret
      refine ⟨-1, rfl, ?_, HB.out⟩
      rw [any_none dS (by rw [← HN.out]; exact HJ.out)]
      rfl

theorem contains_sem (K : FuncId) (cap : Array Value) (p : SemA → Bool) (A : Option Addr) (c : Nat) (ws : List SemA) (w : World) (hA : SemsAt w A ws) (hK : Enters K) (hn : ws.length ≤ 1000000000000000)
    (hcall : ∀ v W, v ∈ ws → Below w.heap.size w W → Calls Try.prog K (#[sv v] ++ cap) W fun e w' => e = .returned (.bool (p v)) ∧ Below W.heap.size W w') :
    Calls Try.prog 35 #[.slice A ws.length c, .func (.func K) #[] cap] w fun e w' => e = .returned (.bool (ws.any p)) ∧ Below w.heap.size w w' := by
  have HI := Lib.hid (index_sem K cap p A c ws w hA hK hn hcall)
  clear hA hcall hK
  obtain ⟨n, hnn⟩ : ∃ n, n = ws.length := ⟨_, rfl⟩
  rw [← hnn] at HI ⊢
  obtain ⟨q, hq⟩ : ∃ q, q = ws.any p := ⟨_, rfl⟩
  rw [← hq] at HI ⊢
  clear hn hnn hq
  go_enter Try.func35, Try.ntmps35
  go_wp2_with fail
  refine HI.out.mono ?_
  rintro e w1 ⟨r, rfl, hr, hB⟩
  have HB := Lib.hid hB
  have HR := Lib.hid hr
  clear hB hr
  go_wp2_with fail
  go_ret
  exact ⟨ret_b HR.out, HB.out⟩

def excB (N : Nat) (a b : Int) (rs : List PairA) : Bool := isB N a && isB N b && rs.any (pairB a b)
set_option maxHeartbeats 4000000 in
set_option maxRecDepth 100000 in
theorem excludes_any (P : PlanA) (L : PlanL) (a b : Int) (w : World) (hP : PlanAt w P L) (hw : WfPlan P) (hl : P.2.2.1.length ≤ 140737488355328) (hl4 : P.2.2.2.2.length ≤ 140737488355328) :
    Calls Try.prog 22 #[planV P L, .int .i64 a, .int .i64 b] w fun e w' => e = .returned (.bool (excB P.2.2.1.length a b P.2.2.2.2)) ∧ Below w.heap.size w w' := by
  have HIA := Lib.hid (fun W => isPart_any P L a W hl)
  have HIB := Lib.hid (fun W => isPart_any P L b W hl)
  have HRS := Lib.hid hP.pairs
  have HW := Lib.hid hw.2.2.2.2
  obtain ⟨fr, cs, ps, hs, rs⟩ := P
  obtain ⟨A1, c1, A2, c2, A3, c3, A4, c4⟩ := L
  simp only [planV, excB] at *
  obtain ⟨w0, hw0⟩ : ∃ w0, w0 = ((w.alloc (.cells #[.int .u16 fr, .slice A1 cs.length c1, .slice A2 ps.length c2, .slice A3 hs.length c3, .slice A4 rs.length c4] 28)).alloc (.cells #[.int .i64 a] 3)).alloc (.cells #[.int .i64 b] 3) := ⟨_, rfl⟩
  have hb0 : Below w.heap.size w w0 := by rw [hw0]; exact (((Below.refl _ _).alloc (Nat.le_refl _) _).alloc (by simp) _).alloc (by simp; omega) _
  have hpb : PBn w0 w.heap.size fr A1 cs.length c1 A2 ps.length c2 A3 hs.length c3 A4 rs.length c4 := by rw [hw0]; exact ((PBn.new w fr A1 cs.length c1 A2 ps.length c2 A3 hs.length c3 A4 rs.length c4).alloc _).alloc _
  have hza : w0.cell? ⟨w.heap.size + 1, 0, none⟩ = some (.int .i64 a) := by rw [hw0, World.cell?_alloc_lt _ _ _ (by simp), World.cell?_alloc_at _ _ _ _ (by simp)]; rfl
  have hzb : w0.cell? ⟨w.heap.size + 1 + 1, 0, none⟩ = some (.int .i64 b) := by rw [hw0, World.cell?_alloc_at _ _ _ _ (by simp)]; rfl
  have HPB := Lib.hid hpb
  have HB0 := Lib.hid hb0
  have HZA := Lib.hid hza
  have HZB := Lib.hid hzb
  have HW0 := Lib.hid hw0
  obtain ⟨q1, hq1⟩ : ∃ q, q = isB ps.length a := ⟨_, rfl⟩
  obtain ⟨q2, hq2⟩ : ∃ q, q = isB ps.length b := ⟨_, rfl⟩
  obtain ⟨q3, hq3⟩ : ∃ q, q = rs.any (pairB a b) := ⟨_, rfl⟩
  rw [← hq1] at HIA ⊢
  rw [← hq2] at HIB ⊢
  rw [← hq3]
  have HQ3 := Lib.hid hq3
  have HCN := Lib.hid (fun W hB => contains_sem 36 #[.pointer (some ⟨w.heap.size + 1, 0, none⟩), .pointer (some ⟨w.heap.size + 1 + 1, 0, none⟩)] (pairB a b) A4 c4 rs W (Arr.keep HRS.out (below_two hb0 hB)) enters36 (by omega) fun v W1 hv hB1 => closure36 (w.heap.size + 1) (w.heap.size + 1 + 1) a b v W1 (kept hza (below_two hB hB1)) (kept hzb (below_two hB hB1)) (HW.out v hv))
  rw [← hq3] at HCN
  clear hP hw hl hl4 hw0 hb0 hpb hza hzb hq1 hq2 hq3
  cases q1
  · go_enter Try.func22, Try.ntmps22
    go_wp2_with fail
    rw [← HW0.out]
    refine (HIA.out _).mono ?_
    rintro e w1 ⟨rfl, hB⟩
    have HB1 := Lib.hid (below_two HB0.out hB)
    clear hB
    go_wp2_with fail
    go_ret
    exact ⟨rfl, HB1.out⟩
  · cases q2
    · go_enter Try.func22, Try.ntmps22
      go_wp2_with fail
      rw [← HW0.out]
      refine (HIA.out _).mono ?_
      rintro e w1 ⟨rfl, hB⟩
      obtain ⟨k0, k1, k2, k3, k4⟩ := HPB.out.keep hB
      have kb := kept HZB.out hB
      have HB1 := Lib.hid (below_two HB0.out hB)
      clear hB
      go_wp2_with fail
      refine (HIB.out _).mono ?_
      rintro e w2 ⟨rfl, hB⟩
      have HB2 := Lib.hid (below_two HB1.out hB)
      clear hB
      go_wp2_with fail
      go_ret
      exact ⟨rfl, HB2.out⟩
    · go_enter Try.func22, Try.ntmps22
      go_wp2_with fail
      rw [← HW0.out]
      refine (HIA.out _).mono ?_
      rintro e w1 ⟨rfl, hB⟩
      obtain ⟨k0, k1, k2, k3, k4⟩ := HPB.out.keep hB
      have kb := kept HZB.out hB
      have HB1 := Lib.hid hB
      clear hB
      go_wp2_with fail
      refine (HIB.out _).mono ?_
      rintro e w2 ⟨rfl, hB⟩
      have hB2 := below_two HB1.out hB
      clear k0 k1 k2 k3 k4 kb
      obtain ⟨k0, k1, k2, k3, k4⟩ := HPB.out.keep hB2
      have HB2 := Lib.hid hB2
      clear hB hB2
      go_wp2_with fail
      refine (HCN.out _ HB2.out).mono ?_
      rintro e w3 ⟨rfl, hB⟩
      have HB3 := Lib.hid (below_two HB0.out (below_two HB2.out hB))
      clear hB
      go_wp2_with fail
      go_ret
      exact ⟨ret_b (by simp), HB3.out⟩

def ExRel (w : World) (N : Nat) (a b : Int) (rs : List PairA) (i : Value) (wr : World) : Prop :=
  ∃ k : Nat, k ≤ rs.length ∧ i = .int .i64 k ∧ (∀ j, j < k → (isB N a && isB N b && pairB a b (rs.getD j dS)) = false) ∧ Below w.heap.size w wr
theorem excB_yes {N : Nat} {a b : Int} {rs : List PairA} {k : Nat} (hk : k < rs.length) (h : (isB N a && isB N b && pairB a b (rs.getD k dS)) = true) : excB N a b rs = true := by
  unfold excB
  simp only [Bool.and_eq_true] at h ⊢
  exact ⟨h.1, any_at dS hk h.2⟩
theorem excB_no {N : Nat} {a b : Int} {rs : List PairA} (h : ∀ j, j < rs.length → (isB N a && isB N b && pairB a b (rs.getD j dS)) = false) : excB N a b rs = false := by
  unfold excB
  cases h1 : (isB N a && isB N b) with
  | false => rfl
  | true => rw [any_none dS fun j hj => by have := h j hj; rw [h1] at this; exact this]; rfl
set_option maxHeartbeats 8000000 in
set_option maxRecDepth 100000 in
theorem refExcludes_any (P : PlanA) (L : PlanL) (a b : Int) (w : World) (hP : PlanAt w P L) (hw : WfPlan P) (hl : P.2.2.1.length ≤ 140737488355328) (hl4 : P.2.2.2.2.length ≤ 140737488355328) :
    Calls Try.prog 23 #[planV P L, .int .i64 a, .int .i64 b] w fun e w' => e = .returned (.bool (excB P.2.2.1.length a b P.2.2.2.2)) ∧ Below w.heap.size w w' := by
  have HIA := Lib.hid (fun W => is_any P L a W hl)
  have HIB := Lib.hid (fun W => is_any P L b W hl)
  have hrs := hP.pairs
  have HW := Lib.hid hw.2.2.2.2
  obtain ⟨fr, cs, ps, hs, rs⟩ := P
  obtain ⟨A1, c1, A2, c2, A3, c3, A4, c4⟩ := L
  simp only [planV] at *
  obtain ⟨m, hm⟩ : ∃ m, m = rs.length := ⟨_, rfl⟩
  obtain ⟨N, hN⟩ : ∃ N, N = ps.length := ⟨_, rfl⟩
  rw [← hm] at HIA HIB hl4 ⊢
  rw [← hN] at HIA HIB hl ⊢
  obtain ⟨w0, hw0⟩ : ∃ w0, w0 = w.alloc (.cells #[.int .u16 fr, .slice A1 cs.length c1, .slice A2 N c2, .slice A3 hs.length c3, .slice A4 m c4] 28) := ⟨_, rfl⟩
  have hb0 : Below w.heap.size w w0 := by rw [hw0]; exact (Below.refl _ _).alloc (Nat.le_refl _) _
  have hpb : PBn w0 w.heap.size fr A1 cs.length c1 A2 N c2 A3 hs.length c3 A4 m c4 := by rw [hw0]; exact PBn.new w fr A1 cs.length c1 A2 N c2 A3 hs.length c3 A4 m c4
  have HPB := Lib.hid hpb
  have HB0 := Lib.hid hb0
  have HW0 := Lib.hid hw0
  have HM := Lib.hid hm
  have HRS := Lib.hid (Arr.keep hrs hb0)
  have HBR := Lib.hid (Below.refl w0.heap.size w0)
  obtain ⟨k0, k1, k2, k3, k4⟩ := hpb
  clear hP hw hl hN hm hw0 hb0 hrs
  go_enter Try.func23, Try.ntmps23
  go_wp2_with fail
  rw [← HW0.out]
  go_loopw [7] (fun i wr => ExRel w0 N a b rs i wr) (fun i _ => m - (intOf i).toNat)
  case atStart => exact ⟨0, Nat.zero_le _, rfl, fun j hj => by omega, HBR.out⟩
  case round =>
    obtain ⟨k, hk, rfl, hj, hB⟩ := hrel
    rw [← HM.out] at hk
    have HJ := Lib.hid hj
    have HB := Lib.hid hB
    clear k0 k1 k2 k3 k4
    obtain ⟨k0, k1, k2, k3, k4⟩ := HPB.out.keep hB
    by_cases hlt : k < m
    · have hlm : k < rs.length := by rw [← HM.out]; exact hlt
      obtain ⟨b1, o1, rfl⟩ := Arr.head HRS.out hlm
      obtain ⟨⟨f0, f1⟩, t0, t1⟩ := HW.out _ (getD_mem dS hlm)
      obtain ⟨⟨x, y⟩, hx⟩ : ∃ x, x = rs.getD k dS := ⟨_, rfl⟩
      have c0 := Arr.at (j := 0) (Arr.keep HRS.out hB) hlm rfl
      have c1 := Arr.at (j := 1) (Arr.keep HRS.out hB) hlm rfl
      rw [← hx] at f0 f1 t0 t1
      simp only [← hx, Nat.add_zero] at c0 c1
      dsimp only at f0 f1 t0 t1
      have HX := Lib.hid hx
      have i0 : (0 : Int) ≤ (k : Int) := Int.natCast_nonneg _
      have i1 : (k : Int) < (m : Int) := by omega
      obtain ⟨q1, hq1⟩ : ∃ q, q = isB N a := ⟨_, rfl⟩
      obtain ⟨q2, hq2⟩ : ∃ q, q = isB N b := ⟨_, rfl⟩
      obtain ⟨q, hq⟩ : ∃ q, pairB a b (x, y) = q := ⟨_, rfl⟩
      rw [← hq1] at HIA
      rw [← hq2] at HIB
      have HQ1 := Lib.hid hq1.symm
      have HQ2 := Lib.hid hq2.symm
      have HQ := Lib.hid hq
      clear hj hB hx hlm hq1 hq2 hq
      cases q1
      · go_wp2_with fail
        go_quiet (fail)
        go_wp2_with fail
        refine (HIA.out _).mono ?_
        rintro e w1 ⟨rfl, hB⟩
        obtain ⟨k0, k1, k2, k3, k4⟩ := HPB.out.keep (below_two (below_drewN HB.out _) hB)
        have HB1 := Lib.hid (below_two (below_drewN HB.out _) hB)
        clear hB
        go_wp2_with fail
        go_roundw
        case rel => exact ⟨k + 1, by rw [← HM.out]; omega, by go_num, fun j hj => (by
          rcases Nat.lt_or_ge j k with h | h
          · exact HJ.out j h
          · obtain rfl : j = k := by omega
            rw [← HX.out, HQ1.out]; simp), HB1.out⟩
        case measure => simp [intOf]; omega
      · cases q2
        · go_wp2_with fail
          go_quiet (fail)
          go_wp2_with fail
          refine (HIA.out _).mono ?_
          rintro e w1 ⟨rfl, hB⟩
          obtain ⟨k0, k1, k2, k3, k4⟩ := HPB.out.keep (below_two (below_drewN HB.out _) hB)
          have HB1 := Lib.hid (below_two (below_drewN HB.out _) hB)
          clear hB
          go_wp2_with fail
          refine (HIB.out _).mono ?_
          rintro e w2 ⟨rfl, hB⟩
          have HB2 := Lib.hid (below_two HB1.out hB)
          clear hB k0 k1 k2 k3 k4
          go_wp2_with fail
          go_roundw
          case rel => exact ⟨k + 1, by rw [← HM.out]; omega, by go_num, fun j hj => (by
            rcases Nat.lt_or_ge j k with h | h
            · exact HJ.out j h
            · obtain rfl : j = k := by omega
              rw [← HX.out, HQ2.out]; simp), HB2.out⟩
          case measure => simp [intOf]; omega
        · by_cases h1 : x = a
          · subst h1
            by_cases h2 : y = b
            · subst h2
              obtain rfl : q = true := HQ.out.symm.trans (pairB_yes (by simp))
              go_wp2_with fail
              go_quiet (fail)
              go_wp2_with fail
              refine (HIA.out _).mono ?_
              rintro e w1 ⟨rfl, hB⟩
              obtain ⟨k0, k1, k2, k3, k4⟩ := HPB.out.keep (below_two (below_drewN HB.out _) hB)
              have HB1 := Lib.hid (below_two (below_drewN HB.out _) hB)
              clear hB
              go_wp2_with fail
              refine (HIB.out _).mono ?_
              rintro e w2 ⟨rfl, hB⟩
              have HB2 := Lib.hid (below_two HB1.out hB)
              clear hB k0 k1 k2 k3 k4
              go_wp2_with fail
              go_ret
              exact ⟨ret_b (excB_yes (by rw [← HM.out]; omega) (by rw [← HX.out, HQ1.out, HQ2.out, HQ.out]; rfl)).symm, below_two HB0.out HB2.out⟩
            · by_cases h3 : x = b
              · subst h3
                have n2 : (y == x) = false := by simpa using h2
                obtain rfl : q = false := HQ.out.symm.trans (pairB_no (by simpa using h2))
                clear h2
                go_wp2_with fail
                go_quiet (fail)
                go_wp2_with fail
                refine (HIA.out _).mono ?_
                rintro e w1 ⟨rfl, hB⟩
                obtain ⟨k0, k1, k2, k3, k4⟩ := HPB.out.keep (below_two (below_drewN HB.out _) hB)
                have HB1 := Lib.hid (below_two (below_drewN HB.out _) hB)
                clear hB
                go_wp2_with fail
                refine (HIB.out _).mono ?_
                rintro e w2 ⟨rfl, hB⟩
                have HB2 := Lib.hid (below_two HB1.out hB)
                clear hB k0 k1 k2 k3 k4
                go_wp2_with fail
                go_roundw
                case rel => exact ⟨k + 1, by rw [← HM.out]; omega, by go_num, fun j hj => (by
                  rcases Nat.lt_or_ge j k with h | h
                  · exact HJ.out j h
                  · obtain rfl : j = k := by omega
                    rw [← HX.out, HQ.out]; simp), HB2.out⟩
                case measure => simp [intOf]; omega
              · have n2 : (y == b) = false := by simpa using h2
                have n3 : (x == b) = false := by simpa using h3
                obtain rfl : q = false := HQ.out.symm.trans (pairB_no (by simp [h2, h3]))
                clear h2 h3
                go_wp2_with fail
                go_quiet (fail)
                go_wp2_with fail
                refine (HIA.out _).mono ?_
                rintro e w1 ⟨rfl, hB⟩
                obtain ⟨k0, k1, k2, k3, k4⟩ := HPB.out.keep (below_two (below_drewN HB.out _) hB)
                have HB1 := Lib.hid (below_two (below_drewN HB.out _) hB)
                clear hB
                go_wp2_with fail
                refine (HIB.out _).mono ?_
                rintro e w2 ⟨rfl, hB⟩
                have HB2 := Lib.hid (below_two HB1.out hB)
                clear hB k0 k1 k2 k3 k4
                go_wp2_with fail
                go_roundw
                case rel => exact ⟨k + 1, by rw [← HM.out]; omega, by go_num, fun j hj => (by
                  rcases Nat.lt_or_ge j k with h | h
                  · exact HJ.out j h
                  · obtain rfl : j = k := by omega
                    rw [← HX.out, HQ.out]; simp), HB2.out⟩
                case measure => simp [intOf]; omega
          · by_cases h3 : x = b
            · subst h3
              have n1 : (x == a) = false := by simpa using h1
              by_cases h4 : y = a
              · subst h4
                obtain rfl : q = true := HQ.out.symm.trans (pairB_yes (by simp))
                clear h1
                go_wp2_with fail
                go_quiet (fail)
                go_wp2_with fail
                refine (HIA.out _).mono ?_
                rintro e w1 ⟨rfl, hB⟩
                obtain ⟨k0, k1, k2, k3, k4⟩ := HPB.out.keep (below_two (below_drewN HB.out _) hB)
                have HB1 := Lib.hid (below_two (below_drewN HB.out _) hB)
                clear hB
                go_wp2_with fail
                refine (HIB.out _).mono ?_
                rintro e w2 ⟨rfl, hB⟩
                have HB2 := Lib.hid (below_two HB1.out hB)
                clear hB k0 k1 k2 k3 k4
                go_wp2_with fail
                go_ret
                exact ⟨ret_b (excB_yes (by rw [← HM.out]; omega) (by rw [← HX.out, HQ1.out, HQ2.out, HQ.out]; rfl)).symm, below_two HB0.out HB2.out⟩
              · have n4 : (y == a) = false := by simpa using h4
                obtain rfl : q = false := HQ.out.symm.trans (pairB_no (by simp [h1, h4]))
                clear h1 h4
                go_wp2_with fail
                go_quiet (fail)
                go_wp2_with fail
                refine (HIA.out _).mono ?_
                rintro e w1 ⟨rfl, hB⟩
                obtain ⟨k0, k1, k2, k3, k4⟩ := HPB.out.keep (below_two (below_drewN HB.out _) hB)
                have HB1 := Lib.hid (below_two (below_drewN HB.out _) hB)
                clear hB
                go_wp2_with fail
                refine (HIB.out _).mono ?_
                rintro e w2 ⟨rfl, hB⟩
                have HB2 := Lib.hid (below_two HB1.out hB)
                clear hB k0 k1 k2 k3 k4
                go_wp2_with fail
                go_roundw
                case rel => exact ⟨k + 1, by rw [← HM.out]; omega, by go_num, fun j hj => (by
                  rcases Nat.lt_or_ge j k with h | h
                  · exact HJ.out j h
                  · obtain rfl : j = k := by omega
                    rw [← HX.out, HQ.out]; simp), HB2.out⟩
                case measure => simp [intOf]; omega
            · have n1 : (x == a) = false := by simpa using h1
              have n3 : (x == b) = false := by simpa using h3
              obtain rfl : q = false := HQ.out.symm.trans (pairB_no (by simp [h1, h3]))
              clear h1 h3
              go_wp2_with fail
              go_quiet (fail)
              go_wp2_with fail
              refine (HIA.out _).mono ?_
              rintro e w1 ⟨rfl, hB⟩
              obtain ⟨k0, k1, k2, k3, k4⟩ := HPB.out.keep (below_two (below_drewN HB.out _) hB)
              have HB1 := Lib.hid (below_two (below_drewN HB.out _) hB)
              clear hB
              go_wp2_with fail
              refine (HIB.out _).mono ?_
              rintro e w2 ⟨rfl, hB⟩
              have HB2 := Lib.hid (below_two HB1.out hB)
              clear hB k0 k1 k2 k3 k4
              go_wp2_with fail
              go_roundw
              case rel => exact ⟨k + 1, by rw [← HM.out]; omega, by go_num, fun j hj => (by
                rcases Nat.lt_or_ge j k with h | h
                · exact HJ.out j h
                · obtain rfl : j = k := by omega
                  rw [← HX.out, HQ.out]; simp), HB2.out⟩
              case measure => simp [intOf]; omega
    · have hk' : k = m := by omega
      subst hk'
      clear hj hB
      go_wp2_with fail
      go_ret
      exact ⟨ret_b (excB_no (by rw [← HM.out]; exact HJ.out)).symm, below_two HB0.out HB.out⟩
end Go.Proofs.Ytjiikhfeacgjjaa
