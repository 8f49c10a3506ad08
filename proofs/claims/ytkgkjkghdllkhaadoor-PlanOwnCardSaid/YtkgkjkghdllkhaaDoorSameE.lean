/-
  The given package's Same answers true over two plans that read alike.
-/
import Derived.Test.YtkgkjkghdllkhaaDoorSameD
import Derived.RegionTactic
import Derived.BigRegion
namespace Go.Proofs.YtkgkjkghdllkhaaDoor
open Go.RowKit

theorem kept {w w' : World} {b o : Nat} {v : Value} (h : w.cell? ⟨b, o, none⟩ = some v) (hb : Below w.heap.size w w') : w'.cell? ⟨b, o, none⟩ = some v := by
  rw [hb.cell (p := ⟨b, o, none⟩) (cell_lt' h)]; exact h
theorem below_two {w w1 w2 : World} (h1 : Below w.heap.size w w1) (h2 : Below w1.heap.size w1 w2) : Below w.heap.size w w2 := h1.trans (h2.mono h1.size)
/-- A plan in a block of its own. -/
def PB (W : World) (b : Nat) (P : PlanA) (L : PlanL) : Prop :=
  W.cell? ⟨b, 0, none⟩ = some (.int .u16 P.1) ∧ W.cell? ⟨b, 1, none⟩ = some (.slice L.a1 P.2.1.length L.c1) ∧ W.cell? ⟨b, 2, none⟩ = some (.slice L.a2 P.2.2.1.length L.c2) ∧ W.cell? ⟨b, 3, none⟩ = some (.slice L.a3 P.2.2.2.1.length L.c3) ∧ W.cell? ⟨b, 4, none⟩ = some (.slice L.a4 P.2.2.2.2.length L.c4)
theorem PB.keep {W W' : World} {b : Nat} {P : PlanA} {L : PlanL} (h : PB W b P L) (hB : Below W.heap.size W W') : PB W' b P L :=
  ⟨kept h.1 hB, kept h.2.1 hB, kept h.2.2.1 hB, kept h.2.2.2.1 hB, kept h.2.2.2.2 hB⟩
/-- A partition's six cells. -/
def QB (W : World) (b : Nat) (S : Option Addr × Nat) (n : Nat) (ev : Int) (Q : Option Addr × Nat) (m : Nat) (a0 a1 a2 : Int) : Prop :=
  W.cell? ⟨b, 0, none⟩ = some (.slice S.1 n S.2) ∧ W.cell? ⟨b, 1, none⟩ = some (.int .u8 ev) ∧ W.cell? ⟨b, 2, none⟩ = some (.slice Q.1 m Q.2) ∧ W.cell? ⟨b, 3, none⟩ = some (.int .u8 a0) ∧ W.cell? ⟨b, 4, none⟩ = some (.int .u8 a1) ∧ W.cell? ⟨b, 5, none⟩ = some (.int .u8 a2)
theorem QB.keep {W W' : World} {b : Nat} {S : Option Addr × Nat} {n : Nat} {ev : Int} {Q : Option Addr × Nat} {m : Nat} {a0 a1 a2 : Int} (h : QB W b S n ev Q m a0 a1 a2) (hB : Below W.heap.size W W') : QB W' b S n ev Q m a0 a1 a2 :=
  ⟨kept h.1 hB, kept h.2.1 hB, kept h.2.2.1 hB, kept h.2.2.2.1 hB, kept h.2.2.2.2.1 hB, kept h.2.2.2.2.2 hB⟩
theorem neq54y (a b c : Int) (w : World) : (binOp .neq 54 (.agg #[.int .u8 a, .int .u8 b, .int .u8 c]) (.agg #[.int .u8 a, .int .u8 b, .int .u8 c])).run Tryd.prog w = .ok (.bool false) w := by
  have h := eql54 a b c a b c w
  simp only [binOp] at h ⊢
  revert h
  generalize (Op.equal 54 (.agg #[.int .u8 a, .int .u8 b, .int .u8 c]) (.agg #[.int .u8 a, .int .u8 b, .int .u8 c])) = e
  intro h
  simp at h ⊢
  cases hr : e.run Tryd.prog w with
  | ok v w2 => rw [hr] at h; simp at h ⊢; obtain ⟨h1, h2⟩ := h; exact ⟨h1, h2⟩
  | _ => rw [hr] at h; simp at h

/-- Both boxes, and what was there. -/
def TwoB (w : World) (P : PlanA) (L M : PlanL) (W : World) : Prop := PB W w.heap.size P L ∧ PB W (w.heap.size + 1) P M ∧ Below w.heap.size w W
theorem TwoB.keep {w W W' : World} {P : PlanA} {L M : PlanL} (h : TwoB w P L M W) (hB : Below W.heap.size W W') : TwoB w P L M W' := ⟨h.1.keep hB, h.2.1.keep hB, below_two h.2.2 hB⟩
def TRel (w : World) (P : PlanA) (L M : PlanL) (n : Nat) (i : Value) (wr : World) : Prop := ∃ k : Nat, k ≤ n ∧ i = .int .i64 k ∧ TwoB w P L M wr
def TRelQ (w : World) (P : PlanA) (L M : PlanL) (b c : Nat) (S S2 : Option Addr × Nat) (m : Nat) (ev : Int) (Q Q2 : Option Addr × Nat) (l : Nat) (a0 a1 a2 : Int) (n : Nat) (i : Value) (wr : World) : Prop :=
  ∃ k : Nat, k ≤ n ∧ i = .int .i64 k ∧ TwoB w P L M wr ∧ QB wr b S m ev Q l a0 a1 a2 ∧ QB wr c S2 m ev Q2 l a0 a1 a2

set_option maxHeartbeats 64000000 in
set_option maxRecDepth 100000 in
theorem same_eq (P : PlanA) (L M : PlanL) (w : World) (hP : PlanAt w P L) (hM : PlanAt w P M) (h1 : P.2.1.length ≤ 140737488355328) (h2 : P.2.2.1.length ≤ 140737488355328) (h3 : P.2.2.2.1.length ≤ 140737488355328) (h4 : P.2.2.2.2.length ≤ 140737488355328)
    (h5 : ∀ ws ∈ P.2.1, ws.length ≤ 140737488355328) (h6 : ∀ q ∈ P.2.2.1, q.1.length ≤ 140737488355328 ∧ q.2.2.1.length ≤ 140737488355328) :
    Calls Tryd.prog 17 #[planV P L, planV P M] w fun e w' => e = .returned (.bool true) ∧ Below w.heap.size w w' := by
  have HP := Lib.hid hP
  have HM := Lib.hid hM
  have H5 := Lib.hid h5
  have H6 := Lib.hid h6
  have hpv : ∀ L : PlanL, planV P L = .agg #[.int .u16 P.1, .slice L.a1 P.2.1.length L.c1, .slice L.a2 P.2.2.1.length L.c2, .slice L.a3 P.2.2.2.1.length L.c3, .slice L.a4 P.2.2.2.2.length L.c4] := fun _ => rfl
  rw [hpv, hpv]
  obtain ⟨fr, hfe⟩ : ∃ fr, fr = P.1 := ⟨_, rfl⟩
  obtain ⟨n1, hn1⟩ : ∃ n, n = P.2.1.length := ⟨_, rfl⟩
  obtain ⟨n2, hn2⟩ : ∃ n, n = P.2.2.1.length := ⟨_, rfl⟩
  obtain ⟨n3, hn3⟩ : ∃ n, n = P.2.2.2.1.length := ⟨_, rfl⟩
  obtain ⟨n4, hn4⟩ : ∃ n, n = P.2.2.2.2.length := ⟨_, rfl⟩
  have hT : TwoB w P L M ((w.alloc (.cells #[.int .u16 fr, .slice L.a1 n1 L.c1, .slice L.a2 n2 L.c2, .slice L.a3 n3 L.c3, .slice L.a4 n4 L.c4] 28)).alloc (.cells #[.int .u16 fr, .slice M.a1 n1 M.c1, .slice M.a2 n2 M.c2, .slice M.a3 n3 M.c3, .slice M.a4 n4 M.c4] 28)) := by
    rw [hfe, hn1, hn2, hn3, hn4]
    refine ⟨PB.keep (W := w.alloc _) ⟨by simp, by simp, by simp, by simp, by simp⟩ ((Below.refl _ _).alloc (Nat.le_refl _) _), ⟨?_, ?_, ?_, ?_, ?_⟩, ((Below.refl _ _).alloc (Nat.le_refl _) _).alloc (by simp) _⟩
    all_goals (rw [World.cell?_alloc_at _ _ _ _ (by simp)]; rfl)
  rw [← hfe, ← hn1, ← hn2, ← hn3, ← hn4]
  rw [← hn1] at h1
  rw [← hn2] at h2
  rw [← hn3] at h3
  rw [← hn4] at h4
  have HT := Lib.hid hT
  have HFE := Lib.hid hfe
  have HN1 := Lib.hid hn1
  have HN2 := Lib.hid hn2
  have HN3 := Lib.hid hn3
  have HN4 := Lib.hid hn4
  clear hP hM h5 h6 hpv hfe hn1 hn2 hn3 hn4 hT
  go_enter Tryd.func17, Tryd.ntmps17
  go_wp2_with fail
  go_loopw [5] (fun i wr => TRel w P L M n1 i wr) (fun i _ => n1 - (intOf i).toNat)
  case atStart => exact ⟨0, Nat.zero_le _, rfl, HT.out⟩
  case round => as_aux_lemma =>
    obtain ⟨k, hk, rfl, hT⟩ := hrel
    have HTL5 := Lib.hid hT
    have HBL5 := Lib.hid hT.2.2
    obtain ⟨⟨k0, k1, k2, k3, k4⟩, ⟨m0, m1, m2, m3, m4⟩, -⟩ := hT
    rw [← HFE.out] at k0 m0
    rw [← HN1.out] at k1 m1
    rw [← HN2.out] at k2 m2
    rw [← HN3.out] at k3 m3
    rw [← HN4.out] at k4 m4
    by_cases hlt : k < n1
    · have hlw : k < P.2.1.length := by rw [← HN1.out]; exact hlt
      obtain ⟨Pf, r1, r2⟩ := HP.out.cores
      obtain ⟨Pf', r1', r2'⟩ := HM.out.cores
      obtain ⟨b, o, hA⟩ := Arr.head r1 hlw
      obtain ⟨b', o', hA'⟩ := Arr.head r1' hlw
      rw [hA] at r1 k1
      rw [hA'] at r1' m1
      have c0 := kept (Arr.at (j := 0) r1 hlw rfl) HBL5.out
      have d0 := kept (Arr.at (j := 0) r1' hlw rfl) HBL5.out
      have s1 := r2 k hlw
      have s1' := r2' k hlw
      have hle := H5.out _ (getD_mem [] hlw)
      obtain ⟨ws, hx⟩ : ∃ x, x = P.2.1.getD k [] := ⟨_, rfl⟩
      rw [← hx] at s1 s1' hle
      obtain ⟨m, hm⟩ : ∃ m, m = ws.length := ⟨_, rfl⟩
      rw [← hm] at hle
      simp only [← hx, slV, Nat.add_zero, Nat.mul_one, ← hm] at c0 d0
      have SA := Lib.hid s1
      have SA' := Lib.hid s1'
      have HM0 := Lib.hid hm
      have HA := Lib.hid hA
      have HA' := Lib.hid hA'
      have HR1 := Lib.hid (fun (W : World) (hb : Below w.heap.size w W) => kept (Arr.at (j := 0) r1 hlw rfl) hb)
      have HR1' := Lib.hid (fun (W : World) (hb : Below w.heap.size w W) => kept (Arr.at (j := 0) r1' hlw rfl) hb)
      simp only [← hx, slV, Nat.add_zero, Nat.mul_one, ← hm] at HR1 HR1'
      have ii0 : (0 : Int) ≤ (k : Int) := Int.natCast_nonneg _
      have ii1 : (k : Int) < (n1 : Int) := by omega
      clear r1 r2 r1' r2' hA hA' hx hlw s1 s1' hm
      go_wp2_with fail
      go_quiet (fail)
      go_wp2_with fail
      clear c0 d0 k0 k1 k2 k3 k4 m0 m1 m2 m3 m4
      go_loopw [6] (fun i wr => TRel w P L M m i wr) (fun i _ => m - (intOf i).toNat)
      case atStart => exact ⟨0, Nat.zero_le _, rfl, HTL5.out.keep (below_drewN (Below.refl _ _) _)⟩
      case round => as_aux_lemma =>
        obtain ⟨j, hj, rfl, hT⟩ := hrel
        have HTj := Lib.hid hT
        have HBj := Lib.hid hT.2.2
        obtain ⟨⟨k0, k1, k2, k3, k4⟩, ⟨m0, m1, m2, m3, m4⟩, -⟩ := hT
        rw [← HFE.out] at k0 m0
        rw [← HN1.out] at k1 m1
        rw [← HN2.out] at k2 m2
        rw [← HN3.out] at k3 m3
        rw [← HN4.out] at k4 m4
        rw [HA.out] at k1
        rw [HA'.out] at m1
        have c9 := HR1.out _ HBj.out
        have d9 := HR1'.out _ HBj.out
        by_cases hlt2 : j < m
        · have hlw2 : j < ws.length := by rw [← HM0.out]; exact hlt2
          obtain ⟨b2, o2, hA2⟩ := Arr.head SA.out hlw2
          obtain ⟨b2', o2', hA2'⟩ := Arr.head SA'.out hlw2
          have ha := SA.out
          have hb := SA'.out
          unfold WinsAt at ha hb
          rw [hA2] at ha c9
          rw [hA2'] at hb d9
          have c0 := kept (Arr.at (j := 0) ha hlw2 rfl) HBj.out
          have d0 := kept (Arr.at (j := 0) hb hlw2 rfl) HBj.out
          have c1 := kept (Arr.at (j := 1) ha hlw2 rfl) HBj.out
          have d1 := kept (Arr.at (j := 1) hb hlw2 rfl) HBj.out
          have c2 := kept (Arr.at (j := 2) ha hlw2 rfl) HBj.out
          have d2 := kept (Arr.at (j := 2) hb hlw2 rfl) HBj.out
          have c3 := kept (Arr.at (j := 3) ha hlw2 rfl) HBj.out
          have d3 := kept (Arr.at (j := 3) hb hlw2 rfl) HBj.out
          obtain ⟨⟨x0, x1, x2, x3⟩, hx⟩ : ∃ x, x = ws.getD j dW := ⟨_, rfl⟩
          simp only [← hx, Nat.add_zero] at c0 d0 c1 d1 c2 d2 c3 d3
          have hne : ∀ W, (binOp .neq 51 (.agg #[.int .u16 x0, .int .u16 x1, .int .u8 x2, .int .u8 x3]) (.agg #[.int .u16 x0, .int .u16 x1, .int .u8 x2, .int .u8 x3])).run Tryd.prog W = .ok (.bool false) W := fun W => by rw [neq51, same_yes rfl]; rfl
          have jj0 : (0 : Int) ≤ (j : Int) := Int.natCast_nonneg _
          have jj1 : (j : Int) < (m : Int) := by omega
          clear ha hb hA2 hA2' hx hlw2
          go_wp2_with fail
          go_quiet (fail)
          go_wp2_with fail
          go_roundw
          case rel => exact ⟨j + 1, by omega, by go_num, HTj.out.keep (below_drewN (Below.refl _ _) _)⟩
          case measure => simp [intOf]; omega
        · obtain rfl : j = m := by omega
          go_wp2_with fail
          go_roundw
          case rel => exact ⟨k + 1, by omega, by go_num, HTj.out⟩
          case measure => simp [intOf]; omega
    · obtain rfl : k = n1 := by omega
      go_wp2_with fail
      clear k0 k1 k2 k3 k4 m0 m1 m2 m3 m4
      go_loopw [7] (fun i wr => TRel w P L M n2 i wr) (fun i _ => n2 - (intOf i).toNat)
      case atStart => exact ⟨0, Nat.zero_le _, rfl, HTL5.out⟩
      case round => as_aux_lemma =>
        obtain ⟨k, hk, rfl, hT⟩ := hrel
        have HTL7 := Lib.hid hT
        have HBL7 := Lib.hid hT.2.2
        obtain ⟨⟨k0, k1, k2, k3, k4⟩, ⟨m0, m1, m2, m3, m4⟩, -⟩ := hT
        rw [← HFE.out] at k0 m0
        rw [← HN1.out] at k1 m1
        rw [← HN2.out] at k2 m2
        rw [← HN3.out] at k3 m3
        rw [← HN4.out] at k4 m4
        by_cases hlt : k < n2
        · have hlw : k < P.2.2.1.length := by rw [← HN2.out]; exact hlt
          obtain ⟨Sf, Qf, r1, r2⟩ := HP.out.parts
          obtain ⟨Sf', Qf', r1', r2'⟩ := HM.out.parts
          obtain ⟨b, o, hA⟩ := Arr.head r1 hlw
          obtain ⟨b', o', hA'⟩ := Arr.head r1' hlw
          rw [hA] at r1 k2
          rw [hA'] at r1' m2
          have c0 := kept (Arr.at (j := 0) r1 hlw rfl) HBL7.out
          have d0 := kept (Arr.at (j := 0) r1' hlw rfl) HBL7.out
          have c1 := kept (Arr.at (j := 1) r1 hlw rfl) HBL7.out
          have d1 := kept (Arr.at (j := 1) r1' hlw rfl) HBL7.out
          have c2 := kept (Arr.at (j := 2) r1 hlw rfl) HBL7.out
          have d2 := kept (Arr.at (j := 2) r1' hlw rfl) HBL7.out
          have c3 := kept (Arr.at (j := 3) r1 hlw rfl) HBL7.out
          have d3 := kept (Arr.at (j := 3) r1' hlw rfl) HBL7.out
          have c4 := kept (Arr.at (j := 4) r1 hlw rfl) HBL7.out
          have d4 := kept (Arr.at (j := 4) r1' hlw rfl) HBL7.out
          have c5 := kept (Arr.at (j := 5) r1 hlw rfl) HBL7.out
          have d5 := kept (Arr.at (j := 5) r1' hlw rfl) HBL7.out
          obtain ⟨s1, s2, -⟩ := r2 k hlw
          obtain ⟨s1', s2', -⟩ := r2' k hlw
          have hle := H6.out _ (getD_mem dQ hlw)
          obtain ⟨⟨ss, ev, pp, a0, a1, a2⟩, hx⟩ : ∃ x, x = P.2.2.1.getD k dQ := ⟨_, rfl⟩
          rw [← hx] at s1 s2 s1' s2' hle
          dsimp only at s1 s2 s1' s2' hle
          simp only [← hx, slV, Nat.add_zero] at c0 d0 c1 d1 c2 d2 c3 d3 c4 d4 c5 d5
          obtain ⟨m, hm⟩ : ∃ m, m = ss.length := ⟨_, rfl⟩
          obtain ⟨l, hl⟩ : ∃ m, m = pp.length := ⟨_, rfl⟩
          rw [← hm] at c0 d0 hle
          rw [← hl] at c2 d2 hle
          obtain ⟨le1, le2⟩ := hle
          have SA := Lib.hid s1
          have SB := Lib.hid s2
          have SA' := Lib.hid s1'
          have SB' := Lib.hid s2'
          have HM0 := Lib.hid hm
          have HL := Lib.hid hl
          have ii0 : (0 : Int) ≤ (k : Int) := Int.natCast_nonneg _
          have ii1 : (k : Int) < (n2 : Int) := by omega
          have hne := neq54y a0 a1 a2
          clear r1 r2 r1' r2' hA hA' hx hlw s1 s2 s1' s2' hm hl
          go_wp2_with fail
          have hal : ∀ o1 o2, Below wr.heap.size wr ((wr.alloc o1).alloc o2) := fun o1 o2 => ((Below.refl _ _).alloc (Nat.le_refl _) _).alloc (by simp) _
          have hal1 : ∀ o1, Below wr.heap.size wr (wr.alloc o1) := fun o1 => (Below.refl _ _).alloc (Nat.le_refl _) _
          have v2 := fun o1 o2 => kept k2 (hal o1 o2)
          have v3 := fun o1 => kept k2 (hal1 o1)
          have w3 := fun o1 => kept m2 (hal1 o1)
          have w2 := fun o1 o2 => kept m2 (hal o1 o2)
          have v10 := fun o1 o2 => kept c0 (hal o1 o2)
          have w10 := fun o1 o2 => kept d0 (hal o1 o2)
          have v20 := fun o1 => kept c0 (hal1 o1)
          have w20 := fun o1 => kept d0 (hal1 o1)
          have v11 := fun o1 o2 => kept c1 (hal o1 o2)
          have w11 := fun o1 o2 => kept d1 (hal o1 o2)
          have v21 := fun o1 => kept c1 (hal1 o1)
          have w21 := fun o1 => kept d1 (hal1 o1)
          have v12 := fun o1 o2 => kept c2 (hal o1 o2)
          have w12 := fun o1 o2 => kept d2 (hal o1 o2)
          have v22 := fun o1 => kept c2 (hal1 o1)
          have w22 := fun o1 => kept d2 (hal1 o1)
          have v13 := fun o1 o2 => kept c3 (hal o1 o2)
          have w13 := fun o1 o2 => kept d3 (hal o1 o2)
          have v23 := fun o1 => kept c3 (hal1 o1)
          have w23 := fun o1 => kept d3 (hal1 o1)
          have v14 := fun o1 o2 => kept c4 (hal o1 o2)
          have w14 := fun o1 o2 => kept d4 (hal o1 o2)
          have v24 := fun o1 => kept c4 (hal1 o1)
          have w24 := fun o1 => kept d4 (hal1 o1)
          have v15 := fun o1 o2 => kept c5 (hal o1 o2)
          have w15 := fun o1 o2 => kept d5 (hal o1 o2)
          have v25 := fun o1 => kept c5 (hal1 o1)
          have w25 := fun o1 => kept d5 (hal1 o1)
          clear hal hal1
          go_region
          · as_aux_lemma =>
            have hz : Below wr.heap.size wr ((wr.alloc (.cells #[.slice (Sf k).1 m (Sf k).2, .int .u8 ev, .slice (Qf k).1 l (Qf k).2, .int .u8 a0, .int .u8 a1, .int .u8 a2] 56)).alloc (.cells #[.slice (Sf' k).1 m (Sf' k).2, .int .u8 ev, .slice (Qf' k).1 l (Qf' k).2, .int .u8 a0, .int .u8 a1, .int .u8 a2] 56)).drew := (((Below.refl _ _).alloc (Nat.le_refl _) _).alloc (by simp) _).drew
            have HTT := Lib.hid (HTL7.out.keep hz)
            have HQQ := Lib.hid (show QB ((wr.alloc (.cells #[.slice (Sf k).1 m (Sf k).2, .int .u8 ev, .slice (Qf k).1 l (Qf k).2, .int .u8 a0, .int .u8 a1, .int .u8 a2] 56)).alloc (.cells #[.slice (Sf' k).1 m (Sf' k).2, .int .u8 ev, .slice (Qf' k).1 l (Qf' k).2, .int .u8 a0, .int .u8 a1, .int .u8 a2] 56)).drew wr.heap.size (Sf k) m ev (Qf k) l a0 a1 a2 from QB.keep (W := wr.alloc _) ⟨by simp, by simp, by simp, by simp, by simp, by simp⟩ (((Below.refl _ _).alloc (Nat.le_refl _) _).drew))
            have HQQ' := Lib.hid (show QB ((wr.alloc (.cells #[.slice (Sf k).1 m (Sf k).2, .int .u8 ev, .slice (Qf k).1 l (Qf k).2, .int .u8 a0, .int .u8 a1, .int .u8 a2] 56)).alloc (.cells #[.slice (Sf' k).1 m (Sf' k).2, .int .u8 ev, .slice (Qf' k).1 l (Qf' k).2, .int .u8 a0, .int .u8 a1, .int .u8 a2] 56)).drew (wr.heap.size + 1) (Sf' k) m ev (Qf' k) l a0 a1 a2 from QB.keep (W := (wr.alloc _).alloc _) (by refine ⟨?_, ?_, ?_, ?_, ?_, ?_⟩ <;> (rw [World.cell?_alloc_at _ _ _ _ (by simp)]; rfl)) ((Below.refl _ _).drew))
            clear hz v2 w2 v3 w3 v10 v11 v12 v13 v14 v15 w10 w11 w12 w13 w14 w15 v20 v21 v22 v23 v24 v25 w20 w21 w22 w23 w24 w25 c0 c1 c2 c3 c4 c5 d0 d1 d2 d3 d4 d5 k0 k1 k2 k3 k4 m0 m1 m2 m3 m4
            go_wp2_with fail
            rename World => wo
            go_loopw [10] (fun i wq => TRelQ w P L M wo.heap.size (wo.heap.size + 1) (Sf k) (Sf' k) m ev (Qf k) (Qf' k) l a0 a1 a2 m i wq) (fun i _ => m - (intOf i).toNat)
            case atStart => exact ⟨0, Nat.zero_le _, rfl, HTT.out, HQQ.out, HQQ'.out⟩
            case round => as_aux_lemma =>
              obtain ⟨j, hj, rfl, hT, hQ, hQ'⟩ := hrel
              have HTj := Lib.hid hT
              have HBj := Lib.hid hT.2.2
              have HQj := Lib.hid hQ
              have HQj' := Lib.hid hQ'
              obtain ⟨⟨k0, k1, k2, k3, k4⟩, ⟨m0, m1, m2, m3, m4⟩, -⟩ := hT
              rw [← HFE.out] at k0 m0
              rw [← HN1.out] at k1 m1
              rw [← HN2.out] at k2 m2
              rw [← HN3.out] at k3 m3
              rw [← HN4.out] at k4 m4
              obtain ⟨q0, q1, q2, q3, q4, q5⟩ := hQ
              obtain ⟨p0, p1, p2, p3, p4, p5⟩ := hQ'
              by_cases hlt2 : j < m
              · have hlw2 : j < ss.length := by rw [← HM0.out]; exact hlt2
                obtain ⟨b2, o2, hA2⟩ := Arr.head SA.out hlw2
                obtain ⟨b2', o2', hA2'⟩ := Arr.head SA'.out hlw2
                have ha := SA.out
                have hb := SA'.out
                unfold SemsAt at ha hb
                rw [hA2] at ha q0
                rw [hA2'] at hb p0
                have c0 := kept (Arr.at (j := 0) ha hlw2 rfl) HBj.out
                have d0 := kept (Arr.at (j := 0) hb hlw2 rfl) HBj.out
                have c1 := kept (Arr.at (j := 1) ha hlw2 rfl) HBj.out
                have d1 := kept (Arr.at (j := 1) hb hlw2 rfl) HBj.out
                obtain ⟨⟨z0, z1⟩, hx⟩ : ∃ x, x = ss.getD j dS := ⟨_, rfl⟩
                simp only [← hx, Nat.add_zero] at c0 d0 c1 d1
                have hne : ∀ W, (binOp .neq 58 (.agg #[.int .u8 z0, .int .u8 z1]) (.agg #[.int .u8 z0, .int .u8 z1])).run Tryd.prog W = .ok (.bool false) W := fun W => by rw [neq58, same_yes rfl]; rfl
                have ii0 : (0 : Int) ≤ (j : Int) := Int.natCast_nonneg _
                have ii1 : (j : Int) < (m : Int) := by omega
                clear ha hb hA2 hA2' hx hlw2
                go_wp2_with fail
                go_quiet (fail)
                go_wp2_with fail
                go_roundw
                case rel => exact ⟨j + 1, by omega, by go_num, HTj.out.keep (below_drewN (Below.refl _ _) _), HQj.out.keep (below_drewN (Below.refl _ _) _), HQj'.out.keep (below_drewN (Below.refl _ _) _)⟩
                case measure => simp [intOf]; omega
              · obtain rfl : m = j := by omega
                go_wp2_with fail
                have HTT := HTj
                have HQQ := HQj
                have HQQ' := HQj'
                clear k0 k1 k2 k3 k4 m0 m1 m2 m3 m4
                clear q0 q1 q2 q3 q4 q5 p0 p1 p2 p3 p4 p5
                go_loopw [11] (fun i wq => TRelQ w P L M wo.heap.size (wo.heap.size + 1) (Sf k) (Sf' k) m ev (Qf k) (Qf' k) l a0 a1 a2 l i wq) (fun i _ => l - (intOf i).toNat)
                case atStart => exact ⟨0, Nat.zero_le _, rfl, HTT.out, HQQ.out, HQQ'.out⟩
                case round => as_aux_lemma =>
                  obtain ⟨j, hj, rfl, hT, hQ, hQ'⟩ := hrel
                  have HTj := Lib.hid hT
                  have HBj := Lib.hid hT.2.2
                  have HQj := Lib.hid hQ
                  have HQj' := Lib.hid hQ'
                  obtain ⟨⟨k0, k1, k2, k3, k4⟩, ⟨m0, m1, m2, m3, m4⟩, -⟩ := hT
                  rw [← HFE.out] at k0 m0
                  rw [← HN1.out] at k1 m1
                  rw [← HN2.out] at k2 m2
                  rw [← HN3.out] at k3 m3
                  rw [← HN4.out] at k4 m4
                  obtain ⟨q0, q1, q2, q3, q4, q5⟩ := hQ
                  obtain ⟨p0, p1, p2, p3, p4, p5⟩ := hQ'
                  by_cases hlt2 : j < l
                  · have hlw2 : j < pp.length := by rw [← HL.out]; exact hlt2
                    obtain ⟨b2, o2, hA2⟩ := Arr.head SB.out hlw2
                    obtain ⟨b2', o2', hA2'⟩ := Arr.head SB'.out hlw2
                    have ha := SB.out
                    have hb := SB'.out
                    unfold BytesAt at ha hb
                    rw [hA2] at ha q2
                    rw [hA2'] at hb p2
                    have c0 := kept (Arr.at (j := 0) ha hlw2 rfl) HBj.out
                    have d0 := kept (Arr.at (j := 0) hb hlw2 rfl) HBj.out
                    obtain ⟨z, hx⟩ : ∃ x, x = pp.getD j 0 := ⟨_, rfl⟩
                    simp only [← hx, bV, Nat.add_zero, Nat.mul_one] at c0 d0
                    have ii0 : (0 : Int) ≤ (j : Int) := Int.natCast_nonneg _
                    have ii1 : (j : Int) < (l : Int) := by omega
                    clear ha hb hA2 hA2' hx hlw2
                    go_wp2_with fail
                    go_quiet (fail)
                    go_wp2_with fail
                    go_roundw
                    case rel => exact ⟨j + 1, by omega, by go_num, HTj.out.keep (below_drewN (Below.refl _ _) _), HQj.out.keep (below_drewN (Below.refl _ _) _), HQj'.out.keep (below_drewN (Below.refl _ _) _)⟩
                    case measure => simp [intOf]; omega
                  · obtain rfl : j = l := by omega
                    go_wp2_with fail
                    go_roundw
                    case rel => exact ⟨k + 1, by omega, by go_num, HTj.out⟩
                    case measure => simp [intOf]; omega
          · as_aux_lemma =>
            have hz : Below wr.heap.size wr ((wr.alloc (.cells #[.slice (Sf' k).1 m (Sf' k).2, .int .u8 ev, .slice (Qf' k).1 l (Qf' k).2, .int .u8 a0, .int .u8 a1, .int .u8 a2] 56)).alloc (.cells #[.slice (Sf k).1 m (Sf k).2, .int .u8 ev, .slice (Qf k).1 l (Qf k).2, .int .u8 a0, .int .u8 a1, .int .u8 a2] 56)).drew := (((Below.refl _ _).alloc (Nat.le_refl _) _).alloc (by simp) _).drew
            have HTT := Lib.hid (HTL7.out.keep hz)
            have HQQ' := Lib.hid (show QB ((wr.alloc (.cells #[.slice (Sf' k).1 m (Sf' k).2, .int .u8 ev, .slice (Qf' k).1 l (Qf' k).2, .int .u8 a0, .int .u8 a1, .int .u8 a2] 56)).alloc (.cells #[.slice (Sf k).1 m (Sf k).2, .int .u8 ev, .slice (Qf k).1 l (Qf k).2, .int .u8 a0, .int .u8 a1, .int .u8 a2] 56)).drew wr.heap.size (Sf' k) m ev (Qf' k) l a0 a1 a2 from QB.keep (W := wr.alloc _) ⟨by simp, by simp, by simp, by simp, by simp, by simp⟩ (((Below.refl _ _).alloc (Nat.le_refl _) _).drew))
            have HQQ := Lib.hid (show QB ((wr.alloc (.cells #[.slice (Sf' k).1 m (Sf' k).2, .int .u8 ev, .slice (Qf' k).1 l (Qf' k).2, .int .u8 a0, .int .u8 a1, .int .u8 a2] 56)).alloc (.cells #[.slice (Sf k).1 m (Sf k).2, .int .u8 ev, .slice (Qf k).1 l (Qf k).2, .int .u8 a0, .int .u8 a1, .int .u8 a2] 56)).drew (wr.heap.size + 1) (Sf k) m ev (Qf k) l a0 a1 a2 from QB.keep (W := (wr.alloc _).alloc _) (by refine ⟨?_, ?_, ?_, ?_, ?_, ?_⟩ <;> (rw [World.cell?_alloc_at _ _ _ _ (by simp)]; rfl)) ((Below.refl _ _).drew))
            clear hz v2 w2 v3 w3 v10 v11 v12 v13 v14 v15 w10 w11 w12 w13 w14 w15 v20 v21 v22 v23 v24 v25 w20 w21 w22 w23 w24 w25 c0 c1 c2 c3 c4 c5 d0 d1 d2 d3 d4 d5 k0 k1 k2 k3 k4 m0 m1 m2 m3 m4
            go_wp2_with fail
            rename World => wo
            go_loopw [10] (fun i wq => TRelQ w P L M (wo.heap.size + 1) wo.heap.size (Sf k) (Sf' k) m ev (Qf k) (Qf' k) l a0 a1 a2 m i wq) (fun i _ => m - (intOf i).toNat)
            case atStart => exact ⟨0, Nat.zero_le _, rfl, HTT.out, HQQ.out, HQQ'.out⟩
            case round => as_aux_lemma =>
              obtain ⟨j, hj, rfl, hT, hQ, hQ'⟩ := hrel
              have HTj := Lib.hid hT
              have HBj := Lib.hid hT.2.2
              have HQj := Lib.hid hQ
              have HQj' := Lib.hid hQ'
              obtain ⟨⟨k0, k1, k2, k3, k4⟩, ⟨m0, m1, m2, m3, m4⟩, -⟩ := hT
              rw [← HFE.out] at k0 m0
              rw [← HN1.out] at k1 m1
              rw [← HN2.out] at k2 m2
              rw [← HN3.out] at k3 m3
              rw [← HN4.out] at k4 m4
              obtain ⟨q0, q1, q2, q3, q4, q5⟩ := hQ
              obtain ⟨p0, p1, p2, p3, p4, p5⟩ := hQ'
              by_cases hlt2 : j < m
              · have hlw2 : j < ss.length := by rw [← HM0.out]; exact hlt2
                obtain ⟨b2, o2, hA2⟩ := Arr.head SA.out hlw2
                obtain ⟨b2', o2', hA2'⟩ := Arr.head SA'.out hlw2
                have ha := SA.out
                have hb := SA'.out
                unfold SemsAt at ha hb
                rw [hA2] at ha q0
                rw [hA2'] at hb p0
                have c0 := kept (Arr.at (j := 0) ha hlw2 rfl) HBj.out
                have d0 := kept (Arr.at (j := 0) hb hlw2 rfl) HBj.out
                have c1 := kept (Arr.at (j := 1) ha hlw2 rfl) HBj.out
                have d1 := kept (Arr.at (j := 1) hb hlw2 rfl) HBj.out
                obtain ⟨⟨z0, z1⟩, hx⟩ : ∃ x, x = ss.getD j dS := ⟨_, rfl⟩
                simp only [← hx, Nat.add_zero] at c0 d0 c1 d1
                have hne : ∀ W, (binOp .neq 58 (.agg #[.int .u8 z0, .int .u8 z1]) (.agg #[.int .u8 z0, .int .u8 z1])).run Tryd.prog W = .ok (.bool false) W := fun W => by rw [neq58, same_yes rfl]; rfl
                have ii0 : (0 : Int) ≤ (j : Int) := Int.natCast_nonneg _
                have ii1 : (j : Int) < (m : Int) := by omega
                clear ha hb hA2 hA2' hx hlw2
                go_wp2_with fail
                go_quiet (fail)
                go_wp2_with fail
                go_roundw
                case rel => exact ⟨j + 1, by omega, by go_num, HTj.out.keep (below_drewN (Below.refl _ _) _), HQj.out.keep (below_drewN (Below.refl _ _) _), HQj'.out.keep (below_drewN (Below.refl _ _) _)⟩
                case measure => simp [intOf]; omega
              · obtain rfl : m = j := by omega
                go_wp2_with fail
                have HTT := HTj
                have HQQ := HQj
                have HQQ' := HQj'
                clear k0 k1 k2 k3 k4 m0 m1 m2 m3 m4
                clear q0 q1 q2 q3 q4 q5 p0 p1 p2 p3 p4 p5
                go_loopw [11] (fun i wq => TRelQ w P L M (wo.heap.size + 1) wo.heap.size (Sf k) (Sf' k) m ev (Qf k) (Qf' k) l a0 a1 a2 l i wq) (fun i _ => l - (intOf i).toNat)
                case atStart => exact ⟨0, Nat.zero_le _, rfl, HTT.out, HQQ.out, HQQ'.out⟩
                case round => as_aux_lemma =>
                  obtain ⟨j, hj, rfl, hT, hQ, hQ'⟩ := hrel
                  have HTj := Lib.hid hT
                  have HBj := Lib.hid hT.2.2
                  have HQj := Lib.hid hQ
                  have HQj' := Lib.hid hQ'
                  obtain ⟨⟨k0, k1, k2, k3, k4⟩, ⟨m0, m1, m2, m3, m4⟩, -⟩ := hT
                  rw [← HFE.out] at k0 m0
                  rw [← HN1.out] at k1 m1
                  rw [← HN2.out] at k2 m2
                  rw [← HN3.out] at k3 m3
                  rw [← HN4.out] at k4 m4
                  obtain ⟨q0, q1, q2, q3, q4, q5⟩ := hQ
                  obtain ⟨p0, p1, p2, p3, p4, p5⟩ := hQ'
                  by_cases hlt2 : j < l
                  · have hlw2 : j < pp.length := by rw [← HL.out]; exact hlt2
                    obtain ⟨b2, o2, hA2⟩ := Arr.head SB.out hlw2
                    obtain ⟨b2', o2', hA2'⟩ := Arr.head SB'.out hlw2
                    have ha := SB.out
                    have hb := SB'.out
                    unfold BytesAt at ha hb
                    rw [hA2] at ha q2
                    rw [hA2'] at hb p2
                    have c0 := kept (Arr.at (j := 0) ha hlw2 rfl) HBj.out
                    have d0 := kept (Arr.at (j := 0) hb hlw2 rfl) HBj.out
                    obtain ⟨z, hx⟩ : ∃ x, x = pp.getD j 0 := ⟨_, rfl⟩
                    simp only [← hx, bV, Nat.add_zero, Nat.mul_one] at c0 d0
                    have ii0 : (0 : Int) ≤ (j : Int) := Int.natCast_nonneg _
                    have ii1 : (j : Int) < (l : Int) := by omega
                    clear ha hb hA2 hA2' hx hlw2
                    go_wp2_with fail
                    go_quiet (fail)
                    go_wp2_with fail
                    go_roundw
                    case rel => exact ⟨j + 1, by omega, by go_num, HTj.out.keep (below_drewN (Below.refl _ _) _), HQj.out.keep (below_drewN (Below.refl _ _) _), HQj'.out.keep (below_drewN (Below.refl _ _) _)⟩
                    case measure => simp [intOf]; omega
                  · obtain rfl : j = l := by omega
                    go_wp2_with fail
                    go_roundw
                    case rel => exact ⟨k + 1, by omega, by go_num, HTj.out⟩
                    case measure => simp [intOf]; omega
        · obtain rfl : k = n2 := by omega
          go_wp2_with fail
          clear k0 k1 k2 k3 k4 m0 m1 m2 m3 m4
          go_loopw [12] (fun i wr => TRel w P L M n3 i wr) (fun i _ => n3 - (intOf i).toNat)
          case atStart => exact ⟨0, Nat.zero_le _, rfl, HTL7.out⟩
          case round => as_aux_lemma =>
            obtain ⟨k, hk, rfl, hT⟩ := hrel
            have HTL12 := Lib.hid hT
            have HBL12 := Lib.hid hT.2.2
            obtain ⟨⟨k0, k1, k2, k3, k4⟩, ⟨m0, m1, m2, m3, m4⟩, -⟩ := hT
            rw [← HFE.out] at k0 m0
            rw [← HN1.out] at k1 m1
            rw [← HN2.out] at k2 m2
            rw [← HN3.out] at k3 m3
            rw [← HN4.out] at k4 m4
            by_cases hlt : k < n3
            · have hlw : k < P.2.2.2.1.length := by rw [← HN3.out]; exact hlt
              obtain ⟨b, o, hA⟩ := Arr.head HP.out.chans hlw
              obtain ⟨b', o', hA'⟩ := Arr.head HM.out.chans hlw
              have ha := HP.out.chans
              have hb := HM.out.chans
              unfold ChansAt at ha hb
              rw [hA] at ha k3
              rw [hA'] at hb m3
              have c0 := kept (Arr.at (j := 0) ha hlw rfl) HBL12.out
              have d0 := kept (Arr.at (j := 0) hb hlw rfl) HBL12.out
              have c1 := kept (Arr.at (j := 1) ha hlw rfl) HBL12.out
              have d1 := kept (Arr.at (j := 1) hb hlw rfl) HBL12.out
              have c2 := kept (Arr.at (j := 2) ha hlw rfl) HBL12.out
              have d2 := kept (Arr.at (j := 2) hb hlw rfl) HBL12.out
              have c3 := kept (Arr.at (j := 3) ha hlw rfl) HBL12.out
              have d3 := kept (Arr.at (j := 3) hb hlw rfl) HBL12.out
              have c4 := kept (Arr.at (j := 4) ha hlw rfl) HBL12.out
              have d4 := kept (Arr.at (j := 4) hb hlw rfl) HBL12.out
              have c5 := kept (Arr.at (j := 5) ha hlw rfl) HBL12.out
              have d5 := kept (Arr.at (j := 5) hb hlw rfl) HBL12.out
              obtain ⟨⟨x0, x1, x2, x3, x4, x5⟩, hx⟩ : ∃ x, x = P.2.2.2.1.getD k dC := ⟨_, rfl⟩
              simp only [← hx, Nat.add_zero] at c0 d0 c1 d1 c2 d2 c3 d3 c4 d4 c5 d5
              have hne : ∀ W, (binOp .neq 60 (.agg #[.int .u8 x0, .int .u8 x1, .int .u8 x2, .int .u8 x3, .int .u8 x4, .int .u16 x5]) (.agg #[.int .u8 x0, .int .u8 x1, .int .u8 x2, .int .u8 x3, .int .u8 x4, .int .u16 x5])).run Tryd.prog W = .ok (.bool false) W := fun W => by rw [neq60, same_yes rfl]; rfl
              have ii0 : (0 : Int) ≤ (k : Int) := Int.natCast_nonneg _
              have ii1 : (k : Int) < (n3 : Int) := by omega
              clear ha hb hA hA' hx hlw
              go_wp2_with fail
              go_quiet (fail)
              go_wp2_with fail
              go_roundw
              case rel => exact ⟨k + 1, by omega, by go_num, HTL12.out.keep (below_drewN (Below.refl _ _) _)⟩
              case measure => simp [intOf]; omega
            · obtain rfl : k = n3 := by omega
              go_wp2_with fail
              clear k0 k1 k2 k3 k4 m0 m1 m2 m3 m4
              go_loopw [13] (fun i wr => TRel w P L M n4 i wr) (fun i _ => n4 - (intOf i).toNat)
              case atStart => exact ⟨0, Nat.zero_le _, rfl, HTL12.out⟩
              case round => as_aux_lemma =>
                obtain ⟨k, hk, rfl, hT⟩ := hrel
                have HTL13 := Lib.hid hT
                have HBL13 := Lib.hid hT.2.2
                obtain ⟨⟨k0, k1, k2, k3, k4⟩, ⟨m0, m1, m2, m3, m4⟩, -⟩ := hT
                rw [← HFE.out] at k0 m0
                rw [← HN1.out] at k1 m1
                rw [← HN2.out] at k2 m2
                rw [← HN3.out] at k3 m3
                rw [← HN4.out] at k4 m4
                by_cases hlt : k < n4
                · have hlw : k < P.2.2.2.2.length := by rw [← HN4.out]; exact hlt
                  obtain ⟨b, o, hA⟩ := Arr.head HP.out.pairs hlw
                  obtain ⟨b', o', hA'⟩ := Arr.head HM.out.pairs hlw
                  have ha := HP.out.pairs
                  have hb := HM.out.pairs
                  unfold SemsAt at ha hb
                  rw [hA] at ha k4
                  rw [hA'] at hb m4
                  have c0 := kept (Arr.at (j := 0) ha hlw rfl) HBL13.out
                  have d0 := kept (Arr.at (j := 0) hb hlw rfl) HBL13.out
                  have c1 := kept (Arr.at (j := 1) ha hlw rfl) HBL13.out
                  have d1 := kept (Arr.at (j := 1) hb hlw rfl) HBL13.out
                  obtain ⟨⟨x0, x1⟩, hx⟩ : ∃ x, x = P.2.2.2.2.getD k dS := ⟨_, rfl⟩
                  simp only [← hx, Nat.add_zero] at c0 d0 c1 d1
                  have hne : ∀ W, (binOp .neq 62 (.agg #[.int .u8 x0, .int .u8 x1]) (.agg #[.int .u8 x0, .int .u8 x1])).run Tryd.prog W = .ok (.bool false) W := fun W => by rw [neq62, same_yes rfl]; rfl
                  have ii0 : (0 : Int) ≤ (k : Int) := Int.natCast_nonneg _
                  have ii1 : (k : Int) < (n4 : Int) := by omega
                  clear ha hb hA hA' hx hlw
                  go_wp2_with fail
                  go_quiet (fail)
                  go_wp2_with fail
                  go_roundw
                  case rel => exact ⟨k + 1, by omega, by go_num, HTL13.out.keep (below_drewN (Below.refl _ _) _)⟩
                  case measure => simp [intOf]; omega
                · obtain rfl : k = n4 := by omega
                  go_wp2_with fail
                  go_ret
                  exact ⟨rfl, HBL13.out⟩
end Go.Proofs.YtkgkjkghdllkhaaDoor
