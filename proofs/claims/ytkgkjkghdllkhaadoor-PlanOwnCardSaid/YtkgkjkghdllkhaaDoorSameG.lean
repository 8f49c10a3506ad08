/-
  The given package's Same over any two plans: whether they are equal.
-/
import Derived.Test.YtkgkjkghdllkhaaDoorSameE
namespace Go.Proofs.YtkgkjkghdllkhaaDoor
open Go.RowKit

theorem neq54n {a b c a' b' c' : Int} (h : ¬ (a, b, c) = (a', b', c')) (w : World) : (binOp .neq 54 (.agg #[.int .u8 a, .int .u8 b, .int .u8 c]) (.agg #[.int .u8 a', .int .u8 b', .int .u8 c'])).run Tryd.prog w = .ok (.bool true) w := by
  have h0 := eql54 a b c a' b' c' w
  rw [decide_eq_false (fun e => h (by rw [e.1, e.2.1, e.2.2]))] at h0
  simp only [binOp] at h0 ⊢
  revert h0
  generalize (Op.equal 54 (.agg #[.int .u8 a, .int .u8 b, .int .u8 c]) (.agg #[.int .u8 a', .int .u8 b', .int .u8 c'])) = e
  intro h0
  simp at h0 ⊢
  cases hr : e.run Tryd.prog w with
  | ok v w2 => rw [hr] at h0; simp at h0 ⊢; obtain ⟨h1, h2⟩ := h0; exact ⟨h1, h2⟩
  | _ => rw [hr] at h0; simp at h0

/-- The first elements are the same. -/
def EqK {α : Type} (l l' : List α) (d : α) (k : Nat) : Prop := ∀ j, j < k → l.getD j d = l'.getD j d
theorem EqK.zero {α : Type} {l l' : List α} {d : α} : EqK l l' d 0 := fun _ hj => absurd hj (Nat.not_lt_zero _)
theorem EqK.succ {α : Type} {l l' : List α} {d : α} {k : Nat} (h : EqK l l' d k) (e : l.getD k d = l'.getD k d) : EqK l l' d (k + 1) := fun j hj => by
  rcases Nat.lt_or_ge j k with h1 | h1
  · exact h j h1
  · obtain rfl : j = k := by omega
    exact e
/-- Both boxes, and what was there. -/
def TwoG (w : World) (P Q : PlanA) (L M : PlanL) (W : World) : Prop := PB W w.heap.size P L ∧ PB W (w.heap.size + 1) Q M ∧ Below w.heap.size w W
theorem TwoG.keep {w W W' : World} {P Q : PlanA} {L M : PlanL} (h : TwoG w P Q L M W) (hB : Below W.heap.size W W') : TwoG w P Q L M W' := ⟨h.1.keep hB, h.2.1.keep hB, below_two h.2.2 hB⟩
def GRel (w : World) (P Q : PlanA) (L M : PlanL) (n : Nat) (E : Nat → Prop) (i : Value) (wr : World) : Prop := ∃ k : Nat, k ≤ n ∧ i = .int .i64 k ∧ TwoG w P Q L M wr ∧ E k
def GRelQ (w : World) (P Q : PlanA) (L M : PlanL) (b c : Nat) (S S2 : Option Addr × Nat) (m : Nat) (ev : Int) (R R2 : Option Addr × Nat) (l : Nat) (a0 a1 a2 : Int) (n : Nat) (E : Nat → Prop) (i : Value) (wr : World) : Prop :=
  ∃ k : Nat, k ≤ n ∧ i = .int .i64 k ∧ TwoG w P Q L M wr ∧ QB wr b S m ev R l a0 a1 a2 ∧ QB wr c S2 m ev R2 l a0 a1 a2 ∧ E k

theorem plan_ext {P Q : PlanA} (h0 : P.1 = Q.1) (h1 : P.2.1 = Q.2.1) (h2 : P.2.2.1 = Q.2.2.1) (h3 : P.2.2.2.1 = Q.2.2.2.1) (h4 : P.2.2.2.2 = Q.2.2.2.2) : P = Q := by
  obtain ⟨a, b, c, d, e⟩ := P
  obtain ⟨a', b', c', d', e'⟩ := Q
  simp only at h0 h1 h2 h3 h4
  subst h0 h1 h2 h3 h4
  rfl
set_option maxHeartbeats 64000000 in
set_option maxRecDepth 100000 in
theorem same_ne (P Q : PlanA) (L M : PlanL) (w : World) (hP : PlanAt w P L) (hM : PlanAt w Q M) (h1 : P.2.1.length ≤ 140737488355328) (h2 : P.2.2.1.length ≤ 140737488355328) (h3 : P.2.2.2.1.length ≤ 140737488355328) (h4 : P.2.2.2.2.length ≤ 140737488355328)
    (h5 : ∀ ws ∈ P.2.1, ws.length ≤ 140737488355328) (h6 : ∀ q ∈ P.2.2.1, q.1.length ≤ 140737488355328 ∧ q.2.2.1.length ≤ 140737488355328) (hne : P ≠ Q) :
    Calls Tryd.prog 17 #[planV P L, planV Q M] w fun e w' => e = .returned (.bool false) ∧ Below w.heap.size w w' := by
  have HP := Lib.hid hP
  have HM := Lib.hid hM
  have H5 := Lib.hid h5
  have H6 := Lib.hid h6
  have HNE := Lib.hid hne
  have hpv : ∀ (P : PlanA) (L : PlanL), planV P L = .agg #[.int .u16 P.1, .slice L.a1 P.2.1.length L.c1, .slice L.a2 P.2.2.1.length L.c2, .slice L.a3 P.2.2.2.1.length L.c3, .slice L.a4 P.2.2.2.2.length L.c4] := fun _ _ => rfl
  rw [hpv, hpv]
  obtain ⟨fr, hfe⟩ : ∃ fr, fr = P.1 := ⟨_, rfl⟩
  obtain ⟨n1, hn1⟩ : ∃ n, n = P.2.1.length := ⟨_, rfl⟩
  obtain ⟨n2, hn2⟩ : ∃ n, n = P.2.2.1.length := ⟨_, rfl⟩
  obtain ⟨n3, hn3⟩ : ∃ n, n = P.2.2.2.1.length := ⟨_, rfl⟩
  obtain ⟨n4, hn4⟩ : ∃ n, n = P.2.2.2.2.length := ⟨_, rfl⟩
  obtain ⟨fr', hfe'⟩ : ∃ fr, fr = Q.1 := ⟨_, rfl⟩
  obtain ⟨n1', hn1'⟩ : ∃ n, n = Q.2.1.length := ⟨_, rfl⟩
  obtain ⟨n2', hn2'⟩ : ∃ n, n = Q.2.2.1.length := ⟨_, rfl⟩
  obtain ⟨n3', hn3'⟩ : ∃ n, n = Q.2.2.2.1.length := ⟨_, rfl⟩
  obtain ⟨n4', hn4'⟩ : ∃ n, n = Q.2.2.2.2.length := ⟨_, rfl⟩
  have hT : TwoG w P Q L M ((w.alloc (.cells #[.int .u16 fr, .slice L.a1 n1 L.c1, .slice L.a2 n2 L.c2, .slice L.a3 n3 L.c3, .slice L.a4 n4 L.c4] 28)).alloc (.cells #[.int .u16 fr', .slice M.a1 n1' M.c1, .slice M.a2 n2' M.c2, .slice M.a3 n3' M.c3, .slice M.a4 n4' M.c4] 28)) := by
    rw [hfe, hn1, hn2, hn3, hn4, hfe', hn1', hn2', hn3', hn4']
    refine ⟨PB.keep (W := w.alloc _) ⟨by simp, by simp, by simp, by simp, by simp⟩ ((Below.refl _ _).alloc (Nat.le_refl _) _), ⟨?_, ?_, ?_, ?_, ?_⟩, ((Below.refl _ _).alloc (Nat.le_refl _) _).alloc (by simp) _⟩
    all_goals (rw [World.cell?_alloc_at _ _ _ _ (by simp)]; rfl)
  rw [← hfe, ← hn1, ← hn2, ← hn3, ← hn4, ← hfe', ← hn1', ← hn2', ← hn3', ← hn4']
  rw [← hn1] at h1
  rw [← hn2] at h2
  rw [← hn3] at h3
  rw [← hn4] at h4
  have HT := Lib.hid hT
  have HFE := Lib.hid hfe
  have HN1 := Lib.hid hn1
  have HN2 := Lib.hid hn2
  have HN3 := Lib.hid hn3
  have HN4 := Lib.hid hn4
  have HFE' := Lib.hid hfe'
  have HN1' := Lib.hid hn1'
  have HN2' := Lib.hid hn2'
  have HN3' := Lib.hid hn3'
  have HN4' := Lib.hid hn4'
  clear hP hM h5 h6 hpv hfe hn1 hn2 hn3 hn4 hfe' hn1' hn2' hn3' hn4' hT hne
  by_cases e0 : fr = fr'
  case neg =>
    have hfr : (fr != fr') = true := by simp [e0]
    clear e0
    go_enter Tryd.func17, Tryd.ntmps17
    go_wp2_with fail
    go_ret
    exact ⟨rfl, HT.out.2.2⟩
  subst e0
  by_cases e1 : n1 = n1'
  case neg =>
    have hfr : ((n1 : Int) != (n1' : Int)) = true := by simp; omega
    clear e1
    go_enter Tryd.func17, Tryd.ntmps17
    go_wp2_with fail
    go_ret
    exact ⟨rfl, HT.out.2.2⟩
  subst e1
  by_cases e2 : n2 = n2'
  case neg =>
    have hfr : ((n2 : Int) != (n2' : Int)) = true := by simp; omega
    clear e2
    go_enter Tryd.func17, Tryd.ntmps17
    go_wp2_with fail
    go_ret
    exact ⟨rfl, HT.out.2.2⟩
  subst e2
  by_cases e3 : n3 = n3'
  case neg =>
    have hfr : ((n3 : Int) != (n3' : Int)) = true := by simp; omega
    clear e3
    go_enter Tryd.func17, Tryd.ntmps17
    go_wp2_with fail
    go_ret
    exact ⟨rfl, HT.out.2.2⟩
  subst e3
  by_cases e4 : n4 = n4'
  case neg =>
    have hfr : ((n4 : Int) != (n4' : Int)) = true := by simp; omega
    clear e4
    go_enter Tryd.func17, Tryd.ntmps17
    go_wp2_with fail
    go_ret
    exact ⟨rfl, HT.out.2.2⟩
  subst e4
  go_enter Tryd.func17, Tryd.ntmps17
  go_wp2_with fail
  go_loopw [5] (fun i wr => GRel w P Q L M n1 (EqK P.2.1 Q.2.1 []) i wr) (fun i _ => n1 - (intOf i).toNat)
  case atStart => exact ⟨0, Nat.zero_le _, rfl, HT.out, EqK.zero⟩
  case round => as_aux_lemma =>
    obtain ⟨k, hk, rfl, hT, hE⟩ := hrel
    have HTL5 := Lib.hid hT
    have HBL5 := Lib.hid hT.2.2
    have HE5 := Lib.hid hE
    clear hE
    obtain ⟨⟨k0, k1, k2, k3, k4⟩, ⟨m0, m1, m2, m3, m4⟩, -⟩ := hT
    rw [← HFE.out] at k0
    rw [← HN1.out] at k1
    rw [← HN2.out] at k2
    rw [← HN3.out] at k3
    rw [← HN4.out] at k4
    rw [← HFE'.out] at m0
    rw [← HN1'.out] at m1
    rw [← HN2'.out] at m2
    rw [← HN3'.out] at m3
    rw [← HN4'.out] at m4
    by_cases hlt : k < n1
    · have hlw : k < P.2.1.length := by rw [← HN1.out]; exact hlt
      have hlv : k < Q.2.1.length := by rw [← HN1'.out]; exact hlt
      obtain ⟨Pf, r1, r2⟩ := HP.out.cores
      obtain ⟨Pf', r1', r2'⟩ := HM.out.cores
      obtain ⟨b, o, hA⟩ := Arr.head r1 hlw
      obtain ⟨b', o', hA'⟩ := Arr.head r1' hlv
      rw [hA] at r1 k1
      rw [hA'] at r1' m1
      have c0 := kept (Arr.at (j := 0) r1 hlw rfl) HBL5.out
      have d0 := kept (Arr.at (j := 0) r1' hlv rfl) HBL5.out
      have s1 := r2 k hlw
      have s1' := r2' k hlv
      have hle := H5.out _ (getD_mem [] hlw)
      obtain ⟨ws, hx⟩ : ∃ x, x = P.2.1.getD k [] := ⟨_, rfl⟩
      obtain ⟨ws', hy⟩ : ∃ x, x = Q.2.1.getD k [] := ⟨_, rfl⟩
      rw [← hx] at s1 hle
      rw [← hy] at s1'
      obtain ⟨m, hm⟩ : ∃ m, m = ws.length := ⟨_, rfl⟩
      obtain ⟨m', hm'⟩ : ∃ m, m = ws'.length := ⟨_, rfl⟩
      rw [← hm] at hle
      simp only [← hx, slV, Nat.add_zero, Nat.mul_one, ← hm] at c0
      simp only [← hy, slV, Nat.add_zero, Nat.mul_one, ← hm'] at d0
      have SA := Lib.hid s1
      have SA' := Lib.hid s1'
      have HM0 := Lib.hid hm
      have HM0' := Lib.hid hm'
      have HA := Lib.hid hA
      have HA' := Lib.hid hA'
      have HXP := Lib.hid hx
      have HYP := Lib.hid hy
      have HR1 := Lib.hid (fun (W : World) (hb : Below w.heap.size w W) => kept (Arr.at (j := 0) r1 hlw rfl) hb)
      have HR1' := Lib.hid (fun (W : World) (hb : Below w.heap.size w W) => kept (Arr.at (j := 0) r1' hlv rfl) hb)
      simp only [← hx, slV, Nat.add_zero, Nat.mul_one, ← hm] at HR1
      simp only [← hy, slV, Nat.add_zero, Nat.mul_one, ← hm'] at HR1'
      have ii0 : (0 : Int) ≤ (k : Int) := Int.natCast_nonneg _
      have ii1 : (k : Int) < (n1 : Int) := by omega
      clear r1 r2 r1' r2' hA hA' hx hy hlw hlv s1 s1' hm hm'
      by_cases hmm : m = m'
      case neg =>
        have hse : ((m : Int) != (m' : Int)) = true := by simp; omega
        clear hmm
        go_wp2_with fail
        go_quiet (fail)
        go_wp2_with fail
        go_ret
        exact ⟨rfl, below_drewN HBL5.out _⟩
      subst hmm
      go_wp2_with fail
      go_quiet (fail)
      go_wp2_with fail
      clear c0 d0 k0 k1 k2 k3 k4 m0 m1 m2 m3 m4
      go_loopw [6] (fun i wr => GRel w P Q L M m (EqK ws ws' dW) i wr) (fun i _ => m - (intOf i).toNat)
      case atStart => exact ⟨0, Nat.zero_le _, rfl, HTL5.out.keep (below_drewN (Below.refl _ _) _), EqK.zero⟩
      case round => as_aux_lemma =>
        obtain ⟨j, hj, rfl, hT, hE⟩ := hrel
        have HTj := Lib.hid hT
        have HBj := Lib.hid hT.2.2
        have HEj := Lib.hid hE
        clear hE
        obtain ⟨⟨k0, k1, k2, k3, k4⟩, ⟨m0, m1, m2, m3, m4⟩, -⟩ := hT
        rw [← HFE.out] at k0
        rw [← HN1.out] at k1
        rw [← HN2.out] at k2
        rw [← HN3.out] at k3
        rw [← HN4.out] at k4
        rw [← HFE'.out] at m0
        rw [← HN1'.out] at m1
        rw [← HN2'.out] at m2
        rw [← HN3'.out] at m3
        rw [← HN4'.out] at m4
        rw [HA.out] at k1
        rw [HA'.out] at m1
        have c9 := HR1.out _ HBj.out
        have d9 := HR1'.out _ HBj.out
        by_cases hlt2 : j < m
        · have hlw2 : j < ws.length := by rw [← HM0.out]; exact hlt2
          have hlv2 : j < ws'.length := by rw [← HM0'.out]; exact hlt2
          obtain ⟨b2, o2, hA2⟩ := Arr.head SA.out hlw2
          obtain ⟨b2', o2', hA2'⟩ := Arr.head SA'.out hlv2
          have ha := SA.out
          have hb := SA'.out
          unfold WinsAt at ha hb
          rw [hA2] at ha c9
          rw [hA2'] at hb d9
          have c0 := kept (Arr.at (j := 0) ha hlw2 rfl) HBj.out
          have d0 := kept (Arr.at (j := 0) hb hlv2 rfl) HBj.out
          have c1 := kept (Arr.at (j := 1) ha hlw2 rfl) HBj.out
          have d1 := kept (Arr.at (j := 1) hb hlv2 rfl) HBj.out
          have c2 := kept (Arr.at (j := 2) ha hlw2 rfl) HBj.out
          have d2 := kept (Arr.at (j := 2) hb hlv2 rfl) HBj.out
          have c3 := kept (Arr.at (j := 3) ha hlw2 rfl) HBj.out
          have d3 := kept (Arr.at (j := 3) hb hlv2 rfl) HBj.out
          obtain ⟨⟨x0, x1, x2, x3⟩, hx⟩ : ∃ x, x = ws.getD j dW := ⟨_, rfl⟩
          obtain ⟨⟨y0, y1, y2, y3⟩, hy⟩ : ∃ x, x = ws'.getD j dW := ⟨_, rfl⟩
          simp only [← hx, ← hy, Nat.add_zero] at c0 d0 c1 d1 c2 d2 c3 d3
          have HX := Lib.hid hx
          have HY := Lib.hid hy
          have hne := fun W => neq51 x0 x1 x2 x3 y0 y1 y2 y3 W
          have jj0 : (0 : Int) ≤ (j : Int) := Int.natCast_nonneg _
          have jj1 : (j : Int) < (m : Int) := by omega
          clear ha hb hA2 hA2' hx hy hlw2 hlv2
          by_cases he : (x0, x1, x2, x3) = (y0, y1, y2, y3)
          · have HEQ := Lib.hid he
            have hse := same_yes he
            clear he
            go_wp2_with fail
            go_quiet (fail)
            go_wp2_with fail
            go_roundw
            case rel => exact ⟨j + 1, by omega, by go_num, HTj.out.keep (below_drewN (Below.refl _ _) _), HEj.out.succ (by rw [← HX.out, ← HY.out]; exact HEQ.out)⟩
            case measure => simp [intOf]; omega
          · have hse := same_no he
            clear he
            go_wp2_with fail
            go_quiet (fail)
            go_wp2_with fail
            go_ret
            exact ⟨rfl, below_drewN HBj.out _⟩
        · obtain rfl : j = m := by omega
          go_wp2_with fail
          go_roundw
          case rel => exact ⟨k + 1, by omega, by go_num, HTj.out, HE5.out.succ (by rw [← HXP.out, ← HYP.out]; exact list_ext dW (HM0.out.symm.trans HM0'.out) (by rw [← HM0.out]; exact HEj.out))⟩
          case measure => simp [intOf]; omega
    · obtain rfl : k = n1 := by omega
      go_wp2_with fail
      clear k0 k1 k2 k3 k4 m0 m1 m2 m3 m4
      go_loopw [7] (fun i wr => GRel w P Q L M n2 (EqK P.2.2.1 Q.2.2.1 dQ) i wr) (fun i _ => n2 - (intOf i).toNat)
      case atStart => exact ⟨0, Nat.zero_le _, rfl, HTL5.out, EqK.zero⟩
      case round => as_aux_lemma =>
        obtain ⟨k, hk, rfl, hT, hE⟩ := hrel
        have HTL7 := Lib.hid hT
        have HBL7 := Lib.hid hT.2.2
        have HE7 := Lib.hid hE
        clear hE
        obtain ⟨⟨k0, k1, k2, k3, k4⟩, ⟨m0, m1, m2, m3, m4⟩, -⟩ := hT
        rw [← HFE.out] at k0
        rw [← HN1.out] at k1
        rw [← HN2.out] at k2
        rw [← HN3.out] at k3
        rw [← HN4.out] at k4
        rw [← HFE'.out] at m0
        rw [← HN1'.out] at m1
        rw [← HN2'.out] at m2
        rw [← HN3'.out] at m3
        rw [← HN4'.out] at m4
        by_cases hlt : k < n2
        · have hlw : k < P.2.2.1.length := by rw [← HN2.out]; exact hlt
          have hlv : k < Q.2.2.1.length := by rw [← HN2'.out]; exact hlt
          obtain ⟨Sf, Qf, r1, r2⟩ := HP.out.parts
          obtain ⟨Sf', Qf', r1', r2'⟩ := HM.out.parts
          obtain ⟨b, o, hA⟩ := Arr.head r1 hlw
          obtain ⟨b', o', hA'⟩ := Arr.head r1' hlv
          rw [hA] at r1 k2
          rw [hA'] at r1' m2
          have c0 := kept (Arr.at (j := 0) r1 hlw rfl) HBL7.out
          have d0 := kept (Arr.at (j := 0) r1' hlv rfl) HBL7.out
          have c1 := kept (Arr.at (j := 1) r1 hlw rfl) HBL7.out
          have d1 := kept (Arr.at (j := 1) r1' hlv rfl) HBL7.out
          have c2 := kept (Arr.at (j := 2) r1 hlw rfl) HBL7.out
          have d2 := kept (Arr.at (j := 2) r1' hlv rfl) HBL7.out
          have c3 := kept (Arr.at (j := 3) r1 hlw rfl) HBL7.out
          have d3 := kept (Arr.at (j := 3) r1' hlv rfl) HBL7.out
          have c4 := kept (Arr.at (j := 4) r1 hlw rfl) HBL7.out
          have d4 := kept (Arr.at (j := 4) r1' hlv rfl) HBL7.out
          have c5 := kept (Arr.at (j := 5) r1 hlw rfl) HBL7.out
          have d5 := kept (Arr.at (j := 5) r1' hlv rfl) HBL7.out
          obtain ⟨s1, s2, -⟩ := r2 k hlw
          obtain ⟨s1', s2', -⟩ := r2' k hlv
          have hle := H6.out _ (getD_mem dQ hlw)
          obtain ⟨⟨ss, ev, pp, a0, a1, a2⟩, hx⟩ : ∃ x, x = P.2.2.1.getD k dQ := ⟨_, rfl⟩
          obtain ⟨⟨ss', ev', pp', b0, b1, b2⟩, hy⟩ : ∃ x, x = Q.2.2.1.getD k dQ := ⟨_, rfl⟩
          rw [← hx] at s1 s2 hle
          rw [← hy] at s1' s2'
          dsimp only at s1 s2 s1' s2' hle
          simp only [← hx, slV, Nat.add_zero] at c0 c1 c2 c3 c4 c5
          simp only [← hy, slV, Nat.add_zero] at d0 d1 d2 d3 d4 d5
          obtain ⟨m, hm⟩ : ∃ m, m = ss.length := ⟨_, rfl⟩
          obtain ⟨l, hl⟩ : ∃ m, m = pp.length := ⟨_, rfl⟩
          obtain ⟨m', hm'⟩ : ∃ m, m = ss'.length := ⟨_, rfl⟩
          obtain ⟨l', hl'⟩ : ∃ m, m = pp'.length := ⟨_, rfl⟩
          rw [← hm] at c0 hle
          rw [← hl] at c2 hle
          rw [← hm'] at d0
          rw [← hl'] at d2
          obtain ⟨le1, le2⟩ := hle
          have SA := Lib.hid s1
          have SB := Lib.hid s2
          have SA' := Lib.hid s1'
          have SB' := Lib.hid s2'
          have HM0 := Lib.hid hm
          have HL := Lib.hid hl
          have HM0' := Lib.hid hm'
          have HL' := Lib.hid hl'
          have HXP := Lib.hid hx
          have HYP := Lib.hid hy
          have ii0 : (0 : Int) ≤ (k : Int) := Int.natCast_nonneg _
          have ii1 : (k : Int) < (n2 : Int) := by omega
          clear r1 r2 r1' r2' hA hA' hx hy hlw hlv s1 s2 s1' s2' hm hl hm' hl'
          go_wp2_with fail
          have hal : ∀ o1 o2, Below wr.heap.size wr ((wr.alloc o1).alloc o2) := fun o1 o2 => ((Below.refl _ _).alloc (Nat.le_refl _) _).alloc (by simp) _
          have hal1 : ∀ o1, Below wr.heap.size wr (wr.alloc o1) := fun o1 => (Below.refl _ _).alloc (Nat.le_refl _) _
          have v2 := fun o1 o2 => kept k2 (hal o1 o2)
          have v3 := fun o1 => kept k2 (hal1 o1)
          have w3 := fun o1 => kept m2 (hal1 o1)
          have w2 := fun o1 o2 => kept m2 (hal o1 o2)
          have v10 := fun o1 o2 => kept c0 (hal o1 o2)
          have w10 := fun o1 o2 => kept d0 (hal o1 o2)
          have v20 := fun o1 => kept c0 (hal1 o1)
          have w20 := fun o1 => kept d0 (hal1 o1)
          have v11 := fun o1 o2 => kept c1 (hal o1 o2)
          have w11 := fun o1 o2 => kept d1 (hal o1 o2)
          have v21 := fun o1 => kept c1 (hal1 o1)
          have w21 := fun o1 => kept d1 (hal1 o1)
          have v12 := fun o1 o2 => kept c2 (hal o1 o2)
          have w12 := fun o1 o2 => kept d2 (hal o1 o2)
          have v22 := fun o1 => kept c2 (hal1 o1)
          have w22 := fun o1 => kept d2 (hal1 o1)
          have v13 := fun o1 o2 => kept c3 (hal o1 o2)
          have w13 := fun o1 o2 => kept d3 (hal o1 o2)
          have v23 := fun o1 => kept c3 (hal1 o1)
          have w23 := fun o1 => kept d3 (hal1 o1)
          have v14 := fun o1 o2 => kept c4 (hal o1 o2)
          have w14 := fun o1 o2 => kept d4 (hal o1 o2)
          have v24 := fun o1 => kept c4 (hal1 o1)
          have w24 := fun o1 => kept d4 (hal1 o1)
          have v15 := fun o1 o2 => kept c5 (hal o1 o2)
          have w15 := fun o1 o2 => kept d5 (hal o1 o2)
          have v25 := fun o1 => kept c5 (hal1 o1)
          have w25 := fun o1 => kept d5 (hal1 o1)
          clear hal hal1
          go_region
          · as_aux_lemma =>
              have hz : Below wr.heap.size wr ((wr.alloc (.cells #[.slice (Sf k).1 m (Sf k).2, .int .u8 ev, .slice (Qf k).1 l (Qf k).2, .int .u8 a0, .int .u8 a1, .int .u8 a2] 56)).alloc (.cells #[.slice (Sf' k).1 m' (Sf' k).2, .int .u8 ev', .slice (Qf' k).1 l' (Qf' k).2, .int .u8 b0, .int .u8 b1, .int .u8 b2] 56)).drew := (((Below.refl _ _).alloc (Nat.le_refl _) _).alloc (by simp) _).drew
              have HTT := Lib.hid (HTL7.out.keep hz)
              have HQQ := Lib.hid (show QB ((wr.alloc (.cells #[.slice (Sf k).1 m (Sf k).2, .int .u8 ev, .slice (Qf k).1 l (Qf k).2, .int .u8 a0, .int .u8 a1, .int .u8 a2] 56)).alloc (.cells #[.slice (Sf' k).1 m' (Sf' k).2, .int .u8 ev', .slice (Qf' k).1 l' (Qf' k).2, .int .u8 b0, .int .u8 b1, .int .u8 b2] 56)).drew wr.heap.size (Sf k) m ev (Qf k) l a0 a1 a2 from QB.keep (W := wr.alloc _) ⟨by simp, by simp, by simp, by simp, by simp, by simp⟩ (((Below.refl _ _).alloc (Nat.le_refl _) _).drew))
              have HQQ' := Lib.hid (show QB ((wr.alloc (.cells #[.slice (Sf k).1 m (Sf k).2, .int .u8 ev, .slice (Qf k).1 l (Qf k).2, .int .u8 a0, .int .u8 a1, .int .u8 a2] 56)).alloc (.cells #[.slice (Sf' k).1 m' (Sf' k).2, .int .u8 ev', .slice (Qf' k).1 l' (Qf' k).2, .int .u8 b0, .int .u8 b1, .int .u8 b2] 56)).drew (wr.heap.size + 1) (Sf' k) m' ev' (Qf' k) l' b0 b1 b2 from QB.keep (W := (wr.alloc _).alloc _) (by refine ⟨?_, ?_, ?_, ?_, ?_, ?_⟩ <;> (rw [World.cell?_alloc_at _ _ _ _ (by simp)]; rfl)) (Below.refl _ _).drew)
              clear hz v2 w2 v3 w3 v10 w10 v20 w20 c0 d0 v11 w11 v21 w21 c1 d1 v12 w12 v22 w22 c2 d2 v13 w13 v23 w23 c3 d3 v14 w14 v24 w24 c4 d4 v15 w15 v25 w25 c5 d5
              clear k0 k1 k2 k3 k4 m0 m1 m2 m3 m4
              by_cases e1 : ev = ev'
              case neg =>
                have hse : (ev != ev') = true := by simp [e1]
                clear e1
                go_wp2_with fail
                go_ret
                exact ⟨rfl, HTT.out.2.2⟩
              subst e1
              by_cases e2 : (a0, a1, a2) = (b0, b1, b2)
              case neg =>
                have hne := neq54n e2
                clear e2
                go_wp2_with fail
                go_ret
                exact ⟨rfl, HTT.out.2.2⟩
              obtain ⟨rfl, rfl, rfl⟩ : a0 = b0 ∧ a1 = b1 ∧ a2 = b2 := by simpa using e2
              clear e2
              have hne := neq54y a0 a1 a2
              by_cases e3 : m = m'
              case neg =>
                have hse : ((m : Int) != (m' : Int)) = true := by simp; omega
                clear e3
                go_wp2_with fail
                go_ret
                exact ⟨rfl, HTT.out.2.2⟩
              subst e3
              by_cases e4 : l = l'
              case neg =>
                have hse : ((l : Int) != (l' : Int)) = true := by simp; omega
                clear e4
                go_wp2_with fail
                go_ret
                exact ⟨rfl, HTT.out.2.2⟩
              subst e4
              go_wp2_with fail
              rename World => wo
              go_loopw [10] (fun i wq => GRelQ w P Q L M wo.heap.size (wo.heap.size + 1) (Sf k) (Sf' k) m ev (Qf k) (Qf' k) l a0 a1 a2 m (EqK ss ss' dS) i wq) (fun i _ => m - (intOf i).toNat)
              case atStart => exact ⟨0, Nat.zero_le _, rfl, HTT.out, HQQ.out, HQQ'.out, EqK.zero⟩
              case round => as_aux_lemma =>
                obtain ⟨j, hj, rfl, hT, hQ, hQ', hE⟩ := hrel
                have HTj := Lib.hid hT
                have HBj := Lib.hid hT.2.2
                have HQj := Lib.hid hQ
                have HQj' := Lib.hid hQ'
                have HEj10 := Lib.hid hE
                clear hE
                obtain ⟨⟨k0, k1, k2, k3, k4⟩, ⟨m0, m1, m2, m3, m4⟩, -⟩ := hT
                rw [← HFE.out] at k0
                rw [← HN1.out] at k1
                rw [← HN2.out] at k2
                rw [← HN3.out] at k3
                rw [← HN4.out] at k4
                rw [← HFE'.out] at m0
                rw [← HN1'.out] at m1
                rw [← HN2'.out] at m2
                rw [← HN3'.out] at m3
                rw [← HN4'.out] at m4
                obtain ⟨q0, q1, q2, q3, q4, q5⟩ := hQ
                obtain ⟨p0, p1, p2, p3, p4, p5⟩ := hQ'
                by_cases hlt2 : j < m
                · have hlw2 : j < ss.length := by rw [← HM0.out]; exact hlt2
                  have hlv2 : j < ss'.length := by rw [← HM0'.out]; exact hlt2
                  obtain ⟨b2, o2, hA2⟩ := Arr.head SA.out hlw2
                  obtain ⟨b2', o2', hA2'⟩ := Arr.head SA'.out hlv2
                  have ha := SA.out
                  have hb := SA'.out
                  unfold SemsAt at ha hb
                  rw [hA2] at ha q0
                  rw [hA2'] at hb p0
                  have c0 := kept (Arr.at (j := 0) ha hlw2 rfl) HBj.out
                  have d0 := kept (Arr.at (j := 0) hb hlv2 rfl) HBj.out
                  have c1 := kept (Arr.at (j := 1) ha hlw2 rfl) HBj.out
                  have d1 := kept (Arr.at (j := 1) hb hlv2 rfl) HBj.out
                  obtain ⟨⟨z0, z1⟩, hx⟩ : ∃ x, x = ss.getD j dS := ⟨_, rfl⟩
                  obtain ⟨⟨u0, u1⟩, hy⟩ : ∃ x, x = ss'.getD j dS := ⟨_, rfl⟩
                  simp only [← hx, ← hy, Nat.add_zero] at c0 d0 c1 d1
                  have HX := Lib.hid hx
                  have HY := Lib.hid hy
                  have hne := fun W => neq58 z0 z1 u0 u1 W
                  have ii0 : (0 : Int) ≤ (j : Int) := Int.natCast_nonneg _
                  have ii1 : (j : Int) < (m : Int) := by omega
                  clear ha hb hA2 hA2' hx hy hlw2 hlv2
                  by_cases he : (z0, z1) = (u0, u1)
                  · have HEQ := Lib.hid he
                    have hse := same_yes he
                    clear he
                    go_wp2_with fail
                    go_quiet (fail)
                    go_wp2_with fail
                    go_roundw
                    case rel => exact ⟨j + 1, by omega, by go_num, HTj.out.keep (below_drewN (Below.refl _ _) _), HQj.out.keep (below_drewN (Below.refl _ _) _), HQj'.out.keep (below_drewN (Below.refl _ _) _), HEj10.out.succ (by rw [← HX.out, ← HY.out]; exact HEQ.out)⟩
                    case measure => simp [intOf]; omega
                  · have hse := same_no he
                    clear he
                    go_wp2_with fail
                    go_quiet (fail)
                    go_wp2_with fail
                    go_ret
                    exact ⟨rfl, below_drewN HBj.out _⟩
                · obtain rfl : m = j := by omega
                  go_wp2_with fail
                  have HTT := HTj
                  have HQQ := HQj
                  have HQQ' := HQj'
                  clear k0 k1 k2 k3 k4 m0 m1 m2 m3 m4
                  clear q0 q1 q2 q3 q4 q5 p0 p1 p2 p3 p4 p5
                  go_loopw [11] (fun i wq => GRelQ w P Q L M wo.heap.size (wo.heap.size + 1) (Sf k) (Sf' k) m ev (Qf k) (Qf' k) l a0 a1 a2 l (EqK pp pp' 0) i wq) (fun i _ => l - (intOf i).toNat)
                  case atStart => exact ⟨0, Nat.zero_le _, rfl, HTT.out, HQQ.out, HQQ'.out, EqK.zero⟩
                  case round => as_aux_lemma =>
                    obtain ⟨j, hj, rfl, hT, hQ, hQ', hE⟩ := hrel
                    have HTj := Lib.hid hT
                    have HBj := Lib.hid hT.2.2
                    have HQj := Lib.hid hQ
                    have HQj' := Lib.hid hQ'
                    have HEj11 := Lib.hid hE
                    clear hE
                    obtain ⟨⟨k0, k1, k2, k3, k4⟩, ⟨m0, m1, m2, m3, m4⟩, -⟩ := hT
                    rw [← HFE.out] at k0
                    rw [← HN1.out] at k1
                    rw [← HN2.out] at k2
                    rw [← HN3.out] at k3
                    rw [← HN4.out] at k4
                    rw [← HFE'.out] at m0
                    rw [← HN1'.out] at m1
                    rw [← HN2'.out] at m2
                    rw [← HN3'.out] at m3
                    rw [← HN4'.out] at m4
                    obtain ⟨q0, q1, q2, q3, q4, q5⟩ := hQ
                    obtain ⟨p0, p1, p2, p3, p4, p5⟩ := hQ'
                    by_cases hlt2 : j < l
                    · have hlw2 : j < pp.length := by rw [← HL.out]; exact hlt2
                      have hlv2 : j < pp'.length := by rw [← HL'.out]; exact hlt2
                      obtain ⟨b2, o2, hA2⟩ := Arr.head SB.out hlw2
                      obtain ⟨b2', o2', hA2'⟩ := Arr.head SB'.out hlv2
                      have ha := SB.out
                      have hb := SB'.out
                      unfold BytesAt at ha hb
                      rw [hA2] at ha q2
                      rw [hA2'] at hb p2
                      have c0 := kept (Arr.at (j := 0) ha hlw2 rfl) HBj.out
                      have d0 := kept (Arr.at (j := 0) hb hlv2 rfl) HBj.out
                      obtain ⟨z, hx⟩ : ∃ x, x = pp.getD j 0 := ⟨_, rfl⟩
                      obtain ⟨u, hy⟩ : ∃ x, x = pp'.getD j 0 := ⟨_, rfl⟩
                      simp only [← hx, ← hy, bV, Nat.add_zero, Nat.mul_one] at c0 d0
                      have HX := Lib.hid hx
                      have HY := Lib.hid hy
                      have ii0 : (0 : Int) ≤ (j : Int) := Int.natCast_nonneg _
                      have ii1 : (j : Int) < (l : Int) := by omega
                      clear ha hb hA2 hA2' hx hy hlw2 hlv2
                      by_cases he : z = u
                      · have HEQ := Lib.hid he
                        have hse : (z != u) = false := by simp [he]
                        clear he
                        go_wp2_with fail
                        go_quiet (fail)
                        go_wp2_with fail
                        go_roundw
                        case rel => exact ⟨j + 1, by omega, by go_num, HTj.out.keep (below_drewN (Below.refl _ _) _), HQj.out.keep (below_drewN (Below.refl _ _) _), HQj'.out.keep (below_drewN (Below.refl _ _) _), HEj11.out.succ (by rw [← HX.out, ← HY.out]; exact HEQ.out)⟩
                        case measure => simp [intOf]; omega
                      · have hse : (z != u) = true := by simp [he]
                        clear he
                        go_wp2_with fail
                        go_quiet (fail)
                        go_wp2_with fail
                        go_ret
                        exact ⟨rfl, below_drewN HBj.out _⟩
                    · obtain rfl : j = l := by omega
                      go_wp2_with fail
                      go_roundw
                      case rel => exact ⟨k + 1, by omega, by go_num, HTj.out, HE7.out.succ (by
                        rw [← HXP.out, ← HYP.out, list_ext dS (HM0.out.symm.trans HM0'.out) (by rw [← HM0.out]; exact HEj10.out), list_ext 0 (HL.out.symm.trans HL'.out) (by rw [← HL.out]; exact HEj11.out)])⟩
                      case measure => simp [intOf]; omega
          · as_aux_lemma =>
              have hz : Below wr.heap.size wr ((wr.alloc (.cells #[.slice (Sf' k).1 m' (Sf' k).2, .int .u8 ev', .slice (Qf' k).1 l' (Qf' k).2, .int .u8 b0, .int .u8 b1, .int .u8 b2] 56)).alloc (.cells #[.slice (Sf k).1 m (Sf k).2, .int .u8 ev, .slice (Qf k).1 l (Qf k).2, .int .u8 a0, .int .u8 a1, .int .u8 a2] 56)).drew := (((Below.refl _ _).alloc (Nat.le_refl _) _).alloc (by simp) _).drew
              have HTT := Lib.hid (HTL7.out.keep hz)
              have HQQ := Lib.hid (show QB ((wr.alloc (.cells #[.slice (Sf' k).1 m' (Sf' k).2, .int .u8 ev', .slice (Qf' k).1 l' (Qf' k).2, .int .u8 b0, .int .u8 b1, .int .u8 b2] 56)).alloc (.cells #[.slice (Sf k).1 m (Sf k).2, .int .u8 ev, .slice (Qf k).1 l (Qf k).2, .int .u8 a0, .int .u8 a1, .int .u8 a2] 56)).drew (wr.heap.size + 1) (Sf k) m ev (Qf k) l a0 a1 a2 from QB.keep (W := (wr.alloc _).alloc _) (by refine ⟨?_, ?_, ?_, ?_, ?_, ?_⟩ <;> (rw [World.cell?_alloc_at _ _ _ _ (by simp)]; rfl)) (Below.refl _ _).drew)
              have HQQ' := Lib.hid (show QB ((wr.alloc (.cells #[.slice (Sf' k).1 m' (Sf' k).2, .int .u8 ev', .slice (Qf' k).1 l' (Qf' k).2, .int .u8 b0, .int .u8 b1, .int .u8 b2] 56)).alloc (.cells #[.slice (Sf k).1 m (Sf k).2, .int .u8 ev, .slice (Qf k).1 l (Qf k).2, .int .u8 a0, .int .u8 a1, .int .u8 a2] 56)).drew wr.heap.size (Sf' k) m' ev' (Qf' k) l' b0 b1 b2 from QB.keep (W := wr.alloc _) ⟨by simp, by simp, by simp, by simp, by simp, by simp⟩ (((Below.refl _ _).alloc (Nat.le_refl _) _).drew))
              clear hz v2 w2 v3 w3 v10 w10 v20 w20 c0 d0 v11 w11 v21 w21 c1 d1 v12 w12 v22 w22 c2 d2 v13 w13 v23 w23 c3 d3 v14 w14 v24 w24 c4 d4 v15 w15 v25 w25 c5 d5
              clear k0 k1 k2 k3 k4 m0 m1 m2 m3 m4
              by_cases e1 : ev = ev'
              case neg =>
                have hse : (ev != ev') = true := by simp [e1]
                clear e1
                go_wp2_with fail
                go_ret
                exact ⟨rfl, HTT.out.2.2⟩
              subst e1
              by_cases e2 : (a0, a1, a2) = (b0, b1, b2)
              case neg =>
                have hne := neq54n e2
                clear e2
                go_wp2_with fail
                go_ret
                exact ⟨rfl, HTT.out.2.2⟩
              obtain ⟨rfl, rfl, rfl⟩ : a0 = b0 ∧ a1 = b1 ∧ a2 = b2 := by simpa using e2
              clear e2
              have hne := neq54y a0 a1 a2
              by_cases e3 : m = m'
              case neg =>
                have hse : ((m : Int) != (m' : Int)) = true := by simp; omega
                clear e3
                go_wp2_with fail
                go_ret
                exact ⟨rfl, HTT.out.2.2⟩
              subst e3
              by_cases e4 : l = l'
              case neg =>
                have hse : ((l : Int) != (l' : Int)) = true := by simp; omega
                clear e4
                go_wp2_with fail
                go_ret
                exact ⟨rfl, HTT.out.2.2⟩
              subst e4
              go_wp2_with fail
              rename World => wo
              go_loopw [10] (fun i wq => GRelQ w P Q L M (wo.heap.size + 1) wo.heap.size (Sf k) (Sf' k) m ev (Qf k) (Qf' k) l a0 a1 a2 m (EqK ss ss' dS) i wq) (fun i _ => m - (intOf i).toNat)
              case atStart => exact ⟨0, Nat.zero_le _, rfl, HTT.out, HQQ.out, HQQ'.out, EqK.zero⟩
              case round => as_aux_lemma =>
                obtain ⟨j, hj, rfl, hT, hQ, hQ', hE⟩ := hrel
                have HTj := Lib.hid hT
                have HBj := Lib.hid hT.2.2
                have HQj := Lib.hid hQ
                have HQj' := Lib.hid hQ'
                have HEj10 := Lib.hid hE
                clear hE
                obtain ⟨⟨k0, k1, k2, k3, k4⟩, ⟨m0, m1, m2, m3, m4⟩, -⟩ := hT
                rw [← HFE.out] at k0
                rw [← HN1.out] at k1
                rw [← HN2.out] at k2
                rw [← HN3.out] at k3
                rw [← HN4.out] at k4
                rw [← HFE'.out] at m0
                rw [← HN1'.out] at m1
                rw [← HN2'.out] at m2
                rw [← HN3'.out] at m3
                rw [← HN4'.out] at m4
                obtain ⟨q0, q1, q2, q3, q4, q5⟩ := hQ
                obtain ⟨p0, p1, p2, p3, p4, p5⟩ := hQ'
                by_cases hlt2 : j < m
                · have hlw2 : j < ss.length := by rw [← HM0.out]; exact hlt2
                  have hlv2 : j < ss'.length := by rw [← HM0'.out]; exact hlt2
                  obtain ⟨b2, o2, hA2⟩ := Arr.head SA.out hlw2
                  obtain ⟨b2', o2', hA2'⟩ := Arr.head SA'.out hlv2
                  have ha := SA.out
                  have hb := SA'.out
                  unfold SemsAt at ha hb
                  rw [hA2] at ha q0
                  rw [hA2'] at hb p0
                  have c0 := kept (Arr.at (j := 0) ha hlw2 rfl) HBj.out
                  have d0 := kept (Arr.at (j := 0) hb hlv2 rfl) HBj.out
                  have c1 := kept (Arr.at (j := 1) ha hlw2 rfl) HBj.out
                  have d1 := kept (Arr.at (j := 1) hb hlv2 rfl) HBj.out
                  obtain ⟨⟨z0, z1⟩, hx⟩ : ∃ x, x = ss.getD j dS := ⟨_, rfl⟩
                  obtain ⟨⟨u0, u1⟩, hy⟩ : ∃ x, x = ss'.getD j dS := ⟨_, rfl⟩
                  simp only [← hx, ← hy, Nat.add_zero] at c0 d0 c1 d1
                  have HX := Lib.hid hx
                  have HY := Lib.hid hy
                  have hne := fun W => neq58 z0 z1 u0 u1 W
                  have ii0 : (0 : Int) ≤ (j : Int) := Int.natCast_nonneg _
                  have ii1 : (j : Int) < (m : Int) := by omega
                  clear ha hb hA2 hA2' hx hy hlw2 hlv2
                  by_cases he : (z0, z1) = (u0, u1)
                  · have HEQ := Lib.hid he
                    have hse := same_yes he
                    clear he
                    go_wp2_with fail
                    go_quiet (fail)
                    go_wp2_with fail
                    go_roundw
                    case rel => exact ⟨j + 1, by omega, by go_num, HTj.out.keep (below_drewN (Below.refl _ _) _), HQj.out.keep (below_drewN (Below.refl _ _) _), HQj'.out.keep (below_drewN (Below.refl _ _) _), HEj10.out.succ (by rw [← HX.out, ← HY.out]; exact HEQ.out)⟩
                    case measure => simp [intOf]; omega
                  · have hse := same_no he
                    clear he
                    go_wp2_with fail
                    go_quiet (fail)
                    go_wp2_with fail
                    go_ret
                    exact ⟨rfl, below_drewN HBj.out _⟩
                · obtain rfl : m = j := by omega
                  go_wp2_with fail
                  have HTT := HTj
                  have HQQ := HQj
                  have HQQ' := HQj'
                  clear k0 k1 k2 k3 k4 m0 m1 m2 m3 m4
                  clear q0 q1 q2 q3 q4 q5 p0 p1 p2 p3 p4 p5
                  go_loopw [11] (fun i wq => GRelQ w P Q L M (wo.heap.size + 1) wo.heap.size (Sf k) (Sf' k) m ev (Qf k) (Qf' k) l a0 a1 a2 l (EqK pp pp' 0) i wq) (fun i _ => l - (intOf i).toNat)
                  case atStart => exact ⟨0, Nat.zero_le _, rfl, HTT.out, HQQ.out, HQQ'.out, EqK.zero⟩
                  case round => as_aux_lemma =>
                    obtain ⟨j, hj, rfl, hT, hQ, hQ', hE⟩ := hrel
                    have HTj := Lib.hid hT
                    have HBj := Lib.hid hT.2.2
                    have HQj := Lib.hid hQ
                    have HQj' := Lib.hid hQ'
                    have HEj11 := Lib.hid hE
                    clear hE
                    obtain ⟨⟨k0, k1, k2, k3, k4⟩, ⟨m0, m1, m2, m3, m4⟩, -⟩ := hT
                    rw [← HFE.out] at k0
                    rw [← HN1.out] at k1
                    rw [← HN2.out] at k2
                    rw [← HN3.out] at k3
                    rw [← HN4.out] at k4
                    rw [← HFE'.out] at m0
                    rw [← HN1'.out] at m1
                    rw [← HN2'.out] at m2
                    rw [← HN3'.out] at m3
                    rw [← HN4'.out] at m4
                    obtain ⟨q0, q1, q2, q3, q4, q5⟩ := hQ
                    obtain ⟨p0, p1, p2, p3, p4, p5⟩ := hQ'
                    by_cases hlt2 : j < l
                    · have hlw2 : j < pp.length := by rw [← HL.out]; exact hlt2
                      have hlv2 : j < pp'.length := by rw [← HL'.out]; exact hlt2
                      obtain ⟨b2, o2, hA2⟩ := Arr.head SB.out hlw2
                      obtain ⟨b2', o2', hA2'⟩ := Arr.head SB'.out hlv2
                      have ha := SB.out
                      have hb := SB'.out
                      unfold BytesAt at ha hb
                      rw [hA2] at ha q2
                      rw [hA2'] at hb p2
                      have c0 := kept (Arr.at (j := 0) ha hlw2 rfl) HBj.out
                      have d0 := kept (Arr.at (j := 0) hb hlv2 rfl) HBj.out
                      obtain ⟨z, hx⟩ : ∃ x, x = pp.getD j 0 := ⟨_, rfl⟩
                      obtain ⟨u, hy⟩ : ∃ x, x = pp'.getD j 0 := ⟨_, rfl⟩
                      simp only [← hx, ← hy, bV, Nat.add_zero, Nat.mul_one] at c0 d0
                      have HX := Lib.hid hx
                      have HY := Lib.hid hy
                      have ii0 : (0 : Int) ≤ (j : Int) := Int.natCast_nonneg _
                      have ii1 : (j : Int) < (l : Int) := by omega
                      clear ha hb hA2 hA2' hx hy hlw2 hlv2
                      by_cases he : z = u
                      · have HEQ := Lib.hid he
                        have hse : (z != u) = false := by simp [he]
                        clear he
                        go_wp2_with fail
                        go_quiet (fail)
                        go_wp2_with fail
                        go_roundw
                        case rel => exact ⟨j + 1, by omega, by go_num, HTj.out.keep (below_drewN (Below.refl _ _) _), HQj.out.keep (below_drewN (Below.refl _ _) _), HQj'.out.keep (below_drewN (Below.refl _ _) _), HEj11.out.succ (by rw [← HX.out, ← HY.out]; exact HEQ.out)⟩
                        case measure => simp [intOf]; omega
                      · have hse : (z != u) = true := by simp [he]
                        clear he
                        go_wp2_with fail
                        go_quiet (fail)
                        go_wp2_with fail
                        go_ret
                        exact ⟨rfl, below_drewN HBj.out _⟩
                    · obtain rfl : j = l := by omega
                      go_wp2_with fail
                      go_roundw
                      case rel => exact ⟨k + 1, by omega, by go_num, HTj.out, HE7.out.succ (by
                        rw [← HXP.out, ← HYP.out, list_ext dS (HM0.out.symm.trans HM0'.out) (by rw [← HM0.out]; exact HEj10.out), list_ext 0 (HL.out.symm.trans HL'.out) (by rw [← HL.out]; exact HEj11.out)])⟩
                      case measure => simp [intOf]; omega
        · obtain rfl : k = n2 := by omega
          go_wp2_with fail
          clear k0 k1 k2 k3 k4 m0 m1 m2 m3 m4
          go_loopw [12] (fun i wr => GRel w P Q L M n3 (EqK P.2.2.2.1 Q.2.2.2.1 dC) i wr) (fun i _ => n3 - (intOf i).toNat)
          case atStart => exact ⟨0, Nat.zero_le _, rfl, HTL7.out, EqK.zero⟩
          case round => as_aux_lemma =>
            obtain ⟨k, hk, rfl, hT, hE⟩ := hrel
            have HTL12 := Lib.hid hT
            have HBL12 := Lib.hid hT.2.2
            have HE12 := Lib.hid hE
            clear hE
            obtain ⟨⟨k0, k1, k2, k3, k4⟩, ⟨m0, m1, m2, m3, m4⟩, -⟩ := hT
            rw [← HFE.out] at k0
            rw [← HN1.out] at k1
            rw [← HN2.out] at k2
            rw [← HN3.out] at k3
            rw [← HN4.out] at k4
            rw [← HFE'.out] at m0
            rw [← HN1'.out] at m1
            rw [← HN2'.out] at m2
            rw [← HN3'.out] at m3
            rw [← HN4'.out] at m4
            by_cases hlt : k < n3
            · have hlw : k < P.2.2.2.1.length := by rw [← HN3.out]; exact hlt
              have hlv : k < Q.2.2.2.1.length := by rw [← HN3'.out]; exact hlt
              obtain ⟨b, o, hA⟩ := Arr.head HP.out.chans hlw
              obtain ⟨b', o', hA'⟩ := Arr.head HM.out.chans hlv
              have ha := HP.out.chans
              have hb := HM.out.chans
              unfold ChansAt at ha hb
              rw [hA] at ha k3
              rw [hA'] at hb m3
              have c0 := kept (Arr.at (j := 0) ha hlw rfl) HBL12.out
              have d0 := kept (Arr.at (j := 0) hb hlv rfl) HBL12.out
              have c1 := kept (Arr.at (j := 1) ha hlw rfl) HBL12.out
              have d1 := kept (Arr.at (j := 1) hb hlv rfl) HBL12.out
              have c2 := kept (Arr.at (j := 2) ha hlw rfl) HBL12.out
              have d2 := kept (Arr.at (j := 2) hb hlv rfl) HBL12.out
              have c3 := kept (Arr.at (j := 3) ha hlw rfl) HBL12.out
              have d3 := kept (Arr.at (j := 3) hb hlv rfl) HBL12.out
              have c4 := kept (Arr.at (j := 4) ha hlw rfl) HBL12.out
              have d4 := kept (Arr.at (j := 4) hb hlv rfl) HBL12.out
              have c5 := kept (Arr.at (j := 5) ha hlw rfl) HBL12.out
              have d5 := kept (Arr.at (j := 5) hb hlv rfl) HBL12.out
              obtain ⟨⟨x0, x1, x2, x3, x4, x5⟩, hx⟩ : ∃ x, x = P.2.2.2.1.getD k dC := ⟨_, rfl⟩
              obtain ⟨⟨y0, y1, y2, y3, y4, y5⟩, hy⟩ : ∃ x, x = Q.2.2.2.1.getD k dC := ⟨_, rfl⟩
              simp only [← hx, ← hy, Nat.add_zero] at c0 d0 c1 d1 c2 d2 c3 d3 c4 d4 c5 d5
              have HX := Lib.hid hx
              have HY := Lib.hid hy
              have hne := fun W => neq60 x0 x1 x2 x3 x4 x5 y0 y1 y2 y3 y4 y5 W
              have ii0 : (0 : Int) ≤ (k : Int) := Int.natCast_nonneg _
              have ii1 : (k : Int) < (n3 : Int) := by omega
              clear ha hb hA hA' hx hy hlw hlv
              by_cases he : (x0, x1, x2, x3, x4, x5) = (y0, y1, y2, y3, y4, y5)
              · have HEQ := Lib.hid he
                have hse := same_yes he
                clear he
                go_wp2_with fail
                go_quiet (fail)
                go_wp2_with fail
                go_roundw
                case rel => exact ⟨k + 1, by omega, by go_num, HTL12.out.keep (below_drewN (Below.refl _ _) _), HE12.out.succ (by rw [← HX.out, ← HY.out]; exact HEQ.out)⟩
                case measure => simp [intOf]; omega
              · have hse := same_no he
                clear he
                go_wp2_with fail
                go_quiet (fail)
                go_wp2_with fail
                go_ret
                exact ⟨rfl, below_drewN HBL12.out _⟩
            · obtain rfl : k = n3 := by omega
              go_wp2_with fail
              clear k0 k1 k2 k3 k4 m0 m1 m2 m3 m4
              go_loopw [13] (fun i wr => GRel w P Q L M n4 (EqK P.2.2.2.2 Q.2.2.2.2 dS) i wr) (fun i _ => n4 - (intOf i).toNat)
              case atStart => exact ⟨0, Nat.zero_le _, rfl, HTL12.out, EqK.zero⟩
              case round => as_aux_lemma =>
                obtain ⟨k, hk, rfl, hT, hE⟩ := hrel
                have HTL13 := Lib.hid hT
                have HBL13 := Lib.hid hT.2.2
                have HE13 := Lib.hid hE
                clear hE
                obtain ⟨⟨k0, k1, k2, k3, k4⟩, ⟨m0, m1, m2, m3, m4⟩, -⟩ := hT
                rw [← HFE.out] at k0
                rw [← HN1.out] at k1
                rw [← HN2.out] at k2
                rw [← HN3.out] at k3
                rw [← HN4.out] at k4
                rw [← HFE'.out] at m0
                rw [← HN1'.out] at m1
                rw [← HN2'.out] at m2
                rw [← HN3'.out] at m3
                rw [← HN4'.out] at m4
                by_cases hlt : k < n4
                · have hlw : k < P.2.2.2.2.length := by rw [← HN4.out]; exact hlt
                  have hlv : k < Q.2.2.2.2.length := by rw [← HN4'.out]; exact hlt
                  obtain ⟨b, o, hA⟩ := Arr.head HP.out.pairs hlw
                  obtain ⟨b', o', hA'⟩ := Arr.head HM.out.pairs hlv
                  have ha := HP.out.pairs
                  have hb := HM.out.pairs
                  unfold SemsAt at ha hb
                  rw [hA] at ha k4
                  rw [hA'] at hb m4
                  have c0 := kept (Arr.at (j := 0) ha hlw rfl) HBL13.out
                  have d0 := kept (Arr.at (j := 0) hb hlv rfl) HBL13.out
                  have c1 := kept (Arr.at (j := 1) ha hlw rfl) HBL13.out
                  have d1 := kept (Arr.at (j := 1) hb hlv rfl) HBL13.out
                  obtain ⟨⟨x0, x1⟩, hx⟩ : ∃ x, x = P.2.2.2.2.getD k dS := ⟨_, rfl⟩
                  obtain ⟨⟨y0, y1⟩, hy⟩ : ∃ x, x = Q.2.2.2.2.getD k dS := ⟨_, rfl⟩
                  simp only [← hx, ← hy, Nat.add_zero] at c0 d0 c1 d1
                  have HX := Lib.hid hx
                  have HY := Lib.hid hy
                  have hne := fun W => neq62 x0 x1 y0 y1 W
                  have ii0 : (0 : Int) ≤ (k : Int) := Int.natCast_nonneg _
                  have ii1 : (k : Int) < (n4 : Int) := by omega
                  clear ha hb hA hA' hx hy hlw hlv
                  by_cases he : (x0, x1) = (y0, y1)
                  · have HEQ := Lib.hid he
                    have hse := same_yes he
                    clear he
                    go_wp2_with fail
                    go_quiet (fail)
                    go_wp2_with fail
                    go_roundw
                    case rel => exact ⟨k + 1, by omega, by go_num, HTL13.out.keep (below_drewN (Below.refl _ _) _), HE13.out.succ (by rw [← HX.out, ← HY.out]; exact HEQ.out)⟩
                    case measure => simp [intOf]; omega
                  · have hse := same_no he
                    clear he
                    go_wp2_with fail
                    go_quiet (fail)
                    go_wp2_with fail
                    go_ret
                    exact ⟨rfl, below_drewN HBL13.out _⟩
                · obtain rfl : k = n4 := by omega
                  exfalso
                  exact HNE.out (plan_ext (HFE.out.symm.trans HFE'.out) (list_ext [] (HN1.out.symm.trans HN1'.out) (by rw [← HN1.out]; exact HE5.out)) (list_ext dQ (HN2.out.symm.trans HN2'.out) (by rw [← HN2.out]; exact HE7.out)) (list_ext dC (HN3.out.symm.trans HN3'.out) (by rw [← HN3.out]; exact HE12.out)) (list_ext dS (HN4.out.symm.trans HN4'.out) (by rw [← HN4.out]; exact HE13.out)))

/-- The given Same: whether two plans are equal. -/
theorem given_same (P Q : PlanA) (L M : PlanL) (w : World) (hP : PlanAt w P L) (hM : PlanAt w Q M) (h1 : P.2.1.length ≤ 140737488355328) (h2 : P.2.2.1.length ≤ 140737488355328) (h3 : P.2.2.2.1.length ≤ 140737488355328) (h4 : P.2.2.2.2.length ≤ 140737488355328)
    (h5 : ∀ ws ∈ P.2.1, ws.length ≤ 140737488355328) (h6 : ∀ q ∈ P.2.2.1, q.1.length ≤ 140737488355328 ∧ q.2.2.1.length ≤ 140737488355328) :
    Calls Tryd.prog 17 #[planV P L, planV Q M] w fun e w' => e = .returned (.bool (sameB P Q)) ∧ Below w.heap.size w w' := by
  by_cases he : P = Q
  · subst he
    rw [same_yes rfl]
    exact same_eq P L M w hP hM h1 h2 h3 h4 h5 h6
  · rw [same_no he]
    exact same_ne P Q L M w hP hM h1 h2 h3 h4 h5 h6 he
end Go.Proofs.YtkgkjkghdllkhaaDoor
