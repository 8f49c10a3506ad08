/-
  plan.fits finds the first list that is too long.
-/
import Derived.Test.YtkgkjkghdllkhaaDoorMem
import Derived.Outline
namespace Go.Proofs.YtkgkjkghdllkhaaDoor
open Go.RowKit

theorem badCore_at {cs : List (List WinA)} : ∀ {k : Nat}, k < cs.length → 65535 < (cs.getD k []).length → badCore cs = true := by
  induction cs with
  | nil => intro k hk; simp at hk
  | cons q r ih =>
    intro k hk h
    unfold badCore
    split
    · rfl
    · cases k with
      | zero => simp at h; omega
      | succ k => exact ih (k := k) (by simpa using hk) (by simpa using h)
theorem badCore_no {cs : List (List WinA)} (h : ∀ j, j < cs.length → (cs.getD j []).length ≤ 65535) : badCore cs = false :=
  badCore_of fun p hp => by
    obtain ⟨j, hj, rfl⟩ := List.getElem_of_mem hp
    have := h j hj
    rw [List.getD_eq_getElem?_getD, List.getElem?_eq_getElem hj] at this
    exact this
theorem badPart_at {ps : List PartA} : ∀ {k : Nat}, (∀ j, j < k → (ps.getD j dQ).1.length ≤ 255 ∧ (ps.getD j dQ).2.2.1.length ≤ 255) → k < ps.length →
    (255 < (ps.getD k dQ).1.length → badPart ps = 5) ∧ ((ps.getD k dQ).1.length ≤ 255 → 255 < (ps.getD k dQ).2.2.1.length → badPart ps = 6) := by
  induction ps with
  | nil => intro k _ hk; simp at hk
  | cons q r ih =>
    intro k hj hk
    cases k with
    | zero =>
      refine ⟨fun h => ?_, fun h1 h2 => ?_⟩
      · unfold badPart; rw [if_pos (by simpa using h)]
      · unfold badPart; rw [if_neg (by simp at h1; omega), if_pos (by simpa using h2)]
    | succ k =>
      have h0 := hj 0 (by omega)
      have := ih (k := k) (fun j hjk => by have := hj (j + 1) (by omega); simpa using this) (by simpa using hk)
      simp only [List.getD_cons_zero] at h0
      unfold badPart
      rw [if_neg (by omega), if_neg (by omega)]
      simpa using this
theorem badPart_no {ps : List PartA} (h : ∀ j, j < ps.length → (ps.getD j dQ).1.length ≤ 255 ∧ (ps.getD j dQ).2.2.1.length ≤ 255) : badPart ps = -1 :=
  badPart_of fun p hp => by
    obtain ⟨j, hj, rfl⟩ := List.getElem_of_mem hp
    have := h j hj
    rw [List.getD_eq_getElem?_getD, List.getElem?_eq_getElem hj] at this
    exact this

set_option maxHeartbeats 400000 in
/-- failure -/
theorem failure2_any (at' x : Int) (w : World) :
    Calls Tryd.prog 33 #[.int .i64 at', .int .i64 x] w fun e w' => e = .returned (.iface 71 (.pointer (some ⟨w.heap.size, 0, none⟩))) ∧ w' = w.alloc (.cells #[.int .i64 at', .int .i64 x] 75) := by
  go_enter Tryd.func33, Tryd.ntmps33
  go_wp2
  go_ret
  exact ⟨rfl, rfl⟩
/-- A failure told: in memory of the call's own. -/
def Fail (w : World) (e : Ending) (w' : World) (at' x : Int) : Prop :=
  ∃ f, e = .returned (.iface 71 (.pointer (some ⟨f, 0, none⟩))) ∧ w'.cell? ⟨f, 0, none⟩ = some (.int .i64 at') ∧ w'.cell? ⟨f, 0 + 1, none⟩ = some (.int .i64 x) ∧ Below w.heap.size w w'
theorem failure2_told (at' x : Int) (w : World) : Calls Tryd.prog 33 #[.int .i64 at', .int .i64 x] w fun e w' => Fail w e w' at' x :=
  (failure2_any at' x w).mono fun _ _ ⟨he, hw⟩ => ⟨_, he, by rw [hw]; exact World.cell?_alloc_at _ _ _ _ rfl, by rw [hw]; exact World.cell?_alloc_at _ _ _ _ rfl, by rw [hw]; exact (Below.refl _ _).alloc (Nat.le_refl _) _⟩

/-- What fits answers. -/
def FitPost (P : PlanA) (w : World) (e : Ending) (w' : World) : Prop :=
  (fitAt P = -1 ∧ e = .returned .nilIface ∧ Below w.heap.size w w') ∨ (fitAt P ≠ -1 ∧ Fail w e w' (fitAt P) 31)
theorem FitPost.bad {P : PlanA} {w w1 w' : World} {v : Value} {n : Int} (hn : 0 ≤ n) (h : fitAt P = n) (hF : Fail w1 (.returned v) w' n 31) (hb : Below w.heap.size w w1) : FitPost P w (.returned v) w' := by
  refine .inr ⟨by omega, ?_⟩
  obtain ⟨f, a, b, c, d⟩ := hF
  rw [h]
  exact ⟨f, a, b, c, hb.trans (d.mono hb.size)⟩

/-- Behind k cores. -/
def FitRelA (cs : List (List WinA)) (i : Value) : Prop := ∃ k : Nat, k ≤ cs.length ∧ i = .int .i64 k ∧ ∀ j, j < k → (cs.getD j []).length ≤ 65535
def FitRelB (ps : List PartA) (w : World) (i : Value) (wr : World) : Prop :=
  ∃ k : Nat, k ≤ ps.length ∧ i = .int .i64 k ∧ (∀ j, j < k → (ps.getD j dQ).1.length ≤ 255 ∧ (ps.getD j dQ).2.2.1.length ≤ 255) ∧ Below w.heap.size w wr

set_option maxHeartbeats 4000000 in
set_option maxRecDepth 100000 in
theorem fits_any (P : PlanA) (L : PlanL) (w : World) (hP : PlanAt w P L) (h1 : P.2.1.length ≤ 1000000) (h2 : P.2.2.1.length ≤ 1000000) (h3 : P.2.2.2.1.length ≤ 1000000) (h4 : P.2.2.2.2.length ≤ 1000000)
    (h5 : ∀ ws ∈ P.2.1, ws.length ≤ 1000000) (h6 : ∀ q ∈ P.2.2.1, q.1.length ≤ 1000000 ∧ q.2.2.1.length ≤ 1000000) :
    Calls Tryd.prog 21 #[planV P L] w fun e w' => FitPost P w e w' := by
  obtain ⟨fr, cs, ps, hs, rs⟩ := P
  obtain ⟨A1, c1, A2, c2, A3, c3, A4, c4⟩ := L
  obtain ⟨g1, g2, g3, g4⟩ := hP
  simp only [planV] at *
  have HF := fun n W => Lib.hid (failure2_told n 31 W)
  have G1 := Lib.hid g1
  have G2 := Lib.hid g2
  have H5 := Lib.hid h5
  have H6 := Lib.hid h6
  have HB1 : Hid (Below w.heap.size w (w.alloc (.cells #[.int .u16 fr, .slice A1 cs.length c1, .slice A2 ps.length c2, .slice A3 hs.length c3, .slice A4 rs.length c4] 28))) := (Below.refl _ _).alloc (Nat.le_refl _) _
  clear g1 g2 g3 g4 h5 h6
  by_cases b1 : 255 < cs.length
  · have HE : Hid (fitAt (fr, cs, ps, hs, rs) = 0) := by show _ = _; unfold fitAt; rw [if_pos b1]
    go_enter Tryd.func21, Tryd.ntmps21
    go_wp2_with (go_at_call 33; refine (HF _ _).out.mono ?_; rintro e w1 ⟨f, rfl, k0, k1, hb⟩; have HK := Lib.hid (show Fail _ _ _ _ _ from ⟨f, rfl, k0, k1, hb⟩); clear k0 k1 hb)
    go_ret
    exact FitPost.bad (by omega) HE.out HK.out HB1.out
  by_cases b2 : 255 < ps.length
  · have HE : Hid (fitAt (fr, cs, ps, hs, rs) = 1) := by show _ = _; unfold fitAt; rw [if_neg b1, if_pos b2]
    go_enter Tryd.func21, Tryd.ntmps21
    go_wp2_with (go_at_call 33; refine (HF _ _).out.mono ?_; rintro e w1 ⟨f, rfl, k0, k1, hb⟩; have HK := Lib.hid (show Fail _ _ _ _ _ from ⟨f, rfl, k0, k1, hb⟩); clear k0 k1 hb)
    go_ret
    exact FitPost.bad (by omega) HE.out HK.out HB1.out
  by_cases b3 : 255 < hs.length
  · have HE : Hid (fitAt (fr, cs, ps, hs, rs) = 2) := by show _ = _; unfold fitAt; rw [if_neg b1, if_neg b2, if_pos b3]
    go_enter Tryd.func21, Tryd.ntmps21
    go_wp2_with (go_at_call 33; refine (HF _ _).out.mono ?_; rintro e w1 ⟨f, rfl, k0, k1, hb⟩; have HK := Lib.hid (show Fail _ _ _ _ _ from ⟨f, rfl, k0, k1, hb⟩); clear k0 k1 hb)
    go_ret
    exact FitPost.bad (by omega) HE.out HK.out HB1.out
  by_cases b4 : 255 < rs.length
  · have HE : Hid (fitAt (fr, cs, ps, hs, rs) = 3) := by show _ = _; unfold fitAt; rw [if_neg b1, if_neg b2, if_neg b3, if_pos b4]
    go_enter Tryd.func21, Tryd.ntmps21
    go_wp2_with (go_at_call 33; refine (HF _ _).out.mono ?_; rintro e w1 ⟨f, rfl, k0, k1, hb⟩; have HK := Lib.hid (show Fail _ _ _ _ _ from ⟨f, rfl, k0, k1, hb⟩); clear k0 k1 hb)
    go_ret
    exact FitPost.bad (by omega) HE.out HK.out HB1.out
  have HE : Hid (fitAt (fr, cs, ps, hs, rs) = if badCore cs then 4 else badPart ps) := by show _ = _; unfold fitAt; rw [if_neg b1, if_neg b2, if_neg b3, if_neg b4]
  go_enter Tryd.func21, Tryd.ntmps21
  go_wp2_with fail
  go_loop [34] (fun i => FitRelA cs i) (fun i => cs.length - (intOf i).toNat)
  case atStart => exact ⟨0, Nat.zero_le _, rfl, fun j hj => by omega⟩
  case round =>
    obtain ⟨k, hk, rfl, hj⟩ := hrel
    have HJ := Lib.hid hj
    clear hj
    by_cases hlt : k < cs.length
    · obtain ⟨Pf, g1, g1'⟩ := G1.out
      obtain ⟨b, o, rfl⟩ := Arr.head g1 hlt
      have cc := Arr.at (j := 0) (g1.keep HB1.out) hlt rfl
      obtain ⟨wsl, hwsl⟩ : ∃ n, n = (cs.getD k []).length := ⟨_, rfl⟩
      have hbig := H5.out _ (getD_mem [] hlt)
      rw [← hwsl] at hbig
      simp only [slV, ← hwsl, Nat.mul_one, Nat.add_zero] at cc
      have HWS := Lib.hid hwsl
      clear g1 g1' hwsl
      by_cases hb : 65535 < wsl
      · have HC : Hid (fitAt (fr, cs, ps, hs, rs) = 4) := by
          show _ = _
          rw [HE.out, badCore_at hlt (by rw [← HWS.out]; exact hb), if_pos rfl]
        go_wp2_with (go_at_call 33; refine (HF _ _).out.mono ?_; rintro e w1 ⟨f, rfl, k0, k1, hb⟩; have HK := Lib.hid (show Fail _ _ _ _ _ from ⟨f, rfl, k0, k1, hb⟩); clear k0 k1 hb)
        go_ret
        exact FitPost.bad (by omega) HC.out HK.out HB1.out
      · go_wp2_with fail
        go_round
        case rel => exact ⟨k + 1, by omega, by go_num, fun j hj => by
          rcases Nat.lt_or_ge j k with h | h
          · exact HJ.out j h
          · obtain rfl : j = k := by omega
            rw [← HWS.out]; omega⟩
        case measure => simp [intOf]; omega
    · have hk' : k = cs.length := by omega
      subst hk'
      have HE2 : Hid (fitAt (fr, cs, ps, hs, rs) = badPart ps) := by
        show _ = _
        rw [HE.out, badCore_no HJ.out, if_neg (by simp)]
      clear HE HJ
      go_wp2_with fail
      go_loopw [46] (fun i wr => FitRelB ps w i wr) (fun i _ => ps.length - (intOf i).toNat)
      case atStart => exact ⟨0, Nat.zero_le _, rfl, fun j hj => by omega, HB1.out⟩
      case round =>
        obtain ⟨k, hk, rfl, hj, hB⟩ := hrel
        have HJ := Lib.hid hj
        have HB := Lib.hid hB
        have hsz := hB.size
        clear hj hB
        by_cases hlt : k < ps.length
        · obtain ⟨Sf, Pf, g2, g2'⟩ := G2.out
          obtain ⟨b, o, rfl⟩ := Arr.head g2 hlt
          obtain ⟨⟨ss, ev, pp, x, y, z⟩, hq⟩ : ∃ q, q = ps.getD k dQ := ⟨_, rfl⟩
          have hmem := H6.out _ (getD_mem dQ hlt)
          have hg := g2.keep HB.out
          have c0 := hg.at (j := 0) hlt rfl
          have c1 := hg.at (j := 1) hlt rfl
          have c2 := hg.at (j := 2) hlt rfl
          have c3 := hg.at (j := 3) hlt rfl
          have c4 := hg.at (j := 4) hlt rfl
          have c5 := hg.at (j := 5) hlt rfl
          simp only [slV, ← hq, Nat.add_zero] at c0 c1 c2 c3 c4 c5 hmem
          have HAT := Lib.hid (badPart_at (ps := ps) (k := k) HJ.out hlt)
          rw [← hq] at HAT
          have HQ := Lib.hid hq
          clear g2 g2' hg hq
          obtain ⟨m1, m2⟩ := hmem
          by_cases hb1 : 255 < ss.length
          · have HC : Hid (fitAt (fr, cs, ps, hs, rs) = 5) := by
              show _ = _
              rw [HE2.out, HAT.out.1 hb1]
            clear HAT
            go_wp2_with (go_at_call 33; refine (HF _ _).out.mono ?_; rintro e w1 ⟨f, rfl, k0, k1, hb⟩; have HK := Lib.hid (show Fail _ _ _ _ _ from ⟨f, rfl, k0, k1, hb⟩); clear k0 k1 hb)
            go_ret
            exact FitPost.bad (by omega) HC.out HK.out (HB.out.alloc hsz _)
          by_cases hb2 : 255 < pp.length
          · have HC : Hid (fitAt (fr, cs, ps, hs, rs) = 6) := by
              show _ = _
              rw [HE2.out, HAT.out.2 (by show ss.length ≤ 255; omega) hb2]
            clear HAT
            go_wp2_with (go_at_call 33; refine (HF _ _).out.mono ?_; rintro e w1 ⟨f, rfl, k0, k1, hb⟩; have HK := Lib.hid (show Fail _ _ _ _ _ from ⟨f, rfl, k0, k1, hb⟩); clear k0 k1 hb)
            go_ret
            exact FitPost.bad (by omega) HC.out HK.out (HB.out.alloc hsz _)
          clear HAT
          go_wp2_with fail
          go_roundw
          case rel => exact ⟨k + 1, by omega, by go_num, fun j hj => (by
            rcases Nat.lt_or_ge j k with h | h
            · exact HJ.out j h
            · obtain rfl : j = k := by omega
              rw [← HQ.out]; exact ⟨by show ss.length ≤ 255; omega, by show pp.length ≤ 255; omega⟩), HB.out.alloc hsz _⟩
          case measure => simp [intOf]; omega
        · have hk' : k = ps.length := by omega
          subst hk'
          have HC : Hid (fitAt (fr, cs, ps, hs, rs) = -1) := by
            show _ = _
            rw [HE2.out, badPart_no HJ.out]
          go_wp2_with fail
          go_ret
          exact .inl ⟨HC.out, rfl, HB.out⟩
end Go.Proofs.YtkgkjkghdllkhaaDoor
