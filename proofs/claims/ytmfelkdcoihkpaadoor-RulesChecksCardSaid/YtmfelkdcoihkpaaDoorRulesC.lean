/-
  The rules as closures: pairs, channels, partitions.
-/
import Derived.Test.YtmfelkdcoihkpaaDoorRules
import Derived.Test.YtmfelkdcoihkpaaDoorExcl
import Derived.Test.YtmfelkdcoihkpaaDoorByPart
import Derived.Test.YtmfelkdcoihkpaaDoorPart
import Derived.Test.YtmfelkdcoihkpaaDoorChan
namespace Go.Proofs.YtmfelkdcoihkpaaDoor
open Go.RowKit

theorem enters50 : Enters 50 := enters_of Tryd.func50 (by kernel_rfl) rfl
theorem enters53 : Enters 53 := enters_of Tryd.func53 (by kernel_rfl) rfl
theorem enters56 : Enters 56 := enters_of Tryd.func56 (by kernel_rfl) rfl

theorem pair_ex (P : PlanA) (i : Nat) : pairE P i = exE P.2.2.1.length P.2.1 (P.2.2.2.2.getD i dS) (decide (P.2.2.2.2.getD i dS ∈ P.2.2.2.2.take i)) := by
  unfold pairE exE
  simp only [decide_eq_true_eq]

set_option maxHeartbeats 4000000 in
theorem closure50 (b bs G : Nat) (P : PlanA) (L : PlanL) (i : Nat) (W : World) (hb : PB W b P L) (hs : W.cell? ⟨bs, 0, none⟩ = some (.slice (some ⟨G, 0, none⟩) P.2.2.1.length P.2.2.1.length)) (hS : SrvAt W G P.2.2.1.length P.2.1) (hP : PlanAt W P L) (hO : POk P L) (hi : i < P.2.2.2.2.length)
    (h8 : P.2.1.length ≤ 8) (h256 : ∀ ws ∈ P.2.1, ws.length ≤ 256) (h64 : P.2.2.1.length ≤ 64) :
    Calls Tryd.prog 50 #[.int .i64 i, .pointer (some ⟨b, 0, none⟩), .pointer (some ⟨bs, 0, none⟩)] W fun e w' => e = .returned (.int .i64 (pairE P i)) ∧ Below W.heap.size W w' := by
  rw [pair_ex]
  have HE : Hid (∀ W', Below W.heap.size W W' → Calls Tryd.prog 51 #[.slice L.a4 (i + 1) L.c4, .slice (some ⟨G, 0, none⟩) P.2.2.1.length P.2.2.1.length] W' fun e w' => e = .returned (.int .i64 (exE P.2.2.1.length P.2.1 (P.2.2.2.2.getD i dS) (decide (P.2.2.2.2.getD i dS ∈ P.2.2.2.2.take i)))) ∧ Below W'.heap.size W' w') := fun W' hB =>
    excluding_any P.2.1 P.2.2.1.length L.a4 L.c4 i G P.2.2.2.2 W' (Arr.keep hP.pairs hB) (hS.keep hB) hi (by have := hO.k4; omega) h64 hO.l4 (hO.wf.2.2.2.2 _ (getD_mem dS hi)) hO.wf.2.1 h8 h256
  obtain ⟨-, -, -, -, k4⟩ := hb
  have hk4 := hO.k4
  have hl4 := hO.l4
  obtain ⟨z, hz⟩ : ∃ z, z = exE P.2.2.1.length P.2.1 (P.2.2.2.2.getD i dS) (decide (P.2.2.2.2.getD i dS ∈ P.2.2.2.2.take i)) := ⟨_, rfl⟩
  rw [← hz] at HE ⊢
  obtain ⟨b4, o4, hA⟩ := Arr.head hP.pairs hi
  rw [hA] at HE k4
  obtain ⟨m, hm⟩ : ∃ n, n = P.2.2.2.2.length := ⟨_, rfl⟩
  obtain ⟨cp, hcp⟩ : ∃ n, n = L.c4 := ⟨_, rfl⟩
  obtain ⟨n, hn⟩ : ∃ n, n = P.2.2.1.length := ⟨_, rfl⟩
  rw [← hcp] at HE k4 hk4
  rw [← hn] at HE hs
  rw [← hm] at k4 hk4 hl4 hi
  clear hz hP hO hn hcp hm hA hS h256 h8 h64
  have p0 : (0 : Int) ≤ (i : Int) + 1 := by omega
  have p1 : (i : Int) + 1 ≤ (cp : Int) := by omega
  have p2 : ((i : Int) + 1).toNat = i + 1 := by omega
  have p3 : IntKind.i64.wrap ((i : Int) + 1) = (i : Int) + 1 := IntWalk.i64_in _ (by omega)
  go_enter Tryd.func50, Tryd.ntmps50
  go_wp2_with fail
  go_region_law ((
    go_simp
    go_at_call 51
    refine (HE.out _ (by repeat (first | exact Below.refl _ _ | refine Below.drew ?_))).mono ?_
    rintro e w3 ⟨rfl, hB⟩
    have HB := Lib.hid hB
    clear hB))
  all_goals
    clear p0 p1 p2 p3
    go_wp2_with fail
    go_ret
    exact ⟨rfl, below_two ((Below.refl _ _).drew) HB.out⟩

set_option maxHeartbeats 4000000 in
theorem rule6 (b : Nat) (P : PlanA) (L : PlanL) (W : World) (hb : PB W b P L) (hP : PlanAt W P L) (hO : POk P L) (h8 : P.2.1.length ≤ 8) (h256 : ∀ ws ∈ P.2.1, ws.length ≤ 256) (h64 : P.2.2.1.length ≤ 64) (hpt : ∀ ws ∈ P.2.1, ∀ x ∈ ws, x.2.2.1 < P.2.2.1.length) :
    Rule 48 #[.pointer (some ⟨b, 0, none⟩)] (pairR P) W := by
  unfold Rule
  have HBP := Lib.hid (byPart_any P L W hP hO.wf h8 h256 h64 hpt)
  have HE : Hid (∀ W' bs G, Below W.heap.size W W' → W'.cell? ⟨bs, 0, none⟩ = some (.slice (some ⟨G, 0, none⟩) P.2.2.1.length P.2.2.1.length) → SrvAt W' G P.2.2.1.length P.2.1 → Calls Tryd.prog 38 #[.int .i64 P.2.2.2.2.length, .func (.func 50) #[] #[.pointer (some ⟨b, 0, none⟩), .pointer (some ⟨bs, 0, none⟩)]] W' fun e w' => Told W'.heap.size (pairR P) e w' ∧ Below W'.heap.size W' w') := fun W' bs G hB hs hS =>
    each_any 50 #[.pointer (some ⟨b, 0, none⟩), .pointer (some ⟨bs, 0, none⟩)] (pairE P) P.2.2.2.2.length W' enters50 (Nat.le_trans hO.l4 (by omega)) fun k W'' hk hB' => closure50 b bs G P L k W'' ((hb.keep hB).keep hB') (kept hs hB') (hS.keep hB') ((hP.keep hB).keep hB') hO hk h8 h256 h64
  obtain ⟨r, hr⟩ : ∃ r, r = pairR P := ⟨_, rfl⟩
  rw [← hr] at HE ⊢
  have HPB := Lib.hid hb
  obtain ⟨fr, cs, ps, hs, rs⟩ := P
  obtain ⟨A1, c1, A2, c2, A3, c3, A4, c4⟩ := L
  obtain ⟨k0, k1, k2, k3, k4⟩ := hb
  simp only [planV] at HBP
  dsimp only at k0 k1 k2 k3 k4 HE
  clear hP hO h256 hr hpt h8 h64
  go_enter Tryd.func48, Tryd.ntmps48
  go_wp2_with fail
  refine HBP.out.mono ?_
  rintro e w1 ⟨G, hG, rfl, hS, hB⟩
  dsimp only at hS ⊢
  have hz : Below w1.heap.size w1 (w1.alloc (.cells #[.slice (some ⟨G, 0, none⟩) ps.length ps.length] 23)) := (Below.refl _ _).alloc (Nat.le_refl _) _
  obtain ⟨-, -, -, -, m4⟩ := (HPB.out.keep hB).keep hz
  dsimp only at m4
  have HE2 := Lib.hid (HE.out (w1.alloc (.cells #[.slice (some ⟨G, 0, none⟩) ps.length ps.length] 23)) w1.heap.size G (below_two hB hz) (by simp) (hS.keep hz))
  have HB1 := Lib.hid (below_two hB hz)
  clear hS hB hz k0 k1 k2 k3 k4 hG
  go_wp2_with fail
  refine HE2.out.mono ?_
  rintro e w2 ⟨hT, hB⟩
  obtain ⟨v, rfl⟩ := hT.val
  have hle := HB1.out.size
  have HT := Lib.hid (hT.mono hle)
  have HB := Lib.hid hB
  clear hB hT hle
  go_wp2_with fail
  go_ret
  exact ⟨HT.out, below_two HB1.out HB.out⟩

set_option maxHeartbeats 4000000 in
theorem closure53 (b bp : Nat) (P : PlanA) (L : PlanL) (i : Nat) (W : World) (hb : PB W b P L) (hp : W.cell? ⟨bp, 0, none⟩ = some (.int .i64 P.2.2.1.length)) (hP : PlanAt W P L) (hO : POk P L) (hi : i < P.2.2.2.1.length) (h64 : P.2.2.1.length ≤ 64) :
    Calls Tryd.prog 53 #[.int .i64 i, .pointer (some ⟨b, 0, none⟩), .pointer (some ⟨bp, 0, none⟩)] W fun e w' => e = .returned (.int .i64 (chanE P i)) ∧ Below W.heap.size W w' := by
  have HC := Lib.hid (fun W' => chan_any (P.2.2.2.1.getD i dC) P.2.2.1.length W' (hO.wf.2.2.2.1 _ (getD_mem dC hi)) h64)
  obtain ⟨b3, o3, hA⟩ := Arr.head hP.chans hi
  have hch := hP.chans
  unfold ChansAt at hch
  rw [hA] at hch
  have d0 := Arr.at (j := 0) hch hi rfl
  have d1 := Arr.at (j := 1) hch hi rfl
  have d2 := Arr.at (j := 2) hch hi rfl
  have d3 := Arr.at (j := 3) hch hi rfl
  have d4 := Arr.at (j := 4) hch hi rfl
  have d5 := Arr.at (j := 5) hch hi rfl
  obtain ⟨-, -, -, k3, -⟩ := hb
  rw [hA] at k3
  obtain ⟨⟨x0, x1, x2, x3, x4, x5⟩, hx⟩ : ∃ x, x = P.2.2.2.1.getD i dC := ⟨_, rfl⟩
  have hl3 := hO.l3
  have hce : chanE P i = if i < 64 ∧ chanB P.2.2.1.length (x0, x1, x2, x3, x4, x5) = true then 0 else 50 := by unfold chanE; rw [hx]
  rw [hce]
  simp only [← hx, Nat.add_zero] at d0 d1 d2 d3 d4 d5
  rw [← hx] at HC
  simp only [cv] at HC
  obtain ⟨q, hq⟩ : ∃ q, q = chanB P.2.2.1.length (x0, x1, x2, x3, x4, x5) := ⟨_, rfl⟩
  rw [← hq] at HC ⊢
  obtain ⟨n, hn⟩ : ∃ n, n = P.2.2.1.length := ⟨_, rfl⟩
  obtain ⟨m, hm⟩ : ∃ n, n = P.2.2.2.1.length := ⟨_, rfl⟩
  rw [← hn] at HC hp
  rw [← hm] at hi k3 hl3
  clear hce hq hn hm hx hch hA hP hO h64
  have p0 : (0 : Int) ≤ (i : Int) := Int.natCast_nonneg _
  have p1 : (i : Int) < (m : Int) := by omega
  obtain ⟨z, hz⟩ : ∃ z : Int, z = if i < 64 ∧ q = true then 0 else 50 := ⟨_, rfl⟩
  rw [← hz]
  have HZ := Lib.hid hz
  clear hz
  by_cases h6 : i < 64
  · have h6' : (i : Int) < 64 := by omega
    have hd : decide ((i : Int) < 64) = true := decide_eq_true h6'
    go_enter Tryd.func53, Tryd.ntmps53
    go_wp2_with fail
    go_region_law ((
      first
      | (go_simp
         go_at_call 54
         refine (HC.out _).mono ?_
         rintro e w3 ⟨rfl, hB⟩
         have HB := Lib.hid hB
         clear hB)
      | (go_simp
         go_at_call 40
         refine (unless_any _ _ _).mono ?_
         rintro e w4 ⟨rfl, rfl⟩)))
    all_goals
      go_wp2_with fail
      all_goals
        go_ret
        exact ⟨ret_i (by rw [HZ.out]; cases q <;> simp_all), below_two ((Below.refl _ _).drew) HB.out⟩
  · have h6' : (64 : Int) ≤ (i : Int) := by omega
    have hd : decide ((i : Int) < 64) = false := decide_eq_false (by omega)
    go_enter Tryd.func53, Tryd.ntmps53
    go_wp2_with fail
    go_quiet ((go_at_call 40; exact Calls.quiet_of_same ((unless_any _ _ _).mono fun _ _ ⟨h1, h2⟩ => ⟨h1, h2.symm⟩)))
    go_wp2_with fail
    all_goals
      go_ret
      exact ⟨ret_i (by rw [HZ.out, if_neg (by omega)]), below_drewN (Below.refl _ _) _⟩

set_option maxHeartbeats 4000000 in
theorem rule7 (b bp : Nat) (P : PlanA) (L : PlanL) (W : World) (hb : PB W b P L) (hp : W.cell? ⟨bp, 0, none⟩ = some (.int .i64 P.2.2.1.length)) (hP : PlanAt W P L) (hO : POk P L) (h64 : P.2.2.1.length ≤ 64) :
    Rule 52 #[.pointer (some ⟨b, 0, none⟩), .pointer (some ⟨bp, 0, none⟩)] (chanR P) W := by
  unfold Rule
  have HE := Lib.hid (each_any 53 #[.pointer (some ⟨b, 0, none⟩), .pointer (some ⟨bp, 0, none⟩)] (chanE P) P.2.2.2.1.length W enters53 (Nat.le_trans hO.l3 (by omega)) fun k W' hk hB => closure53 b bp P L k W' (hb.keep hB) (kept hp hB) (hP.keep hB) hO hk h64)
  obtain ⟨r, hr⟩ : ∃ r, r = chanR P := ⟨_, rfl⟩
  have hr' : firstP (chanE P) (fun c => (c : Int)) (List.range P.2.2.2.1.length) = r := by rw [hr]; rfl
  rw [hr'] at HE
  rw [← hr]
  obtain ⟨-, -, -, k3, -⟩ := hb
  obtain ⟨m, hm⟩ : ∃ n, n = P.2.2.2.1.length := ⟨_, rfl⟩
  rw [← hm] at HE k3
  clear hr hr' hm hP hO h64 hp
  go_enter Tryd.func52, Tryd.ntmps52
  go_wp2_with fail
  refine HE.out.mono ?_
  rintro e w1 ⟨hT, hB⟩
  obtain ⟨v, rfl⟩ := hT.val
  have HT := Lib.hid hT
  have HB := Lib.hid hB
  clear hB hT
  go_wp2_with fail
  go_ret
  exact ⟨HT.out, HB.out⟩

set_option maxHeartbeats 4000000 in
theorem closure56 (b : Nat) (P : PlanA) (L : PlanL) (i : Nat) (W : World) (hb : PB W b P L) (hP : PlanAt W P L) (hO : POk P L) (hi : i < P.2.2.1.length) :
    Calls Tryd.prog 56 #[.int .i64 i, .pointer (some ⟨b, 0, none⟩)] W fun e w' => e = .returned (.int .i64 (partE P i)) ∧ Below W.heap.size W w' := by
  obtain ⟨Sf, Qf, q1, q2⟩ := hP.parts
  obtain ⟨b3, o3, hA⟩ := Arr.head q1 hi
  obtain ⟨s1, s2, _⟩ := q2 i hi
  have hlp := hO.lp _ (getD_mem dQ hi)
  have HC := Lib.hid (part_any (P.2.2.1.getD i dQ) (Sf i) (Qf i) W s1 s2 (hO.wf.2.2.1 _ (getD_mem dQ hi)) hlp.1 hlp.2)
  rw [hA] at q1
  have d0 := Arr.at (j := 0) q1 hi rfl
  have d1 := Arr.at (j := 1) q1 hi rfl
  have d2 := Arr.at (j := 2) q1 hi rfl
  have d3 := Arr.at (j := 3) q1 hi rfl
  have d4 := Arr.at (j := 4) q1 hi rfl
  have d5 := Arr.at (j := 5) q1 hi rfl
  obtain ⟨-, -, k2, -, -⟩ := hb
  rw [hA] at k2
  obtain ⟨⟨x0, x1, x2, x3, x4, x5⟩, hx⟩ : ∃ x, x = P.2.2.1.getD i dQ := ⟨_, rfl⟩
  have hl2 := hO.l2
  have hce : partE P i = if partB (x0, x1, x2, x3, x4, x5) then 0 else 51 := by unfold partE; rw [hx]
  rw [hce]
  simp only [← hx, Nat.add_zero, slV] at d0 d1 d2 d3 d4 d5
  rw [← hx] at HC
  simp only [pv, slV] at HC
  obtain ⟨q, hq⟩ : ∃ q, q = partB (x0, x1, x2, x3, x4, x5) := ⟨_, rfl⟩
  rw [← hq] at HC ⊢
  obtain ⟨m, hm⟩ : ∃ n, n = P.2.2.1.length := ⟨_, rfl⟩
  rw [← hm] at hi k2 hl2
  obtain ⟨n0, hn0⟩ : ∃ n, n = x0.length := ⟨_, rfl⟩
  obtain ⟨n2, hn2⟩ : ∃ n, n = x2.length := ⟨_, rfl⟩
  rw [← hn0] at HC d0
  rw [← hn2] at HC d2
  clear hce hq hm hx hA hP hO q1 q2 s1 s2 hlp hn0 hn2
  obtain ⟨z, hz⟩ : ∃ z : Int, z = if q then 0 else 51 := ⟨_, rfl⟩
  rw [← hz]
  have HZ := Lib.hid hz
  clear hz
  go_enter Tryd.func56, Tryd.ntmps56
  go_wp2_with fail
  refine HC.out.mono ?_
  rintro e w3 ⟨rfl, hB⟩
  have HB := Lib.hid hB
  clear hB
  go_wp2_with fail
  refine (unless_any _ _ _).mono ?_
  rintro e w4 ⟨rfl, rfl⟩
  go_wp2_with fail
  all_goals
    go_ret
    exact ⟨ret_i (by rw [HZ.out]; cases q <;> simp_all), HB.out⟩

set_option maxHeartbeats 4000000 in
theorem rule8 (b bp : Nat) (P : PlanA) (L : PlanL) (W : World) (hb : PB W b P L) (hp : W.cell? ⟨bp, 0, none⟩ = some (.int .i64 P.2.2.1.length)) (hP : PlanAt W P L) (hO : POk P L) :
    Rule 55 #[.pointer (some ⟨bp, 0, none⟩), .pointer (some ⟨b, 0, none⟩)] (partR P) W := by
  unfold Rule
  have HE := Lib.hid (each_any 56 #[.pointer (some ⟨b, 0, none⟩)] (partE P) P.2.2.1.length W enters56 (Nat.le_trans hO.l2 (by omega)) fun k W' hk hB => closure56 b P L k W' (hb.keep hB) (hP.keep hB) hO hk)
  obtain ⟨r, hr⟩ : ∃ r, r = partR P := ⟨_, rfl⟩
  have hr' : firstP (partE P) (fun c => (c : Int)) (List.range P.2.2.1.length) = r := by rw [hr]; rfl
  rw [hr'] at HE
  rw [← hr]
  obtain ⟨m, hm⟩ : ∃ n, n = P.2.2.1.length := ⟨_, rfl⟩
  rw [← hm] at HE hp
  clear hr hr' hm hP hO hb
  go_enter Tryd.func55, Tryd.ntmps55
  go_wp2_with fail
  refine HE.out.mono ?_
  rintro e w1 ⟨hT, hB⟩
  obtain ⟨v, rfl⟩ := hT.val
  have HT := Lib.hid hT
  have HB := Lib.hid hB
  clear hB hT
  go_wp2_with fail
  go_ret
  exact ⟨HT.out, HB.out⟩
end Go.Proofs.YtmfelkdcoihkpaaDoor
