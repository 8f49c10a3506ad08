/-
  The rules as closures: the first six.
-/
import Derived.Test.YtmfelkdcoihkpaaDoorBeside
import Derived.Test.YtmfelkdcoihkpaaDoorPlaced
import Derived.RegionTactic
import Derived.BigRegion
import Derived.Deep.RegionLaw
namespace Go.Proofs.YtmfelkdcoihkpaaDoor
open Go.RowKit

/-- A plan that may lie in memory. -/
structure POk (P : PlanA) (L : PlanL) : Prop where
  wf : WfPlan P
  l1 : P.2.1.length ≤ 140737488355328
  l2 : P.2.2.1.length ≤ 140737488355328
  l3 : P.2.2.2.1.length ≤ 140737488355328
  l4 : P.2.2.2.2.length ≤ 140737488355328
  li : ∀ ws ∈ P.2.1, ws.length ≤ 140737488355328
  lp : ∀ q ∈ P.2.2.1, q.1.length ≤ 140737488355328 ∧ q.2.2.1.length ≤ 140737488355328
  k1 : P.2.1.length ≤ L.c1
  k4 : P.2.2.2.2.length ≤ L.c4

/-- A rule's answer. -/
def Rule (K : FuncId) (cap : Array Value) (r : Int × Int) (W : World) : Prop := Calls Tryd.prog K cap W fun e w' => Told W.heap.size r e w' ∧ Below W.heap.size W w'

theorem Told.eq {base : Nat} {r s : Int × Int} {e : Ending} {w : World} (h : Told base r e w) (hr : r = s) : Told base s e w := hr ▸ h
theorem Told.mono {base base' : Nat} {r : Int × Int} {e : Ending} {w : World} (h : Told base r e w) (hb : base' ≤ base) : Told base' r e w := by
  rcases h with h | ⟨h, b, h1, h2⟩
  · exact .inl h
  · exact .inr ⟨h, b, Nat.le_trans hb h1, h2⟩

theorem Told.val {base : Nat} {r : Int × Int} {e : Ending} {w : World} (h : Told base r e w) : ∃ v, e = .returned v := by
  rcases h with ⟨_, rfl⟩ | ⟨_, b, _, rfl, _⟩
  · exact ⟨_, rfl⟩
  · exact ⟨_, rfl⟩

set_option maxHeartbeats 1000000 in
theorem rule0 (b : Nat) (P : PlanA) (L : PlanL) (W : World) (hb : PB W b P L) (hO : POk P L) : Rule 32 #[.pointer (some ⟨b, 0, none⟩)] (frameR P) W := by
  unfold Rule
  obtain ⟨fr, cs, ps, hs, rs⟩ := P
  obtain ⟨c0, -, -, -, -⟩ := hb
  have hw := hO.wf.1
  unfold wide at hw
  dsimp only at c0 hw
  clear hO
  by_cases h0 : fr = 0
  · subst h0
    go_enter Tryd.func32, Tryd.ntmps32
    go_wp2_with fail
    refine (one_any false 0 40 W (by decide)).mono ?_
    rintro e w1 ⟨hT, hB⟩
    obtain ⟨v, rfl⟩ := hT.val
    have HT := Lib.hid hT
    have HB := Lib.hid hB
    clear hB hT
    go_wp2_with fail
    go_ret
    exact ⟨HT.out, HB.out⟩
  · have h1 : 0 < fr := by omega
    go_enter Tryd.func32, Tryd.ntmps32
    go_wp2_with fail
    refine (one_any true 0 40 W (by decide)).mono ?_
    rintro e w1 ⟨hT, hB⟩
    obtain ⟨v, rfl⟩ := hT.val
    have HT := Lib.hid hT
    have HB := Lib.hid hB
    clear hB hT
    go_wp2_with fail
    go_ret
    exact ⟨HT.out.eq (by simp [frameR, h0]), HB.out⟩

set_option maxHeartbeats 4000000 in
theorem rule1 (b n : Nat) (W : World) (hb : W.cell? ⟨b, 0, none⟩ = some (.int .i64 n)) : Rule 34 #[.pointer (some ⟨b, 0, none⟩)] (if 1 ≤ n ∧ n ≤ 8 then (0, 0) else (41, (n : Int))) W := by
  unfold Rule
  have hq : (if 1 ≤ n ∧ n ≤ 8 then ((0, 0) : Int × Int) else (41, (n : Int))) = if decide ((1 : Int) ≤ n ∧ (n : Int) ≤ 8) then (0, 0) else (41, (n : Int)) := by
    by_cases h : 1 ≤ n ∧ n ≤ 8
    · rw [if_pos h, decide_eq_true (by omega)]; rfl
    · rw [if_neg h, decide_eq_false (by omega)]; rfl
  rw [hq]
  obtain ⟨r, hr⟩ : ∃ r, r = if decide ((1 : Int) ≤ n ∧ (n : Int) ≤ 8) then ((0, 0) : Int × Int) else (41, (n : Int)) := ⟨_, rfl⟩
  rw [← hr]
  obtain ⟨q, hqq⟩ : ∃ q, q = decide ((1 : Int) ≤ n ∧ (n : Int) ≤ 8) := ⟨_, rfl⟩
  rw [← hqq] at hr
  have HQ := Lib.hid hqq
  have HR := Lib.hid hr
  clear hq hqq hr
  go_enter Tryd.func34, Tryd.ntmps34
  go_wp2_with fail
  go_region_law ((
    first
    | (go_simp
       go_at_call 35
       refine (from1_any _ _ _).mono ?_
       rw [← HQ.out]
       rintro e w3 ⟨rfl, rfl⟩)
    | (go_simp
       go_at_call 33
       refine (one_any _ _ _ _ (by decide)).mono ?_
       rintro e w4 ⟨hT, hB⟩
       obtain ⟨v, rfl⟩ := hT.val
       have HT := Lib.hid hT
       have HB := Lib.hid hB
       clear hT hB)))
  all_goals
    go_wp2_with fail
    all_goals
      go_ret
      exact ⟨HT.out.eq HR.out.symm, below_two ((Below.refl _ _).drew) HB.out⟩
theorem rule2 (b n : Nat) (W : World) (hb : W.cell? ⟨b, 0, none⟩ = some (.int .i64 n)) : Rule 36 #[.pointer (some ⟨b, 0, none⟩)] (if 1 ≤ n ∧ n ≤ 64 then (0, 0) else (42, (n : Int))) W := by
  unfold Rule
  have hq : (if 1 ≤ n ∧ n ≤ 64 then ((0, 0) : Int × Int) else (42, (n : Int))) = if decide ((1 : Int) ≤ n ∧ (n : Int) ≤ 64) then (0, 0) else (42, (n : Int)) := by
    by_cases h : 1 ≤ n ∧ n ≤ 64
    · rw [if_pos h, decide_eq_true (by omega)]; rfl
    · rw [if_neg h, decide_eq_false (by omega)]; rfl
  rw [hq]
  obtain ⟨r, hr⟩ : ∃ r, r = if decide ((1 : Int) ≤ n ∧ (n : Int) ≤ 64) then ((0, 0) : Int × Int) else (42, (n : Int)) := ⟨_, rfl⟩
  rw [← hr]
  obtain ⟨q, hqq⟩ : ∃ q, q = decide ((1 : Int) ≤ n ∧ (n : Int) ≤ 64) := ⟨_, rfl⟩
  rw [← hqq] at hr
  have HQ := Lib.hid hqq
  have HR := Lib.hid hr
  clear hq hqq hr
  go_enter Tryd.func36, Tryd.ntmps36
  go_wp2_with fail
  go_region_law ((
    first
    | (go_simp
       go_at_call 35
       refine (from1_any _ _ _).mono ?_
       rw [← HQ.out]
       rintro e w3 ⟨rfl, rfl⟩)
    | (go_simp
       go_at_call 33
       refine (one_any _ _ _ _ (by decide)).mono ?_
       rintro e w4 ⟨hT, hB⟩
       obtain ⟨v, rfl⟩ := hT.val
       have HT := Lib.hid hT
       have HB := Lib.hid hB
       clear hT hB)))
  all_goals
    go_wp2_with fail
    all_goals
      go_ret
      exact ⟨HT.out.eq HR.out.symm, below_two ((Below.refl _ _).drew) HB.out⟩

theorem enters39 : Enters 39 := enters_of Tryd.func39 (by kernel_rfl) rfl
theorem enters43 : Enters 43 := enters_of Tryd.func43 (by kernel_rfl) rfl
theorem enters46 : Enters 46 := enters_of Tryd.func46 (by kernel_rfl) rfl
set_option maxHeartbeats 1000000 in
theorem closure39 (b : Nat) (P : PlanA) (L : PlanL) (c : Nat) (W : World) (hb : PB W b P L) (hP : PlanAt W P L) (hO : POk P L) (hc : c < P.2.1.length) :
    Calls Tryd.prog 39 #[.int .i64 c, .pointer (some ⟨b, 0, none⟩)] W fun e w' => e = .returned (.int .i64 (manyE P c)) ∧ Below W.heap.size W w' := by
  obtain ⟨fr, cs, ps, hs, rs⟩ := P
  obtain ⟨A1, c1, A2, c2, A3, c3, A4, c4⟩ := L
  obtain ⟨-, k1, -, -, -⟩ := hb
  obtain ⟨⟨Pf, q1, -⟩, -, -, -⟩ := hP
  have hl := hO.l1
  dsimp only at k1 q1 hl hc
  obtain ⟨b1, o1, rfl⟩ := Arr.head q1 hc
  have cc := Arr.at (j := 0) q1 hc rfl
  have hli := hO.li _ (getD_mem [] hc)
  obtain ⟨n, hn⟩ : ∃ n, n = (cs.getD c []).length := ⟨_, rfl⟩
  have hm : manyE (fr, cs, ps, hs, rs) c = if (n ≤ 256) then 0 else 43 := by unfold manyE; rw [hn]
  rw [hm]
  dsimp only at hli
  rw [← hn] at hli
  simp only [slV, ← hn, Nat.mul_one, Nat.add_zero] at cc
  clear hm hn q1 hO
  by_cases h : n ≤ 256
  · rw [if_pos h]
    go_enter Tryd.func39, Tryd.ntmps39
    go_wp2_with fail
    refine (unless_any _ _ _).mono ?_
    rintro e w4 ⟨rfl, rfl⟩
    go_wp2_with fail
    all_goals (go_ret; exact ⟨ret_i (by first | rfl | omega), Below.refl _ _⟩)
  · rw [if_neg h]
    go_enter Tryd.func39, Tryd.ntmps39
    go_wp2_with fail
    refine (unless_any _ _ _).mono ?_
    rintro e w4 ⟨rfl, rfl⟩
    go_wp2_with fail
    all_goals (go_ret; exact ⟨ret_i (by first | rfl | omega), Below.refl _ _⟩)

set_option maxHeartbeats 1000000 in
theorem rule3 (b bc : Nat) (P : PlanA) (L : PlanL) (W : World) (hb : PB W b P L) (hc : W.cell? ⟨bc, 0, none⟩ = some (.int .i64 P.2.1.length)) (hP : PlanAt W P L) (hO : POk P L) :
    Rule 37 #[.pointer (some ⟨bc, 0, none⟩), .pointer (some ⟨b, 0, none⟩)] (manyR P) W := by
  unfold Rule
  have HE := Lib.hid (each_any 39 #[.pointer (some ⟨b, 0, none⟩)] (manyE P) P.2.1.length W enters39 (Nat.le_trans hO.l1 (by omega)) fun k W' hk hB => closure39 b P L k W' (hb.keep hB) (hP.keep hB) hO hk)
  obtain ⟨n, hn⟩ : ∃ n, n = P.2.1.length := ⟨_, rfl⟩
  have hr : manyR P = firstP (manyE P) (fun c => (c : Int)) (List.range n) := by rw [hn]; rfl
  rw [hr]
  rw [← hn] at HE hc
  clear hb hP hO hn hr
  go_enter Tryd.func37, Tryd.ntmps37
  go_wp2_with fail
  refine HE.out.mono ?_
  rintro e w1 ⟨hT, hB⟩
  obtain ⟨v, rfl⟩ := hT.val
  have HT := Lib.hid hT
  have HB := Lib.hid hB
  clear hB hT
  go_wp2_with fail
  go_ret
  exact ⟨HT.out, HB.out⟩
end Go.Proofs.YtmfelkdcoihkpaaDoor
