/-
  The given package's Check: the first rule that is broken, and its place.
-/
import Derived.Test.YtmfelkdcoihkpaaDoorCkA
import Derived.Test.YtmfelkdcoihkpaaDoorObj
import Derived.Test.YtmfelkdcoihkpaaDoorRules
import Derived.Deep.RegionLaw
import Derived.Deep.DeepCutAuto
import Derived.Deep.CutBlock
import Derived.BigQuiet
import Derived.Deep.QuietTactic
namespace Go.Proofs.YtmfelkdcoihkpaaDoor
open Go.RowKit

theorem ret_two {r : Int × Int} {x y : Int} (h : r = (x, y)) : Ending.returned (.tuple #[.int .i64 x, .int .i64 y]) = .returned (.tuple #[.int .i64 r.1, .int .i64 r.2]) := by rw [h]
theorem placed_44 {P : PlanA} {i : Nat} {b : Int} (hb : freeW P (pl P.2.1 i).1 (pl P.2.1 i).2 = b) (h : (plW P.2.1 i).2.1 = 0 ∨ (plW P.2.1 i).1 < b ∨ P.1 < endW (plW P.2.1 i)) : placedE P (pl P.2.1 i) = 44 := by
  unfold placedE
  unfold plW at h
  rw [hb, if_pos h]
theorem placed_45 {P : PlanA} {i : Nat} {b : Int} (hb : freeW P (pl P.2.1 i).1 (pl P.2.1 i).2 = b) (h : ¬ ((plW P.2.1 i).2.1 = 0 ∨ (plW P.2.1 i).1 < b ∨ P.1 < endW (plW P.2.1 i))) (hp : ¬ (plW P.2.1 i).2.2.1 < P.2.2.1.length) : placedE P (pl P.2.1 i) = 45 := by
  unfold placedE
  unfold plW at h hp
  rw [hb, if_neg h, if_neg hp]
theorem placed_0 {P : PlanA} {i : Nat} {b : Int} (hb : freeW P (pl P.2.1 i).1 (pl P.2.1 i).2 = b) (h : ¬ ((plW P.2.1 i).2.1 = 0 ∨ (plW P.2.1 i).1 < b ∨ P.1 < endW (plW P.2.1 i))) (hp : (plW P.2.1 i).2.2.1 < P.2.2.1.length) : placedE P (pl P.2.1 i) = 0 := by
  unfold placedE
  unfold plW at h hp
  rw [hb, if_neg h, if_pos hp]
def NoP (P : PlanA) (k : Nat) : Prop := ∀ j, j < k → placedE P (pl P.2.1 j) = 0
theorem NoP.snoc {P : PlanA} {k : Nat} (h : NoP P k) (hx : placedE P (pl P.2.1 k) = 0) : NoP P (k + 1) := fun j hj => by
  rcases Nat.lt_or_ge j k with q | q
  · exact h j q
  · obtain rfl : j = k := by omega
    exact hx
theorem hit_order {P : PlanA} {k : Nat} {x : Int} (hH : Holds_ P 4) (hk : k < (places P.2.1).length) (h : NoP P k) (hx : placedE P (pl P.2.1 k) = x) (h0 : x ≠ 0) : checkS P = (x, 256 * ((pl P.2.1 k).1 : Int) + (pl P.2.1 k).2) := by
  refine at_rule (k := 4) (by omega) hH ?_ h0
  show orderR P = _
  unfold orderR
  rw [hit_pl hk h (by rw [hx]; exact h0), hx]
  rfl
theorem none_order {P : PlanA} (hH : Holds_ P 4) (h : NoP P (places P.2.1).length) : Holds_ P 5 := holds_succ hH (by
  show (orderR P).1 = 0
  unfold orderR
  rw [none_pl h])
def NoG (P : PlanA) (k : Nat) : Prop := ∀ j, j < k → besideE P (pl P.2.1 j) = 0
theorem NoG.snoc {P : PlanA} {k : Nat} (h : NoG P k) (hx : besideE P (pl P.2.1 k) = 0) : NoG P (k + 1) := fun j hj => by
  rcases Nat.lt_or_ge j k with q | q
  · exact h j q
  · obtain rfl : j = k := by omega
    exact hx
theorem hit_gang {P : PlanA} {k : Nat} {x : Int} (hH : Holds_ P 5) (hk : k < (places P.2.1).length) (h : NoG P k) (hx : besideE P (pl P.2.1 k) = x) (h0 : x ≠ 0) : checkS P = (x, 256 * ((pl P.2.1 k).1 : Int) + (pl P.2.1 k).2) := by
  refine at_rule (k := 5) (by omega) hH ?_ h0
  show gangR P = _
  unfold gangR
  rw [hit_pl hk h (by rw [hx]; exact h0), hx]
  rfl
theorem none_gang {P : PlanA} (hH : Holds_ P 5) (h : NoG P (places P.2.1).length) : Holds_ P 6 := holds_succ hH (by
  show (gangR P).1 = 0
  unfold gangR
  rw [none_pl h])
theorem NoA.snoc {cs : List (List WinA)} {i k : Nat} (h : NoA cs i k) (hx : (pl cs k).1 = (pl cs i).1 → gangB (plW cs k) (plW cs i) = false) : NoA cs i (k + 1) := fun j hj => by
  rcases Nat.lt_or_ge j k with q | q
  · exact h j q
  · obtain rfl : j = k := by omega
    exact hx
theorem NoB.snoc {cs : List (List WinA)} {i k : Nat} (h : NoB cs i k) (hx : (pl cs k).1 ≠ (pl cs i).1 → twoE (plW cs i) (plW cs k) = 0) : NoB cs i (k + 1) := fun j hi hj => by
  rcases Nat.lt_or_ge j k with q | q
  · exact h j hi q
  · obtain rfl : j = k := by omega
    exact hx
theorem two_tog {v w : WinA} (h : togB v w = true) : twoE w v = 0 := by unfold twoE; rw [togB_comm, h]; rfl
theorem two_gang {v w : WinA} (h : togB v w = false) (hg : gangB v w = true) : twoE w v = 46 := by unfold twoE; rw [togB_comm, h, gangB_comm, hg]; rfl
theorem two_same {v w : WinA} (h : togB v w = false) (hg : gangB v w = false) (hp : v.2.2.1 = w.2.2.1) (ho : ovB v w = true) : twoE w v = 47 := by
  unfold twoE
  rw [togB_comm, h, gangB_comm, hg, if_neg (by simp), if_neg (by simp), if_pos ⟨hp.symm, by rw [ovB_comm]; exact ho⟩]
theorem two_zero {v w : WinA} (h : togB v w = false) (hg : gangB v w = false) (hp : ¬ (v.2.2.1 = w.2.2.1 ∧ ovB v w = true)) : twoE w v = 0 := by
  unfold twoE
  rw [togB_comm, h, gangB_comm, hg, if_neg (by simp), if_neg (by simp), if_neg (fun q => hp ⟨q.1.symm, by rw [ovB_comm]; exact q.2⟩)]
theorem gang_yes {a b c a' b' c' d : Int} (h : d ≠ 0) : gangB (a, b, c, d) (a', b', c', d) = true := by unfold gangB; simpa using h
theorem gang_no1 {a b c d a' b' c' d' : Int} (h : d ≠ d') : gangB (a, b, c, d) (a', b', c', d') = false := by
  unfold gangB
  rw [show ((d == d') : Bool) = false by simpa using h]; simp
theorem gang_no2 {a b c a' b' c' d' : Int} : gangB (a, b, c, 0) (a', b', c', d') = false := by unfold gangB; rfl
theorem plV_cells {W : World} {b o N : Nat} {cs : List (List WinA)} {k : Nat} (h : Arr W (some ⟨b, o, none⟩) 6 N (fun j => plV cs ((places cs).getD j (0, 0)))) (hk : k < N) :
    W.cell? ⟨b, o + k * 6, none⟩ = some (.int .i64 ((pl cs k).1 : Int)) ∧ W.cell? ⟨b, o + k * 6 + 1, none⟩ = some (.int .i64 (256 * ((pl cs k).1 : Int) + (pl cs k).2)) ∧ W.cell? ⟨b, o + k * 6 + 2, none⟩ = some (.int .u16 (plW cs k).1) ∧ W.cell? ⟨b, o + k * 6 + 3, none⟩ = some (.int .u16 (plW cs k).2.1) ∧ W.cell? ⟨b, o + k * 6 + 4, none⟩ = some (.int .u8 (plW cs k).2.2.1) ∧ W.cell? ⟨b, o + k * 6 + 5, none⟩ = some (.int .u8 (plW cs k).2.2.2) :=
  ⟨Arr.at (j := 0) h hk rfl, Arr.at (j := 1) h hk rfl, Arr.at (j := 2) h hk rfl, Arr.at (j := 3) h hk rfl, Arr.at (j := 4) h hk rfl, Arr.at (j := 5) h hk rfl⟩
theorem plW_wf {cs : List (List WinA)} {i : Nat} (h : ∀ ws ∈ cs, ∀ x ∈ ws, WfWin x) (hi : i < (places cs).length) : WfWin (plW cs i) := by
  obtain ⟨j, hj, e⟩ : ∃ j, j < (places cs).length ∧ plW cs i = plW cs j := ⟨i, hi, rfl⟩
  obtain ⟨ws, hws, hv⟩ := List.mem_flatten.1 (mem_flat.2 ⟨j, hj, e⟩)
  exact h ws hws _ hv


def NoPr (P : PlanA) (k : Nat) : Prop := ∀ j, j < k → pairE P j = 0
theorem NoPr.snoc {P : PlanA} {k : Nat} (h : NoPr P k) (hx : pairE P k = 0) : NoPr P (k + 1) := fun j hj => by
  rcases Nat.lt_or_ge j k with q | q
  · exact h j q
  · obtain rfl : j = k := by omega
    exact hx
theorem hit_pair {P : PlanA} {k : Nat} {x : Int} (hH : Holds_ P 6) (hk : k < P.2.2.2.2.length) (h : NoPr P k) (hx : pairE P k = x) (h0 : x ≠ 0) : checkS P = (x, (k : Int)) := by
  refine at_rule (k := 6) (by omega) hH ?_ h0
  show pairR P = _
  unfold pairR
  rw [hit_rg hk h (by rw [hx]; exact h0), hx]
theorem none_pair {P : PlanA} (hH : Holds_ P 6) (h : NoPr P P.2.2.2.2.length) : Holds_ P 7 := holds_succ hH (by
  show (pairR P).1 = 0
  unfold pairR
  rw [none_rg (n := P.2.2.2.2.length) h])
theorem NoDup.snoc {P : PlanA} {i k : Nat} (h : NoDup P i k) (hx : prA P k ≠ prA P i) : NoDup P i (k + 1) := fun j hj => by
  rcases Nat.lt_or_ge j k with q | q
  · exact h j q
  · obtain rfl : j = k := by omega
    exact hx
theorem NoC.snoc {P : PlanA} {i a : Nat} (h : NoC P i a) (hx : NoD P i a (places P.2.1).length) : NoC P i (a + 1) := fun j hj => by
  rcases Nat.lt_or_ge j a with q | q
  · exact h j q
  · obtain rfl : j = a := by omega
    exact hx
theorem NoD.snoc {P : PlanA} {i a b : Nat} (h : NoD P i a b) (hx : ¬ ((plW P.2.1 a).2.2.1 = (prA P i).1 ∧ (plW P.2.1 b).2.2.1 = (prA P i).2 ∧ ovB (plW P.2.1 a) (plW P.2.1 b) = true)) : NoD P i a (b + 1) := fun j hj => by
  rcases Nat.lt_or_ge j b with q | q
  · exact h j q
  · obtain rfl : j = b := by omega
    exact hx
def NoCh (P : PlanA) (k : Nat) : Prop := ∀ j, j < k → chanE P j = 0
theorem NoCh.snoc {P : PlanA} {k : Nat} (h : NoCh P k) (hx : chanE P k = 0) : NoCh P (k + 1) := fun j hj => by
  rcases Nat.lt_or_ge j k with q | q
  · exact h j q
  · obtain rfl : j = k := by omega
    exact hx
theorem hit_chan {P : PlanA} {k : Nat} (hH : Holds_ P 7) (hk : k < P.2.2.2.1.length) (h : NoCh P k) (hx : ¬ (k < 64 ∧ chanB P.2.2.1.length (P.2.2.2.1.getD k dC) = true)) : checkS P = (50, (k : Int)) := by
  have hx : chanE P k = 50 := by unfold chanE; rw [if_neg hx]
  refine at_rule (k := 7) (by omega) hH ?_ (by omega)
  show chanR P = _
  unfold chanR
  rw [hit_rg hk h (by rw [hx]; omega), hx]
theorem none_chan {P : PlanA} (hH : Holds_ P 7) (h : NoCh P P.2.2.2.1.length) : Holds_ P 8 := holds_succ hH (by
  show (chanR P).1 = 0
  unfold chanR
  rw [none_rg (n := P.2.2.2.1.length) h])
def quB (c : ChanA) : Bool := c.1 == 0 && c.2.2.2.2.2 == 0 && (c.2.2.2.2.1 == 1 || c.2.2.2.2.1 == 2 || c.2.2.2.2.1 == 4 || c.2.2.2.2.1 == 8 || c.2.2.2.2.1 == 16)
def saB (c : ChanA) : Bool := c.1 == 1 && c.2.2.2.2.1 == 0 && decide (0 < c.2.2.2.2.2)
theorem chanB_qs (n : Nat) (c : ChanA) : chanB n c = ((quB c || saB c) && decide (c.2.1 < n ∧ c.2.2.1 < n ∧ c.2.1 ≠ c.2.2.1 ∧ 1 ≤ c.2.2.2.1 ∧ c.2.2.2.1 ≤ 32)) := by
  unfold chanB quB saB depthB
  congr 2
  cases (c.1 == 0) <;> cases (c.2.2.2.2.2 == 0) <;> simp
def NoQ (P : PlanA) (k : Nat) : Prop := ∀ j, j < k → partE P j = 0
theorem NoQ.snoc {P : PlanA} {k : Nat} (h : NoQ P k) (hx : partB (P.2.2.1.getD k dQ) = true) : NoQ P (k + 1) := fun j hj => by
  rcases Nat.lt_or_ge j k with q | q
  · exact h j q
  · obtain rfl : j = k := by omega
    unfold partE; rw [if_pos hx]
theorem hit_part {P : PlanA} {k : Nat} (hH : Holds_ P 8) (hk : k < P.2.2.1.length) (h : NoQ P k) (hx : partB (P.2.2.1.getD k dQ) = false) : checkS P = (51, (k : Int)) := by
  have hx : partE P k = 51 := by unfold partE; rw [if_neg (by rw [hx]; simp)]
  refine at_rule (k := 8) (by omega) hH ?_ (by omega)
  show partR P = _
  unfold partR
  rw [hit_rg hk h (by rw [hx]; omega), hx]
theorem none_part {P : PlanA} (hH : Holds_ P 8) (h : NoQ P P.2.2.1.length) : checkS P = (0, 0) := checkS_ok (holds_succ hH (by
  show (partR P).1 = 0
  unfold partR
  rw [none_rg (n := P.2.2.1.length) h]))
theorem pairs_at {W : World} {b o : Nat} {l : List PairA} {k : Nat} (h : SemsAt W (some ⟨b, o, none⟩) l) (hk : k < l.length) : W.cell? ⟨b, o + k * 2, none⟩ = some (.int .u8 (l.getD k dS).1) ∧ W.cell? ⟨b, o + k * 2 + 1, none⟩ = some (.int .u8 (l.getD k dS).2) :=
  ⟨Arr.at (j := 0) h hk rfl, Arr.at (j := 1) h hk rfl⟩
theorem two_boxes (W : World) (v0 v1 v2 v3 x0 x1 x2 x3 : Int) :
    WB ((W.alloc (.cells #[.int .u16 v0, .int .u16 v1, .int .u8 v2, .int .u8 v3] 39)).alloc (.cells #[.int .u16 x0, .int .u16 x1, .int .u8 x2, .int .u8 x3] 39)).drew W.heap.size (v0, v1, v2, v3) ∧ WB ((W.alloc (.cells #[.int .u16 v0, .int .u16 v1, .int .u8 v2, .int .u8 v3] 39)).alloc (.cells #[.int .u16 x0, .int .u16 x1, .int .u8 x2, .int .u8 x3] 39)).drew (W.heap.size + 1) (x0, x1, x2, x3) := by
  have h2 := WB.new (W.alloc (.cells #[.int .u16 v0, .int .u16 v1, .int .u8 v2, .int .u8 v3] 39)) x0 x1 x2 x3
  rw [show (W.alloc (.cells #[.int .u16 v0, .int .u16 v1, .int .u8 v2, .int .u8 v3] 39)).heap.size = W.heap.size + 1 by simp] at h2
  exact ⟨((WB.new W v0 v1 v2 v3).alloc _).keep ((Below.refl _ _).drew), h2.keep ((Below.refl _ _).drew)⟩

structure Hd_ (P : Prop) : Prop where
  out : P
structure Cut_Cb (M : Prop) where
  L1 : Prop
  L2 : Prop
  L3A : Prop
  L3B : Prop
  L3C : Prop
  L3D : Prop
  L3E : Prop
  L3F : Prop
  L3G : Prop
  L3H : Prop
  L4 : Prop
  L5 : Prop
  L6 : Prop
  imp : Hd_ L1 → Hd_ L2 → Hd_ L3A → Hd_ L3B → Hd_ L3C → Hd_ L3D → Hd_ L3E → Hd_ L3F → Hd_ L3G → Hd_ L3H → Hd_ L4 → Hd_ L5 → Hd_ L6 → M
set_option linter.all false in
set_option maxHeartbeats 64000000 in
set_option maxRecDepth 100000 in
def part_Cb : Cut_Cb (∀ (P : PlanA) (L : PlanL) (w : World) (hP : PlanAt w P L) (hO : POk P L),
    Calls Tryd.prog 13 #[planV P L] w fun e w' => e = .returned (.tuple #[.int .i64 (checkS P).1, .int .i64 (checkS P).2]) ∧ Below w.heap.size w w') := ⟨_, _, _, _, _, _, _, _, _, _, _, _, _, fun HYPL1 HYPL2 HYPL3A HYPL3B HYPL3C HYPL3D HYPL3E HYPL3F HYPL3G HYPL3H HYPL4 HYPL5 HYPL6 => by
  intro P L w hP hO
  have hpv : planV P L = .agg #[.int .u16 P.1, .slice L.a1 P.2.1.length L.c1, .slice L.a2 P.2.2.1.length L.c2, .slice L.a3 P.2.2.2.1.length L.c3, .slice L.a4 P.2.2.2.2.length L.c4] := rfl
  have hALL : P.2.1.length ≤ 8 → (∀ ws ∈ P.2.1, ws.length ≤ 256) → ∀ W, Below w.heap.size w W → Calls Tryd.prog 24 #[planV P L] W fun e w' => AllPost P.2.1 W e w' := fun h8 h256 W hB => all_any P L W (hP.keep hB) h8 h256
  rw [hpv] at hALL ⊢
  obtain ⟨W0, hW0⟩ : ∃ W0, W0 = w.alloc (.cells #[.int .u16 P.1, .slice L.a1 P.2.1.length L.c1, .slice L.a2 P.2.2.1.length L.c2, .slice L.a3 P.2.2.2.1.length L.c3, .slice L.a4 P.2.2.2.2.length L.c4] 28) := ⟨_, rfl⟩
  have hb0 : Below w.heap.size w W0 := by rw [hW0]; exact (Below.refl _ _).alloc (Nat.le_refl _) _
  have hpb : PB W0 w.heap.size P L := by rw [hW0]; exact PB.new w P.1 P.2.1 P.2.2.1 P.2.2.2.1 P.2.2.2.2 L.a1 L.c1 L.a2 L.c2 L.a3 L.c3 L.a4 L.c4
  have hp0 : PlanAt W0 P L := hP.keep hb0
  obtain ⟨fr, hfe⟩ : ∃ fr, fr = P.1 := ⟨_, rfl⟩
  obtain ⟨n1, hn1⟩ : ∃ n, n = P.2.1.length := ⟨_, rfl⟩
  obtain ⟨n2, hn2⟩ : ∃ n, n = P.2.2.1.length := ⟨_, rfl⟩
  obtain ⟨n3, hn3⟩ : ∃ n, n = P.2.2.2.1.length := ⟨_, rfl⟩
  obtain ⟨n4, hn4⟩ : ∃ n, n = P.2.2.2.2.length := ⟨_, rfl⟩
  obtain ⟨R, hR⟩ : ∃ R, R = checkS P := ⟨_, rfl⟩
  have hf0 := hO.wf.1
  have hl1 := hO.l1
  have hl2 := hO.l2
  have hl3 := hO.l3
  have hl4 := hO.l4
  rw [← hfe] at hf0
  rw [← hn1] at hl1
  rw [← hn2] at hl2
  rw [← hn3] at hl3
  rw [← hn4] at hl4
  obtain ⟨hf00, hf01⟩ := hf0
  obtain ⟨k0, k1, k2, k3, k4⟩ := hpb
  have HPB : Hid (PB W0 w.heap.size P L) := ⟨k0, k1, k2, k3, k4⟩
  rw [← hfe] at k0 hW0 hALL ⊢
  rw [← hn1] at k1 hW0 hALL ⊢
  rw [← hn2] at k2 hW0 hALL ⊢
  rw [← hn3] at k3 hW0 hALL ⊢
  rw [← hn4] at k4 hW0 hALL ⊢
  rw [← hR]
  have HALL := Lib.hid hALL
  have HP0 := Lib.hid hp0
  have HB0 := Lib.hid hb0
  have HO := Lib.hid hO
  have HR := Lib.hid hR
  have HFE := Lib.hid hfe
  have HN1 := Lib.hid hn1
  have HN2 := Lib.hid hn2
  have HN3 := Lib.hid hn3
  have HN4 := Lib.hid hn4
  have HW0 := Lib.hid hW0
  clear hpv hALL hP hO hb0 hp0 hfe hn1 hn2 hn3 hn4 hR hW0
  by_cases k00 : fr = 0
  · have hc : R = (40, 0) := by
      rw [HR.out]
      exact at_rule (k := 0) (by omega) (fun j hj => by omega) (by show frameR P = _; unfold frameR; rw [← HFE.out, if_pos k00]) (by omega)
    have HC := Lib.hid hc
    subst k00
    clear hc k0 k1 k2 k3 k4
    go_enter Tryd.func13, Tryd.ntmps13
    go_wp2_with fail
    go_ret2
    exact ⟨ret_two HC.out, by rw [← HW0.out]; exact HB0.out⟩
  have hH1 : Holds_ P 1 := holds_succ (k := 0) (fun j hj => by omega) (by show (frameR P).1 = 0; unfold frameR; rw [← HFE.out, if_neg k00])
  have H1 := Lib.hid hH1
  have k01 : (fr == 0) = false := by simpa using k00
  clear hH1 k00
  by_cases k10 : ¬ (1 ≤ n1 ∧ n1 ≤ 8)
  · have hc : R = (41, (n1 : Int)) := by
      rw [HR.out]
      exact at_rule (k := 1) (by omega) H1.out (by show coresR P = _; unfold coresR; rw [← HN1.out, if_neg k10]) (by omega)
    have HC := Lib.hid hc
    clear hc k0 k2 k3 k4
    rcases (by omega : n1 < 1 ∨ 8 < n1) with k11 | k11
    · clear k10
      go_enter Tryd.func13, Tryd.ntmps13
      go_wp2_with fail
      rw [← HW0.out]
      go_quiet (fail)
      go_wp2_with fail
      go_ret2
      exact ⟨ret_two HC.out, below_drewN HB0.out _⟩
    · have k12 : 1 ≤ n1 := by omega
      clear k10
      go_enter Tryd.func13, Tryd.ntmps13
      go_wp2_with fail
      rw [← HW0.out]
      go_quiet (fail)
      go_wp2_with fail
      go_ret2
      exact ⟨ret_two HC.out, below_drewN HB0.out _⟩
  have hH2 : Holds_ P 2 := holds_succ H1.out (by show (coresR P).1 = 0; unfold coresR; rw [← HN1.out, if_pos (by omega)])
  have H2 := Lib.hid hH2
  have k11 : 1 ≤ n1 := by omega
  have k12 : n1 ≤ 8 := by omega
  clear hH2 k10
  by_cases k20 : ¬ (1 ≤ n2 ∧ n2 ≤ 64)
  · have hc : R = (42, (n2 : Int)) := by
      rw [HR.out]
      exact at_rule (k := 2) (by omega) H2.out (by show partsR P = _; unfold partsR; rw [← HN2.out, if_neg k20]) (by omega)
    have HC := Lib.hid hc
    clear hc k0 k3 k4
    rcases (by omega : n2 < 1 ∨ 64 < n2) with k21 | k21
    · clear k20
      go_enter Tryd.func13, Tryd.ntmps13
      go_wp2_with fail
      rw [← HW0.out]
      go_quiet (fail)
      go_wp2_with fail
      go_ret2
      exact ⟨ret_two HC.out, below_drewN HB0.out _⟩
    · have k22 : 1 ≤ n2 := by omega
      clear k20
      go_enter Tryd.func13, Tryd.ntmps13
      go_wp2_with fail
      rw [← HW0.out]
      go_quiet (fail)
      go_wp2_with fail
      go_ret2
      exact ⟨ret_two HC.out, below_drewN HB0.out _⟩
  have hH3 : Holds_ P 3 := holds_succ H2.out (by show (partsR P).1 = 0; unfold partsR; rw [← HN2.out, if_pos (by omega)])
  have H3 := Lib.hid hH3
  have k21 : 1 ≤ n2 := by omega
  have k22 : n2 ≤ 64 := by omega
  clear hH3 k20
  go_enter Tryd.func13, Tryd.ntmps13
  go_upto_block 0 with fail
  rw [← HW0.out]
  go_cut [4] (fun _ wx => (∀ j, j < n1 → manyE P j = 0) ∧ Below W0.heap.size W0 wx)
  case first =>
    repeat (rename_i zz; revert zz)
    (try revert AllPost); (try revert Below); (try revert Calls); (try revert H1); (try revert H2); (try revert H3); (try revert HALL); (try revert HB0); (try revert HC); (try revert HFE); (try revert HN1); (try revert HN2); (try revert HN3); (try revert HN4); (try revert HO); (try revert HP0); (try revert HPB); (try revert HR); (try revert HW0); (try revert Hid); (try revert Holds_); (try revert Int); (try revert L); (try revert Lib); (try revert Nat)
    (try revert P); (try revert PB); (try revert PlanAt); (try revert R); (try revert Tryd); (try revert W); (try revert W0); (try revert a1); (try revert a2); (try revert a3); (try revert a4); (try revert all_any); (try revert at_rule); (try revert below_drewN); (try revert by_cases); (try revert c1); (try revert c2); (try revert c3); (try revert c4); (try revert checkS); (try revert coresR); (try revert e); (try revert fail); (try revert fr); (try revert frameR)
    (try revert h256); (try revert h8); (try revert hALL); (try revert hB); (try revert hH1); (try revert hH2); (try revert hH3); (try revert hHeld); (try revert hO); (try revert hP); (try revert hR); (try revert hW0); (try revert hb0); (try revert hc); (try revert hcut); (try revert hf0); (try revert hf00); (try revert hf01); (try revert hfe); (try revert hj); (try revert hl1); (try revert hl2); (try revert hl3); (try revert hl4); (try revert hn1)
    (try revert hn2); (try revert hn3); (try revert hn4); (try revert holds_succ); (try revert hp0); (try revert hpb); (try revert hpv); (try revert hrel); (try revert if_neg); (try revert if_pos); (try revert j); (try revert k); (try revert k0); (try revert k00); (try revert k01); (try revert k1); (try revert k10); (try revert k11); (try revert k12); (try revert k2); (try revert k20); (try revert k21); (try revert k22); (try revert k3); (try revert k4)
    (try revert l1); (try revert l2); (try revert manyE); (try revert n); (try revert n1); (try revert n2); (try revert n3); (try revert n4); (try revert nq); (try revert partsR); (try revert planV); (try revert ret_two); (try revert u0); (try revert u1); (try revert u10); (try revert u100); (try revert u101); (try revert u102); (try revert u103); (try revert u104); (try revert u105); (try revert u106); (try revert u107); (try revert u108); (try revert u109)
    (try revert u11); (try revert u110); (try revert u111); (try revert u112); (try revert u113); (try revert u114); (try revert u115); (try revert u116); (try revert u117); (try revert u118); (try revert u119); (try revert u12); (try revert u120); (try revert u121); (try revert u122); (try revert u123); (try revert u124); (try revert u125); (try revert u126); (try revert u127); (try revert u128); (try revert u129); (try revert u13); (try revert u130); (try revert u131)
    (try revert u132); (try revert u133); (try revert u134); (try revert u135); (try revert u136); (try revert u137); (try revert u138); (try revert u139); (try revert u14); (try revert u140); (try revert u141); (try revert u142); (try revert u143); (try revert u144); (try revert u145); (try revert u146); (try revert u147); (try revert u148); (try revert u149); (try revert u15); (try revert u150); (try revert u151); (try revert u152); (try revert u153); (try revert u154)
    (try revert u155); (try revert u156); (try revert u157); (try revert u158); (try revert u159); (try revert u16); (try revert u160); (try revert u161); (try revert u162); (try revert u163); (try revert u164); (try revert u165); (try revert u166); (try revert u167); (try revert u168); (try revert u169); (try revert u17); (try revert u170); (try revert u171); (try revert u172); (try revert u173); (try revert u174); (try revert u175); (try revert u176); (try revert u177)
    (try revert u178); (try revert u179); (try revert u18); (try revert u180); (try revert u181); (try revert u182); (try revert u183); (try revert u184); (try revert u185); (try revert u186); (try revert u187); (try revert u188); (try revert u189); (try revert u19); (try revert u190); (try revert u191); (try revert u192); (try revert u193); (try revert u194); (try revert u195); (try revert u196); (try revert u197); (try revert u198); (try revert u199); (try revert u2)
    (try revert u20); (try revert u200); (try revert u201); (try revert u202); (try revert u203); (try revert u204); (try revert u205); (try revert u206); (try revert u207); (try revert u208); (try revert u209); (try revert u21); (try revert u210); (try revert u211); (try revert u212); (try revert u213); (try revert u214); (try revert u215); (try revert u216); (try revert u217); (try revert u218); (try revert u219); (try revert u22); (try revert u220); (try revert u221)
    (try revert u222); (try revert u223); (try revert u224); (try revert u225); (try revert u226); (try revert u227); (try revert u228); (try revert u229); (try revert u23); (try revert u230); (try revert u231); (try revert u232); (try revert u233); (try revert u234); (try revert u235); (try revert u236); (try revert u237); (try revert u238); (try revert u239); (try revert u24); (try revert u240); (try revert u241); (try revert u242); (try revert u243); (try revert u244)
    (try revert u245); (try revert u246); (try revert u247); (try revert u248); (try revert u249); (try revert u25); (try revert u250); (try revert u251); (try revert u252); (try revert u253); (try revert u254); (try revert u255); (try revert u256); (try revert u257); (try revert u258); (try revert u259); (try revert u26); (try revert u260); (try revert u261); (try revert u262); (try revert u263); (try revert u264); (try revert u265); (try revert u266); (try revert u267)
    (try revert u268); (try revert u269); (try revert u27); (try revert u270); (try revert u271); (try revert u272); (try revert u273); (try revert u274); (try revert u275); (try revert u276); (try revert u277); (try revert u278); (try revert u279); (try revert u28); (try revert u280); (try revert u281); (try revert u282); (try revert u283); (try revert u284); (try revert u285); (try revert u286); (try revert u287); (try revert u288); (try revert u289); (try revert u29)
    (try revert u290); (try revert u291); (try revert u292); (try revert u293); (try revert u294); (try revert u295); (try revert u296); (try revert u297); (try revert u298); (try revert u299); (try revert u3); (try revert u30); (try revert u300); (try revert u301); (try revert u302); (try revert u303); (try revert u304); (try revert u305); (try revert u306); (try revert u307); (try revert u308); (try revert u309); (try revert u31); (try revert u310); (try revert u311)
    (try revert u312); (try revert u313); (try revert u314); (try revert u315); (try revert u316); (try revert u317); (try revert u318); (try revert u319); (try revert u32); (try revert u320); (try revert u321); (try revert u322); (try revert u323); (try revert u324); (try revert u325); (try revert u326); (try revert u327); (try revert u328); (try revert u329); (try revert u33); (try revert u330); (try revert u331); (try revert u332); (try revert u333); (try revert u334)
    (try revert u335); (try revert u336); (try revert u337); (try revert u338); (try revert u339); (try revert u34); (try revert u340); (try revert u341); (try revert u342); (try revert u343); (try revert u344); (try revert u345); (try revert u346); (try revert u347); (try revert u348); (try revert u349); (try revert u35); (try revert u350); (try revert u351); (try revert u352); (try revert u353); (try revert u354); (try revert u355); (try revert u356); (try revert u357)
    (try revert u358); (try revert u359); (try revert u36); (try revert u360); (try revert u361); (try revert u362); (try revert u363); (try revert u364); (try revert u365); (try revert u366); (try revert u367); (try revert u368); (try revert u369); (try revert u37); (try revert u370); (try revert u371); (try revert u372); (try revert u373); (try revert u374); (try revert u375); (try revert u376); (try revert u377); (try revert u378); (try revert u379); (try revert u38)
    (try revert u380); (try revert u381); (try revert u382); (try revert u383); (try revert u384); (try revert u385); (try revert u386); (try revert u387); (try revert u388); (try revert u389); (try revert u39); (try revert u390); (try revert u391); (try revert u392); (try revert u393); (try revert u394); (try revert u395); (try revert u396); (try revert u397); (try revert u398); (try revert u399); (try revert u4); (try revert u40); (try revert u400); (try revert u401)
    (try revert u402); (try revert u403); (try revert u404); (try revert u405); (try revert u406); (try revert u407); (try revert u408); (try revert u409); (try revert u41); (try revert u410); (try revert u411); (try revert u412); (try revert u413); (try revert u414); (try revert u415); (try revert u416); (try revert u417); (try revert u418); (try revert u419); (try revert u42); (try revert u420); (try revert u421); (try revert u422); (try revert u423); (try revert u424)
    (try revert u425); (try revert u426); (try revert u427); (try revert u428); (try revert u429); (try revert u43); (try revert u430); (try revert u431); (try revert u432); (try revert u433); (try revert u434); (try revert u435); (try revert u436); (try revert u437); (try revert u438); (try revert u439); (try revert u44); (try revert u440); (try revert u441); (try revert u442); (try revert u443); (try revert u444); (try revert u445); (try revert u446); (try revert u447)
    (try revert u448); (try revert u449); (try revert u45); (try revert u450); (try revert u451); (try revert u452); (try revert u453); (try revert u454); (try revert u455); (try revert u456); (try revert u457); (try revert u458); (try revert u459); (try revert u46); (try revert u460); (try revert u461); (try revert u462); (try revert u463); (try revert u464); (try revert u465); (try revert u466); (try revert u467); (try revert u468); (try revert u469); (try revert u47)
    (try revert u470); (try revert u471); (try revert u472); (try revert u473); (try revert u474); (try revert u475); (try revert u476); (try revert u477); (try revert u478); (try revert u479); (try revert u48); (try revert u480); (try revert u481); (try revert u482); (try revert u483); (try revert u484); (try revert u485); (try revert u486); (try revert u487); (try revert u488); (try revert u489); (try revert u49); (try revert u490); (try revert u491); (try revert u492)
    (try revert u493); (try revert u494); (try revert u495); (try revert u496); (try revert u497); (try revert u498); (try revert u499); (try revert u5); (try revert u50); (try revert u500); (try revert u501); (try revert u502); (try revert u503); (try revert u504); (try revert u505); (try revert u506); (try revert u507); (try revert u508); (try revert u509); (try revert u51); (try revert u510); (try revert u511); (try revert u512); (try revert u513); (try revert u514)
    (try revert u515); (try revert u516); (try revert u517); (try revert u518); (try revert u519); (try revert u52); (try revert u53); (try revert u54); (try revert u55); (try revert u56); (try revert u57); (try revert u58); (try revert u59); (try revert u6); (try revert u60); (try revert u61); (try revert u62); (try revert u63); (try revert u64); (try revert u65); (try revert u66); (try revert u67); (try revert u68); (try revert u69); (try revert u7)
    (try revert u70); (try revert u71); (try revert u72); (try revert u73); (try revert u74); (try revert u75); (try revert u76); (try revert u77); (try revert u78); (try revert u79); (try revert u8); (try revert u80); (try revert u81); (try revert u82); (try revert u83); (try revert u84); (try revert u85); (try revert u86); (try revert u87); (try revert u88); (try revert u89); (try revert u9); (try revert u90); (try revert u91); (try revert u92)
    (try revert u93); (try revert u94); (try revert u95); (try revert u96); (try revert u97); (try revert u98); (try revert u99); (try revert w); (try revert w'); (try revert wc); (try revert wq); (try revert wr); (try revert ws); (try revert wx)
    repeat (rename_i zz; revert zz)
    exact HYPL1.out
  case rest =>
    try clear HYPL1
    obtain ⟨hj, hBc⟩ := hcut
    have HJ := Lib.hid hj
    have HB01 := Lib.hid (below_two HB0.out hBc)
    have HPBc := Lib.hid (HPB.out.keep hBc)
    have HP0c := Lib.hid (HP0.out.keep hBc)
    obtain ⟨q0, q1, q2, q3, q4⟩ := HPBc.out
    rw [← HFE.out] at q0
    rw [← HN1.out] at q1
    rw [← HN2.out] at q2
    rw [← HN3.out] at q3
    rw [← HN4.out] at q4
    clear hj hBc k0 k1 k2 k3 k4
    have hH4 : Holds_ P 4 := holds_succ H3.out (by show (manyR P).1 = 0; unfold manyR; rw [none_rg (n := P.2.1.length) (by rw [← HN1.out]; exact HJ.out)])
    have h256 : ∀ ws ∈ P.2.1, ws.length ≤ 256 := fun ws hws => by
      obtain ⟨j, hj, rfl⟩ := mem_at [] hws
      have := HJ.out j (by rw [HN1.out]; exact hj)
      unfold manyE at this
      split at this
      · try clear HYPL1
        assumption
      · try clear HYPL1
        simp at this
    have HAL := Lib.hid (HALL.out k12 h256)
    have H4 := Lib.hid hH4
    have hNle : (places P.2.1).length ≤ 2048 := by
      have := placesTo_len h256 P.2.1.length (Nat.le_refl _)
      rw [placesTo_all] at this
      have := HN1.out
      omega
    have HNle := Lib.hid hNle
    clear hH4 h256 hNle HJ HALL
    go_upto_block 2 with fail
    refine (HAL.out _ HB01.out).mono ?_
    rintro e w1 ⟨A, cap, rfl, hArr, hB1⟩
    have hpb1 := HPBc.out.keep hB1
    have HPL1 := Lib.hid (HP0c.out.keep hB1)
    have HB1 := Lib.hid (below_two HB01.out hB1)
    have HNle' := HNle.out
    obtain ⟨N, hN⟩ : ∃ N, N = (places P.2.1).length := ⟨_, rfl⟩
    rw [← hN] at hArr HNle' ⊢
    have HN := Lib.hid hN
    have HARR := Lib.hid hArr
    have HPB1 := Lib.hid hpb1
    clear q0 q1 q2 q3 q4 hN hArr hB1 hpb1 HAL HPB HP0 HNle HPBc HP0c HB01
    rename World => wx1
    go_upto_block 2 with fail
    go_cut [6] (fun _ wx => NoP P N ∧ Below wx1.heap.size wx1 wx)
    case first =>
      try clear HYPL1
      repeat (rename_i zz; revert zz)
      (try revert A); (try revert AllPost); (try revert Below); (try revert Calls); (try revert H1); (try revert H2); (try revert H3); (try revert H4); (try revert HAL); (try revert HALL); (try revert HARR); (try revert HB0); (try revert HB01); (try revert HB1); (try revert HC); (try revert HFE); (try revert HJ); (try revert HN); (try revert HN1); (try revert HN2); (try revert HN3); (try revert HN4); (try revert HNle); (try revert HNle'); (try revert HO)
      (try revert HP0); (try revert HP0c); (try revert HPB); (try revert HPB1); (try revert HPBc); (try revert HPL1); (try revert HR); (try revert HW0); (try revert Hid); (try revert Holds_); (try revert Int); (try revert L); (try revert Lib); (try revert N); (try revert Nat); (try revert NoP); (try revert P); (try revert PB); (try revert PlanAt); (try revert R); (try revert Tryd); (try revert W); (try revert W0); (try revert World); (try revert a1)
      (try revert a2); (try revert a3); (try revert a4); (try revert all_any); (try revert at_rule); (try revert below_drewN); (try revert below_two); (try revert by_cases); (try revert c1); (try revert c2); (try revert c3); (try revert c4); (try revert cap); (try revert checkS); (try revert coresR); (try revert e); (try revert fail); (try revert fr); (try revert frameR); (try revert h256); (try revert h8); (try revert hALL); (try revert hArr); (try revert hB); (try revert hB1)
      (try revert hBc); (try revert hH1); (try revert hH2); (try revert hH3); (try revert hH4); (try revert hHeld); (try revert hN); (try revert hNle); (try revert hO); (try revert hP); (try revert hR); (try revert hW0); (try revert hb0); (try revert hc); (try revert hcut); (try revert hf0); (try revert hf00); (try revert hf01); (try revert hfe); (try revert hj); (try revert hl1); (try revert hl2); (try revert hl3); (try revert hl4); (try revert hn1)
      (try revert hn2); (try revert hn3); (try revert hn4); (try revert holds_succ); (try revert hp0); (try revert hpb); (try revert hpb1); (try revert hpv); (try revert hrel); (try revert hws); (try revert if_neg); (try revert if_pos); (try revert j); (try revert k); (try revert k0); (try revert k00); (try revert k01); (try revert k1); (try revert k10); (try revert k11); (try revert k12); (try revert k2); (try revert k20); (try revert k21); (try revert k22)
      (try revert k3); (try revert k4); (try revert l1); (try revert l2); (try revert manyE); (try revert manyR); (try revert mem_at); (try revert n); (try revert n1); (try revert n2); (try revert n3); (try revert n4); (try revert none_rg); (try revert nq); (try revert partsR); (try revert places); (try revert placesTo_all); (try revert placesTo_len); (try revert planV); (try revert q0); (try revert q1); (try revert q2); (try revert q3); (try revert q4); (try revert rename)
      (try revert ret_two); (try revert this); (try revert u0); (try revert u1); (try revert u10); (try revert u100); (try revert u101); (try revert u102); (try revert u103); (try revert u104); (try revert u105); (try revert u106); (try revert u107); (try revert u108); (try revert u109); (try revert u11); (try revert u110); (try revert u111); (try revert u112); (try revert u113); (try revert u114); (try revert u115); (try revert u116); (try revert u117); (try revert u118)
      (try revert u119); (try revert u12); (try revert u120); (try revert u121); (try revert u122); (try revert u123); (try revert u124); (try revert u125); (try revert u126); (try revert u127); (try revert u128); (try revert u129); (try revert u13); (try revert u130); (try revert u131); (try revert u132); (try revert u133); (try revert u134); (try revert u135); (try revert u136); (try revert u137); (try revert u138); (try revert u139); (try revert u14); (try revert u140)
      (try revert u141); (try revert u142); (try revert u143); (try revert u144); (try revert u145); (try revert u146); (try revert u147); (try revert u148); (try revert u149); (try revert u15); (try revert u150); (try revert u151); (try revert u152); (try revert u153); (try revert u154); (try revert u155); (try revert u156); (try revert u157); (try revert u158); (try revert u159); (try revert u16); (try revert u160); (try revert u161); (try revert u162); (try revert u163)
      (try revert u164); (try revert u165); (try revert u166); (try revert u167); (try revert u168); (try revert u169); (try revert u17); (try revert u170); (try revert u171); (try revert u172); (try revert u173); (try revert u174); (try revert u175); (try revert u176); (try revert u177); (try revert u178); (try revert u179); (try revert u18); (try revert u180); (try revert u181); (try revert u182); (try revert u183); (try revert u184); (try revert u185); (try revert u186)
      (try revert u187); (try revert u188); (try revert u189); (try revert u19); (try revert u190); (try revert u191); (try revert u192); (try revert u193); (try revert u194); (try revert u195); (try revert u196); (try revert u197); (try revert u198); (try revert u199); (try revert u2); (try revert u20); (try revert u200); (try revert u201); (try revert u202); (try revert u203); (try revert u204); (try revert u205); (try revert u206); (try revert u207); (try revert u208)
      (try revert u209); (try revert u21); (try revert u210); (try revert u211); (try revert u212); (try revert u213); (try revert u214); (try revert u215); (try revert u216); (try revert u217); (try revert u218); (try revert u219); (try revert u22); (try revert u220); (try revert u221); (try revert u222); (try revert u223); (try revert u224); (try revert u225); (try revert u226); (try revert u227); (try revert u228); (try revert u229); (try revert u23); (try revert u230)
      (try revert u231); (try revert u232); (try revert u233); (try revert u234); (try revert u235); (try revert u236); (try revert u237); (try revert u238); (try revert u239); (try revert u24); (try revert u240); (try revert u241); (try revert u242); (try revert u243); (try revert u244); (try revert u245); (try revert u246); (try revert u247); (try revert u248); (try revert u249); (try revert u25); (try revert u250); (try revert u251); (try revert u252); (try revert u253)
      (try revert u254); (try revert u255); (try revert u256); (try revert u257); (try revert u258); (try revert u259); (try revert u26); (try revert u260); (try revert u261); (try revert u262); (try revert u263); (try revert u264); (try revert u265); (try revert u266); (try revert u267); (try revert u268); (try revert u269); (try revert u27); (try revert u270); (try revert u271); (try revert u272); (try revert u273); (try revert u274); (try revert u275); (try revert u276)
      (try revert u277); (try revert u278); (try revert u279); (try revert u28); (try revert u280); (try revert u281); (try revert u282); (try revert u283); (try revert u284); (try revert u285); (try revert u286); (try revert u287); (try revert u288); (try revert u289); (try revert u29); (try revert u290); (try revert u291); (try revert u292); (try revert u293); (try revert u294); (try revert u295); (try revert u296); (try revert u297); (try revert u298); (try revert u299)
      (try revert u3); (try revert u30); (try revert u300); (try revert u301); (try revert u302); (try revert u303); (try revert u304); (try revert u305); (try revert u306); (try revert u307); (try revert u308); (try revert u309); (try revert u31); (try revert u310); (try revert u311); (try revert u312); (try revert u313); (try revert u314); (try revert u315); (try revert u316); (try revert u317); (try revert u318); (try revert u319); (try revert u32); (try revert u320)
      (try revert u321); (try revert u322); (try revert u323); (try revert u324); (try revert u325); (try revert u326); (try revert u327); (try revert u328); (try revert u329); (try revert u33); (try revert u330); (try revert u331); (try revert u332); (try revert u333); (try revert u334); (try revert u335); (try revert u336); (try revert u337); (try revert u338); (try revert u339); (try revert u34); (try revert u340); (try revert u341); (try revert u342); (try revert u343)
      (try revert u344); (try revert u345); (try revert u346); (try revert u347); (try revert u348); (try revert u349); (try revert u35); (try revert u350); (try revert u351); (try revert u352); (try revert u353); (try revert u354); (try revert u355); (try revert u356); (try revert u357); (try revert u358); (try revert u359); (try revert u36); (try revert u360); (try revert u361); (try revert u362); (try revert u363); (try revert u364); (try revert u365); (try revert u366)
      (try revert u367); (try revert u368); (try revert u369); (try revert u37); (try revert u370); (try revert u371); (try revert u372); (try revert u373); (try revert u374); (try revert u375); (try revert u376); (try revert u377); (try revert u378); (try revert u379); (try revert u38); (try revert u380); (try revert u381); (try revert u382); (try revert u383); (try revert u384); (try revert u385); (try revert u386); (try revert u387); (try revert u388); (try revert u389)
      (try revert u39); (try revert u390); (try revert u391); (try revert u392); (try revert u393); (try revert u394); (try revert u395); (try revert u396); (try revert u397); (try revert u398); (try revert u399); (try revert u4); (try revert u40); (try revert u400); (try revert u401); (try revert u402); (try revert u403); (try revert u404); (try revert u405); (try revert u406); (try revert u407); (try revert u408); (try revert u409); (try revert u41); (try revert u410)
      (try revert u411); (try revert u412); (try revert u413); (try revert u414); (try revert u415); (try revert u416); (try revert u417); (try revert u418); (try revert u419); (try revert u42); (try revert u420); (try revert u421); (try revert u422); (try revert u423); (try revert u424); (try revert u425); (try revert u426); (try revert u427); (try revert u428); (try revert u429); (try revert u43); (try revert u430); (try revert u431); (try revert u432); (try revert u433)
      (try revert u434); (try revert u435); (try revert u436); (try revert u437); (try revert u438); (try revert u439); (try revert u44); (try revert u440); (try revert u441); (try revert u442); (try revert u443); (try revert u444); (try revert u445); (try revert u446); (try revert u447); (try revert u448); (try revert u449); (try revert u45); (try revert u450); (try revert u451); (try revert u452); (try revert u453); (try revert u454); (try revert u455); (try revert u456)
      (try revert u457); (try revert u458); (try revert u459); (try revert u46); (try revert u460); (try revert u461); (try revert u462); (try revert u463); (try revert u464); (try revert u465); (try revert u466); (try revert u467); (try revert u468); (try revert u469); (try revert u47); (try revert u470); (try revert u471); (try revert u472); (try revert u473); (try revert u474); (try revert u475); (try revert u476); (try revert u477); (try revert u478); (try revert u479)
      (try revert u48); (try revert u480); (try revert u481); (try revert u482); (try revert u483); (try revert u484); (try revert u485); (try revert u486); (try revert u487); (try revert u488); (try revert u489); (try revert u49); (try revert u490); (try revert u491); (try revert u492); (try revert u493); (try revert u494); (try revert u495); (try revert u496); (try revert u497); (try revert u498); (try revert u499); (try revert u5); (try revert u50); (try revert u500)
      (try revert u501); (try revert u502); (try revert u503); (try revert u504); (try revert u505); (try revert u506); (try revert u507); (try revert u508); (try revert u509); (try revert u51); (try revert u510); (try revert u511); (try revert u512); (try revert u513); (try revert u514); (try revert u515); (try revert u516); (try revert u517); (try revert u518); (try revert u519); (try revert u52); (try revert u53); (try revert u54); (try revert u55); (try revert u56)
      (try revert u57); (try revert u58); (try revert u59); (try revert u6); (try revert u60); (try revert u61); (try revert u62); (try revert u63); (try revert u64); (try revert u65); (try revert u66); (try revert u67); (try revert u68); (try revert u69); (try revert u7); (try revert u70); (try revert u71); (try revert u72); (try revert u73); (try revert u74); (try revert u75); (try revert u76); (try revert u77); (try revert u78); (try revert u79)
      (try revert u8); (try revert u80); (try revert u81); (try revert u82); (try revert u83); (try revert u84); (try revert u85); (try revert u86); (try revert u87); (try revert u88); (try revert u89); (try revert u9); (try revert u90); (try revert u91); (try revert u92); (try revert u93); (try revert u94); (try revert u95); (try revert u96); (try revert u97); (try revert u98); (try revert u99); (try revert w); (try revert w'); (try revert w1)
      (try revert wc); (try revert wq); (try revert wr); (try revert ws); (try revert wx); (try revert wx1)
      repeat (rename_i zz; revert zz)
      exact HYPL2.out
    case rest =>
      try clear HYPL1
      try clear HYPL2
      obtain ⟨hj, hB⟩ := hcut
      have H5 := Lib.hid (none_order H4.out (by rw [← HN.out]; exact hj))
      have HB := Lib.hid hB
      clear hj hB
      go_upto_block 4 with fail
      go_cut [9] (fun _ wx => NoG P N ∧ Below wx1.heap.size wx1 wx)
      case first =>
        try clear HYPL1
        try clear HYPL2
        go_wp2_with fail
        go_loopw [9] (fun i wr => ∃ k : Nat, k ≤ N ∧ i = .int .i64 k ∧ NoG P k ∧ Below wx1.heap.size wx1 wr) (fun i _ => N - (intOf i).toNat)
        case atStart => exact ⟨0, Nat.zero_le _, rfl, fun j hj => by omega, HB.out⟩
        case round => 
          obtain ⟨k, hk, rfl, hj, hB⟩ := hrel
          have HG := Lib.hid hj
          have HBo := Lib.hid hB
          clear hj hB HB
          by_cases hlt : k < N
          · try clear HYPL1
            try clear HYPL2
            have hlw : k < (places P.2.1).length := by rw [← HN.out]; exact hlt
            obtain ⟨b, o, rfl⟩ := Arr.head HARR.out hlt
            obtain ⟨⟨y0, y1⟩, ⟨z0, z1⟩, ⟨t0, t1⟩, ⟨g0, g1⟩⟩ := plW_wf HO.out.wf.2.1 hlw
            have HWK := Lib.hid (plW_wf HO.out.wf.2.1 hlw)
            have HCK := Lib.hid (fun (W : World) (h : Below wx1.heap.size wx1 W) => plV_cells (Arr.keep HARR.out h) hlt)
            have HHIT := Lib.hid (fun (x : Int) (hx : besideE P (pl P.2.1 k) = x) (h0 : x ≠ 0) => hit_gang H5.out hlw HG.out hx h0)
            rw [← HR.out] at HHIT
            obtain ⟨⟨c, q⟩, hx⟩ : ∃ x, x = pl P.2.1 k := ⟨_, rfl⟩
            obtain ⟨⟨x0, x1, x2, x3⟩, hy⟩ : ∃ y, y = plW P.2.1 k := ⟨_, rfl⟩
            obtain ⟨at_, hat⟩ : ∃ at_ : Int, at_ = 256 * (c : Int) + (q : Int) := ⟨_, rfl⟩
            rw [← hx, ← hy] at HCK
            rw [← hx] at HHIT
            rw [← hy] at y0 y1 z0 z1 t0 t1 g0 g1 HWK
            dsimp only at HCK HHIT y0 y1 z0 z1 t0 t1 g0 g1
            rw [← hat] at HCK HHIT
            have HX := Lib.hid hx
            have HY := Lib.hid hy
            have HLW := Lib.hid hlw
            have i0 : (0 : Int) ≤ (k : Int) := Int.natCast_nonneg _
            have i1 : (k : Int) < (N : Int) := by omega
            clear hx hy hat hlw
            rename World => wo4
            go_upto_block 6 with fail
            go_cut [10] (fun _ wx => NoA P.2.1 k k ∧ Below wx1.heap.size wx1 wx)
            case first =>
             try clear HYPL1
             try clear HYPL2
             repeat (rename_i zz; revert zz)
             (try revert A); (try revert AllPost); (try revert Arr); (try revert Below); (try revert Calls); (try revert H1); (try revert H2); (try revert H3); (try revert H4); (try revert H5); (try revert HAL); (try revert HALL); (try revert HARR); (try revert HB); (try revert HB0); (try revert HB01); (try revert HB1); (try revert HBo); (try revert HC); (try revert HCK); (try revert HFE); (try revert HG); (try revert HHIT); (try revert HJ); (try revert HLW)
             (try revert HN); (try revert HN1); (try revert HN2); (try revert HN3); (try revert HN4); (try revert HNle); (try revert HNle'); (try revert HO); (try revert HP0); (try revert HP0c); (try revert HPB); (try revert HPB1); (try revert HPBc); (try revert HPL1); (try revert HR); (try revert HW0); (try revert HWK); (try revert HX); (try revert HY); (try revert Hid); (try revert Holds_); (try revert Int); (try revert L); (try revert Lib); (try revert N)
             (try revert Nat); (try revert NoA); (try revert NoG); (try revert NoP); (try revert P); (try revert PB); (try revert PlanAt); (try revert R); (try revert Tryd); (try revert W); (try revert W0); (try revert World); (try revert a1); (try revert a2); (try revert a3); (try revert a4); (try revert all_any); (try revert atStart); (try revert at_); (try revert at_rule); (try revert b); (try revert below_drewN); (try revert below_two); (try revert besideE); (try revert by_cases)
             (try revert c); (try revert c1); (try revert c2); (try revert c3); (try revert c4); (try revert cap); (try revert checkS); (try revert coresR); (try revert e); (try revert fail); (try revert fr); (try revert frameR); (try revert g0); (try revert g1); (try revert h); (try revert h0); (try revert h256); (try revert h8); (try revert hALL); (try revert hArr); (try revert hB); (try revert hB1); (try revert hBc); (try revert hH1); (try revert hH2)
             (try revert hH3); (try revert hH4); (try revert hHeld); (try revert hN); (try revert hNle); (try revert hO); (try revert hP); (try revert hR); (try revert hW0); (try revert hat); (try revert hb0); (try revert hc); (try revert hcut); (try revert hf0); (try revert hf00); (try revert hf01); (try revert hfe); (try revert hit_gang); (try revert hj); (try revert hk); (try revert hl1); (try revert hl2); (try revert hl3); (try revert hl4); (try revert hlt)
             (try revert hlw); (try revert hn1); (try revert hn2); (try revert hn3); (try revert hn4); (try revert holds_succ); (try revert hp0); (try revert hpb); (try revert hpb1); (try revert hpv); (try revert hrel); (try revert hws); (try revert hx); (try revert hy); (try revert i); (try revert i0); (try revert i1); (try revert if_neg); (try revert if_pos); (try revert intOf); (try revert j); (try revert k); (try revert k0); (try revert k00); (try revert k01)
             (try revert k1); (try revert k10); (try revert k11); (try revert k12); (try revert k2); (try revert k20); (try revert k21); (try revert k22); (try revert k3); (try revert k4); (try revert l1); (try revert l2); (try revert manyE); (try revert manyR); (try revert mem_at); (try revert n); (try revert n1); (try revert n2); (try revert n3); (try revert n4); (try revert none_order); (try revert none_rg); (try revert nq); (try revert o); (try revert partsR)
             (try revert pl); (try revert plV_cells); (try revert plW); (try revert plW_wf); (try revert places); (try revert placesTo_all); (try revert placesTo_len); (try revert planV); (try revert q); (try revert q0); (try revert q1); (try revert q2); (try revert q3); (try revert q4); (try revert rename); (try revert ret_two); (try revert round); (try revert t0); (try revert t1); (try revert this); (try revert u0); (try revert u1); (try revert u10); (try revert u100); (try revert u101)
             (try revert u102); (try revert u103); (try revert u104); (try revert u105); (try revert u106); (try revert u107); (try revert u108); (try revert u109); (try revert u11); (try revert u110); (try revert u111); (try revert u112); (try revert u113); (try revert u114); (try revert u115); (try revert u116); (try revert u117); (try revert u118); (try revert u119); (try revert u12); (try revert u120); (try revert u121); (try revert u122); (try revert u123); (try revert u124)
             (try revert u125); (try revert u126); (try revert u127); (try revert u128); (try revert u129); (try revert u13); (try revert u130); (try revert u131); (try revert u132); (try revert u133); (try revert u134); (try revert u135); (try revert u136); (try revert u137); (try revert u138); (try revert u139); (try revert u14); (try revert u140); (try revert u141); (try revert u142); (try revert u143); (try revert u144); (try revert u145); (try revert u146); (try revert u147)
             (try revert u148); (try revert u149); (try revert u15); (try revert u150); (try revert u151); (try revert u152); (try revert u153); (try revert u154); (try revert u155); (try revert u156); (try revert u157); (try revert u158); (try revert u159); (try revert u16); (try revert u160); (try revert u161); (try revert u162); (try revert u163); (try revert u164); (try revert u165); (try revert u166); (try revert u167); (try revert u168); (try revert u169); (try revert u17)
             (try revert u170); (try revert u171); (try revert u172); (try revert u173); (try revert u174); (try revert u175); (try revert u176); (try revert u177); (try revert u178); (try revert u179); (try revert u18); (try revert u180); (try revert u181); (try revert u182); (try revert u183); (try revert u184); (try revert u185); (try revert u186); (try revert u187); (try revert u188); (try revert u189); (try revert u19); (try revert u190); (try revert u191); (try revert u192)
             (try revert u193); (try revert u194); (try revert u195); (try revert u196); (try revert u197); (try revert u198); (try revert u199); (try revert u2); (try revert u20); (try revert u200); (try revert u201); (try revert u202); (try revert u203); (try revert u204); (try revert u205); (try revert u206); (try revert u207); (try revert u208); (try revert u209); (try revert u21); (try revert u210); (try revert u211); (try revert u212); (try revert u213); (try revert u214)
             (try revert u215); (try revert u216); (try revert u217); (try revert u218); (try revert u219); (try revert u22); (try revert u220); (try revert u221); (try revert u222); (try revert u223); (try revert u224); (try revert u225); (try revert u226); (try revert u227); (try revert u228); (try revert u229); (try revert u23); (try revert u230); (try revert u231); (try revert u232); (try revert u233); (try revert u234); (try revert u235); (try revert u236); (try revert u237)
             (try revert u238); (try revert u239); (try revert u24); (try revert u240); (try revert u241); (try revert u242); (try revert u243); (try revert u244); (try revert u245); (try revert u246); (try revert u247); (try revert u248); (try revert u249); (try revert u25); (try revert u250); (try revert u251); (try revert u252); (try revert u253); (try revert u254); (try revert u255); (try revert u256); (try revert u257); (try revert u258); (try revert u259); (try revert u26)
             (try revert u260); (try revert u261); (try revert u262); (try revert u263); (try revert u264); (try revert u265); (try revert u266); (try revert u267); (try revert u268); (try revert u269); (try revert u27); (try revert u270); (try revert u271); (try revert u272); (try revert u273); (try revert u274); (try revert u275); (try revert u276); (try revert u277); (try revert u278); (try revert u279); (try revert u28); (try revert u280); (try revert u281); (try revert u282)
             (try revert u283); (try revert u284); (try revert u285); (try revert u286); (try revert u287); (try revert u288); (try revert u289); (try revert u29); (try revert u290); (try revert u291); (try revert u292); (try revert u293); (try revert u294); (try revert u295); (try revert u296); (try revert u297); (try revert u298); (try revert u299); (try revert u3); (try revert u30); (try revert u300); (try revert u301); (try revert u302); (try revert u303); (try revert u304)
             (try revert u305); (try revert u306); (try revert u307); (try revert u308); (try revert u309); (try revert u31); (try revert u310); (try revert u311); (try revert u312); (try revert u313); (try revert u314); (try revert u315); (try revert u316); (try revert u317); (try revert u318); (try revert u319); (try revert u32); (try revert u320); (try revert u321); (try revert u322); (try revert u323); (try revert u324); (try revert u325); (try revert u326); (try revert u327)
             (try revert u328); (try revert u329); (try revert u33); (try revert u330); (try revert u331); (try revert u332); (try revert u333); (try revert u334); (try revert u335); (try revert u336); (try revert u337); (try revert u338); (try revert u339); (try revert u34); (try revert u340); (try revert u341); (try revert u342); (try revert u343); (try revert u344); (try revert u345); (try revert u346); (try revert u347); (try revert u348); (try revert u349); (try revert u35)
             (try revert u350); (try revert u351); (try revert u352); (try revert u353); (try revert u354); (try revert u355); (try revert u356); (try revert u357); (try revert u358); (try revert u359); (try revert u36); (try revert u360); (try revert u361); (try revert u362); (try revert u363); (try revert u364); (try revert u365); (try revert u366); (try revert u367); (try revert u368); (try revert u369); (try revert u37); (try revert u370); (try revert u371); (try revert u372)
             (try revert u373); (try revert u374); (try revert u375); (try revert u376); (try revert u377); (try revert u378); (try revert u379); (try revert u38); (try revert u380); (try revert u381); (try revert u382); (try revert u383); (try revert u384); (try revert u385); (try revert u386); (try revert u387); (try revert u388); (try revert u389); (try revert u39); (try revert u390); (try revert u391); (try revert u392); (try revert u393); (try revert u394); (try revert u395)
             (try revert u396); (try revert u397); (try revert u398); (try revert u399); (try revert u4); (try revert u40); (try revert u400); (try revert u401); (try revert u402); (try revert u403); (try revert u404); (try revert u405); (try revert u406); (try revert u407); (try revert u408); (try revert u409); (try revert u41); (try revert u410); (try revert u411); (try revert u412); (try revert u413); (try revert u414); (try revert u415); (try revert u416); (try revert u417)
             (try revert u418); (try revert u419); (try revert u42); (try revert u420); (try revert u421); (try revert u422); (try revert u423); (try revert u424); (try revert u425); (try revert u426); (try revert u427); (try revert u428); (try revert u429); (try revert u43); (try revert u430); (try revert u431); (try revert u432); (try revert u433); (try revert u434); (try revert u435); (try revert u436); (try revert u437); (try revert u438); (try revert u439); (try revert u44)
             (try revert u440); (try revert u441); (try revert u442); (try revert u443); (try revert u444); (try revert u445); (try revert u446); (try revert u447); (try revert u448); (try revert u449); (try revert u45); (try revert u450); (try revert u451); (try revert u452); (try revert u453); (try revert u454); (try revert u455); (try revert u456); (try revert u457); (try revert u458); (try revert u459); (try revert u46); (try revert u460); (try revert u461); (try revert u462)
             (try revert u463); (try revert u464); (try revert u465); (try revert u466); (try revert u467); (try revert u468); (try revert u469); (try revert u47); (try revert u470); (try revert u471); (try revert u472); (try revert u473); (try revert u474); (try revert u475); (try revert u476); (try revert u477); (try revert u478); (try revert u479); (try revert u48); (try revert u480); (try revert u481); (try revert u482); (try revert u483); (try revert u484); (try revert u485)
             (try revert u486); (try revert u487); (try revert u488); (try revert u489); (try revert u49); (try revert u490); (try revert u491); (try revert u492); (try revert u493); (try revert u494); (try revert u495); (try revert u496); (try revert u497); (try revert u498); (try revert u499); (try revert u5); (try revert u50); (try revert u500); (try revert u501); (try revert u502); (try revert u503); (try revert u504); (try revert u505); (try revert u506); (try revert u507)
             (try revert u508); (try revert u509); (try revert u51); (try revert u510); (try revert u511); (try revert u512); (try revert u513); (try revert u514); (try revert u515); (try revert u516); (try revert u517); (try revert u518); (try revert u519); (try revert u52); (try revert u53); (try revert u54); (try revert u55); (try revert u56); (try revert u57); (try revert u58); (try revert u59); (try revert u6); (try revert u60); (try revert u61); (try revert u62)
             (try revert u63); (try revert u64); (try revert u65); (try revert u66); (try revert u67); (try revert u68); (try revert u69); (try revert u7); (try revert u70); (try revert u71); (try revert u72); (try revert u73); (try revert u74); (try revert u75); (try revert u76); (try revert u77); (try revert u78); (try revert u79); (try revert u8); (try revert u80); (try revert u81); (try revert u82); (try revert u83); (try revert u84); (try revert u85)
             (try revert u86); (try revert u87); (try revert u88); (try revert u89); (try revert u9); (try revert u90); (try revert u91); (try revert u92); (try revert u93); (try revert u94); (try revert u95); (try revert u96); (try revert u97); (try revert u98); (try revert u99); (try revert w); (try revert w'); (try revert w1); (try revert wc); (try revert wo4); (try revert wq); (try revert wr); (try revert ws); (try revert wx); (try revert wx1)
             (try revert x); (try revert x0); (try revert x1); (try revert x2); (try revert x3); (try revert y); (try revert y0); (try revert y1); (try revert z0); (try revert z1)
             repeat (rename_i zz; revert zz)
             exact HYPL3A.out
            case rest =>
              try clear HYPL1
              try clear HYPL2
              try clear HYPL3A
              obtain ⟨hna, hBa⟩ := hcut
              have HNA := Lib.hid hna
              have HBa := Lib.hid hBa
              clear hna hBa
              rename World => wo5
              go_wp2_with fail
              go_loopw [11] (fun i wr => ∃ l : Nat, k < l ∧ l ≤ N ∧ i = .int .i64 l ∧ NoB P.2.1 k l ∧ Below wx1.heap.size wx1 wr) (fun i _ => N - (intOf i).toNat)
              case atStart => exact ⟨k + 1, by omega, by omega, by go_num, fun j h1 h2 => by omega, HBa.out⟩
              case round =>
                try clear HYPL1
                try clear HYPL2
                try clear HYPL3A
                obtain ⟨l, hkl, hl, rfl, hj, hB⟩ := hrel
                have HNB := Lib.hid hj
                have HBl := Lib.hid hB
                obtain ⟨c0, c1, c2, c3, c4, c5⟩ := HCK.out _ hB
                clear hj hB
                by_cases hlt3 : l < N
                · try clear HYPL1
                  try clear HYPL2
                  try clear HYPL3A
                  have hlw3 : l < (places P.2.1).length := by rw [← HN.out]; exact hlt3
                  obtain ⟨d0, -, d2, d3, d4, d5⟩ := plV_cells (Arr.keep HARR.out HBl.out) hlt3
                  have hwv := plW_wf HO.out.wf.2.1 hlw3
                  have HSN := Lib.hid (fun hx => HNB.out.snoc (k := l) hx)
                  have HHL := Lib.hid (fun (x : Int) (hs : (pl P.2.1 l).1 ≠ (pl P.2.1 k).1) (hg : twoE (plW P.2.1 k) (plW P.2.1 l) = x) (h0 : x ≠ 0) => HHIT.out x (by rw [HX.out]; exact (beside_two hlw3 hkl HNA.out HNB.out hs (by rw [hg]; exact h0)).trans hg) h0)
                  obtain ⟨⟨c', q'⟩, hx'⟩ : ∃ x, x = pl P.2.1 l := ⟨_, rfl⟩
                  obtain ⟨⟨v0, v1, v2, v3⟩, hy'⟩ : ∃ y, y = plW P.2.1 l := ⟨_, rfl⟩
                  rw [← hx'] at d0
                  rw [← hy'] at d2 d3 d4 d5 hwv
                  rw [← hx', ← hy', ← HX.out, ← HY.out] at HHL HSN
                  dsimp only at d0 d2 d3 d4 d5 HHL HSN
                  have HTG := Lib.hid (fun W => refTogether_any (v0, v1, v2, v3) (x0, x1, x2, x3) W)
                  have HOV := Lib.hid (fun W => refOverlap_any (v0, v1, v2, v3) (x0, x1, x2, x3) W hwv HWK.out)
                  simp only [wv] at HTG HOV
                  have i2 : (0 : Int) ≤ (l : Int) := Int.natCast_nonneg _
                  have i3 : (l : Int) < (N : Int) := by omega
                  clear hx' hy' HNB hlw3 hwv
                  rename World => wo6
                  go_wp2_with fail
                  have hal : ∀ o1 o2, Below wo6.heap.size wo6 ((wo6.alloc o1).alloc o2) := fun o1 o2 => ((Below.refl _ _).alloc (Nat.le_refl _) _).alloc (by simp) _
                  have hal1 : ∀ o1, Below wo6.heap.size wo6 (wo6.alloc o1) := fun o1 => (Below.refl _ _).alloc (Nat.le_refl _) _
                  have C2 := fun o1 o2 => kept c2 (hal o1 o2)
                  have C3 := fun o1 o2 => kept c3 (hal o1 o2)
                  have C4 := fun o1 o2 => kept c4 (hal o1 o2)
                  have C5 := fun o1 o2 => kept c5 (hal o1 o2)
                  have D2 := fun o1 o2 => kept d2 (hal o1 o2)
                  have D3 := fun o1 o2 => kept d3 (hal o1 o2)
                  have D4 := fun o1 o2 => kept d4 (hal o1 o2)
                  have D5 := fun o1 o2 => kept d5 (hal o1 o2)
                  have C12 := fun o1 => kept c2 (hal1 o1)
                  have C13 := fun o1 => kept c3 (hal1 o1)
                  have C14 := fun o1 => kept c4 (hal1 o1)
                  have C15 := fun o1 => kept c5 (hal1 o1)
                  have D12 := fun o1 => kept d2 (hal1 o1)
                  have D13 := fun o1 => kept d3 (hal1 o1)
                  have D14 := fun o1 => kept d4 (hal1 o1)
                  have D15 := fun o1 => kept d5 (hal1 o1)
                  clear hal hal1
                  go_cut [12, 13] (fun p v wx => ∃ bv bw : Nat, p = .pointer (some ⟨bv, 0, none⟩) ∧ v = .pointer (some ⟨bw, 0, none⟩) ∧ WB wx bv (v0, v1, v2, v3) ∧ WB wx bw (x0, x1, x2, x3) ∧ Below wo6.heap.size wo6 wx)
                  case first =>
                    try clear HYPL1
                    try clear HYPL2
                    try clear HYPL3A
                    repeat (rename_i zz; revert zz)
                    (try revert A); (try revert AllPost); (try revert Arr); (try revert Below); (try revert C12); (try revert C13); (try revert C14); (try revert C15); (try revert C2); (try revert C3); (try revert C4); (try revert C5); (try revert Calls); (try revert D12); (try revert D13); (try revert D14); (try revert D15); (try revert D2); (try revert D3); (try revert D4); (try revert D5); (try revert H1); (try revert H2); (try revert H3); (try revert H4)
                    (try revert H5); (try revert HAL); (try revert HALL); (try revert HARR); (try revert HB); (try revert HB0); (try revert HB01); (try revert HB1); (try revert HBa); (try revert HBl); (try revert HBo); (try revert HC); (try revert HCK); (try revert HFE); (try revert HG); (try revert HHIT); (try revert HHL); (try revert HJ); (try revert HLW); (try revert HN); (try revert HN1); (try revert HN2); (try revert HN3); (try revert HN4); (try revert HNA)
                    (try revert HNB); (try revert HNle); (try revert HNle'); (try revert HO); (try revert HOV); (try revert HP0); (try revert HP0c); (try revert HPB); (try revert HPB1); (try revert HPBc); (try revert HPL1); (try revert HR); (try revert HSN); (try revert HTG); (try revert HW0); (try revert HWK); (try revert HX); (try revert HY); (try revert Hid); (try revert Holds_); (try revert Int); (try revert L); (try revert Lib); (try revert N); (try revert Nat)
                    (try revert NoA); (try revert NoB); (try revert NoG); (try revert NoP); (try revert P); (try revert PB); (try revert PlanAt); (try revert R); (try revert Tryd); (try revert W); (try revert W0); (try revert WB); (try revert World); (try revert a1); (try revert a2); (try revert a3); (try revert a4); (try revert all_any); (try revert atStart); (try revert at_); (try revert at_rule); (try revert b); (try revert below_drewN); (try revert below_two); (try revert besideE)
                    (try revert beside_two); (try revert bv); (try revert bw); (try revert by_cases); (try revert c); (try revert c'); (try revert c0); (try revert c1); (try revert c2); (try revert c3); (try revert c4); (try revert c5); (try revert cap); (try revert checkS); (try revert coresR); (try revert d0); (try revert d2); (try revert d3); (try revert d4); (try revert d5); (try revert e); (try revert fail); (try revert fr); (try revert frameR); (try revert g0)
                    (try revert g1); (try revert h); (try revert h0); (try revert h1); (try revert h2); (try revert h256); (try revert h8); (try revert hALL); (try revert hArr); (try revert hB); (try revert hB1); (try revert hBa); (try revert hBc); (try revert hH1); (try revert hH2); (try revert hH3); (try revert hH4); (try revert hHeld); (try revert hN); (try revert hNle); (try revert hO); (try revert hP); (try revert hR); (try revert hW0); (try revert hal)
                    (try revert hal1); (try revert hat); (try revert hb0); (try revert hc); (try revert hcut); (try revert hf0); (try revert hf00); (try revert hf01); (try revert hfe); (try revert hg); (try revert hit_gang); (try revert hj); (try revert hk); (try revert hkl); (try revert hl); (try revert hl1); (try revert hl2); (try revert hl3); (try revert hl4); (try revert hlt); (try revert hlt3); (try revert hlw); (try revert hlw3); (try revert hn1); (try revert hn2)
                    (try revert hn3); (try revert hn4); (try revert hna); (try revert holds_succ); (try revert hp0); (try revert hpb); (try revert hpb1); (try revert hpv); (try revert hrel); (try revert hs); (try revert hws); (try revert hwv); (try revert hx); (try revert hx'); (try revert hy); (try revert hy'); (try revert i); (try revert i0); (try revert i1); (try revert i2); (try revert i3); (try revert if_neg); (try revert if_pos); (try revert intOf); (try revert j)
                    (try revert k); (try revert k0); (try revert k00); (try revert k01); (try revert k1); (try revert k10); (try revert k11); (try revert k12); (try revert k2); (try revert k20); (try revert k21); (try revert k22); (try revert k3); (try revert k4); (try revert kept); (try revert l); (try revert l1); (try revert l2); (try revert manyE); (try revert manyR); (try revert mem_at); (try revert n); (try revert n1); (try revert n2); (try revert n3)
                    (try revert n4); (try revert none); (try revert none_order); (try revert none_rg); (try revert nq); (try revert o); (try revert o1); (try revert o2); (try revert p); (try revert partsR); (try revert pl); (try revert plV_cells); (try revert plW); (try revert plW_wf); (try revert places); (try revert placesTo_all); (try revert placesTo_len); (try revert planV); (try revert q); (try revert q'); (try revert q0); (try revert q1); (try revert q2); (try revert q3); (try revert q4)
                    (try revert refOverlap_any); (try revert refTogether_any); (try revert rename); (try revert ret_two); (try revert round); (try revert some); (try revert t0); (try revert t1); (try revert this); (try revert twoE); (try revert u0); (try revert u1); (try revert u10); (try revert u100); (try revert u101); (try revert u102); (try revert u103); (try revert u104); (try revert u105); (try revert u106); (try revert u107); (try revert u108); (try revert u109); (try revert u11); (try revert u110)
                    (try revert u111); (try revert u112); (try revert u113); (try revert u114); (try revert u115); (try revert u116); (try revert u117); (try revert u118); (try revert u119); (try revert u12); (try revert u120); (try revert u121); (try revert u122); (try revert u123); (try revert u124); (try revert u125); (try revert u126); (try revert u127); (try revert u128); (try revert u129); (try revert u13); (try revert u130); (try revert u131); (try revert u132); (try revert u133)
                    (try revert u134); (try revert u135); (try revert u136); (try revert u137); (try revert u138); (try revert u139); (try revert u14); (try revert u140); (try revert u141); (try revert u142); (try revert u143); (try revert u144); (try revert u145); (try revert u146); (try revert u147); (try revert u148); (try revert u149); (try revert u15); (try revert u150); (try revert u151); (try revert u152); (try revert u153); (try revert u154); (try revert u155); (try revert u156)
                    (try revert u157); (try revert u158); (try revert u159); (try revert u16); (try revert u160); (try revert u161); (try revert u162); (try revert u163); (try revert u164); (try revert u165); (try revert u166); (try revert u167); (try revert u168); (try revert u169); (try revert u17); (try revert u170); (try revert u171); (try revert u172); (try revert u173); (try revert u174); (try revert u175); (try revert u176); (try revert u177); (try revert u178); (try revert u179)
                    (try revert u18); (try revert u180); (try revert u181); (try revert u182); (try revert u183); (try revert u184); (try revert u185); (try revert u186); (try revert u187); (try revert u188); (try revert u189); (try revert u19); (try revert u190); (try revert u191); (try revert u192); (try revert u193); (try revert u194); (try revert u195); (try revert u196); (try revert u197); (try revert u198); (try revert u199); (try revert u2); (try revert u20); (try revert u200)
                    (try revert u201); (try revert u202); (try revert u203); (try revert u204); (try revert u205); (try revert u206); (try revert u207); (try revert u208); (try revert u209); (try revert u21); (try revert u210); (try revert u211); (try revert u212); (try revert u213); (try revert u214); (try revert u215); (try revert u216); (try revert u217); (try revert u218); (try revert u219); (try revert u22); (try revert u220); (try revert u221); (try revert u222); (try revert u223)
                    (try revert u224); (try revert u225); (try revert u226); (try revert u227); (try revert u228); (try revert u229); (try revert u23); (try revert u230); (try revert u231); (try revert u232); (try revert u233); (try revert u234); (try revert u235); (try revert u236); (try revert u237); (try revert u238); (try revert u239); (try revert u24); (try revert u240); (try revert u241); (try revert u242); (try revert u243); (try revert u244); (try revert u245); (try revert u246)
                    (try revert u247); (try revert u248); (try revert u249); (try revert u25); (try revert u250); (try revert u251); (try revert u252); (try revert u253); (try revert u254); (try revert u255); (try revert u256); (try revert u257); (try revert u258); (try revert u259); (try revert u26); (try revert u260); (try revert u261); (try revert u262); (try revert u263); (try revert u264); (try revert u265); (try revert u266); (try revert u267); (try revert u268); (try revert u269)
                    (try revert u27); (try revert u270); (try revert u271); (try revert u272); (try revert u273); (try revert u274); (try revert u275); (try revert u276); (try revert u277); (try revert u278); (try revert u279); (try revert u28); (try revert u280); (try revert u281); (try revert u282); (try revert u283); (try revert u284); (try revert u285); (try revert u286); (try revert u287); (try revert u288); (try revert u289); (try revert u29); (try revert u290); (try revert u291)
                    (try revert u292); (try revert u293); (try revert u294); (try revert u295); (try revert u296); (try revert u297); (try revert u298); (try revert u299); (try revert u3); (try revert u30); (try revert u300); (try revert u301); (try revert u302); (try revert u303); (try revert u304); (try revert u305); (try revert u306); (try revert u307); (try revert u308); (try revert u309); (try revert u31); (try revert u310); (try revert u311); (try revert u312); (try revert u313)
                    (try revert u314); (try revert u315); (try revert u316); (try revert u317); (try revert u318); (try revert u319); (try revert u32); (try revert u320); (try revert u321); (try revert u322); (try revert u323); (try revert u324); (try revert u325); (try revert u326); (try revert u327); (try revert u328); (try revert u329); (try revert u33); (try revert u330); (try revert u331); (try revert u332); (try revert u333); (try revert u334); (try revert u335); (try revert u336)
                    (try revert u337); (try revert u338); (try revert u339); (try revert u34); (try revert u340); (try revert u341); (try revert u342); (try revert u343); (try revert u344); (try revert u345); (try revert u346); (try revert u347); (try revert u348); (try revert u349); (try revert u35); (try revert u350); (try revert u351); (try revert u352); (try revert u353); (try revert u354); (try revert u355); (try revert u356); (try revert u357); (try revert u358); (try revert u359)
                    (try revert u36); (try revert u360); (try revert u361); (try revert u362); (try revert u363); (try revert u364); (try revert u365); (try revert u366); (try revert u367); (try revert u368); (try revert u369); (try revert u37); (try revert u370); (try revert u371); (try revert u372); (try revert u373); (try revert u374); (try revert u375); (try revert u376); (try revert u377); (try revert u378); (try revert u379); (try revert u38); (try revert u380); (try revert u381)
                    (try revert u382); (try revert u383); (try revert u384); (try revert u385); (try revert u386); (try revert u387); (try revert u388); (try revert u389); (try revert u39); (try revert u390); (try revert u391); (try revert u392); (try revert u393); (try revert u394); (try revert u395); (try revert u396); (try revert u397); (try revert u398); (try revert u399); (try revert u4); (try revert u40); (try revert u400); (try revert u401); (try revert u402); (try revert u403)
                    (try revert u404); (try revert u405); (try revert u406); (try revert u407); (try revert u408); (try revert u409); (try revert u41); (try revert u410); (try revert u411); (try revert u412); (try revert u413); (try revert u414); (try revert u415); (try revert u416); (try revert u417); (try revert u418); (try revert u419); (try revert u42); (try revert u420); (try revert u421); (try revert u422); (try revert u423); (try revert u424); (try revert u425); (try revert u426)
                    (try revert u427); (try revert u428); (try revert u429); (try revert u43); (try revert u430); (try revert u431); (try revert u432); (try revert u433); (try revert u434); (try revert u435); (try revert u436); (try revert u437); (try revert u438); (try revert u439); (try revert u44); (try revert u440); (try revert u441); (try revert u442); (try revert u443); (try revert u444); (try revert u445); (try revert u446); (try revert u447); (try revert u448); (try revert u449)
                    (try revert u45); (try revert u450); (try revert u451); (try revert u452); (try revert u453); (try revert u454); (try revert u455); (try revert u456); (try revert u457); (try revert u458); (try revert u459); (try revert u46); (try revert u460); (try revert u461); (try revert u462); (try revert u463); (try revert u464); (try revert u465); (try revert u466); (try revert u467); (try revert u468); (try revert u469); (try revert u47); (try revert u470); (try revert u471)
                    (try revert u472); (try revert u473); (try revert u474); (try revert u475); (try revert u476); (try revert u477); (try revert u478); (try revert u479); (try revert u48); (try revert u480); (try revert u481); (try revert u482); (try revert u483); (try revert u484); (try revert u485); (try revert u486); (try revert u487); (try revert u488); (try revert u489); (try revert u49); (try revert u490); (try revert u491); (try revert u492); (try revert u493); (try revert u494)
                    (try revert u495); (try revert u496); (try revert u497); (try revert u498); (try revert u499); (try revert u5); (try revert u50); (try revert u500); (try revert u501); (try revert u502); (try revert u503); (try revert u504); (try revert u505); (try revert u506); (try revert u507); (try revert u508); (try revert u509); (try revert u51); (try revert u510); (try revert u511); (try revert u512); (try revert u513); (try revert u514); (try revert u515); (try revert u516)
                    (try revert u517); (try revert u518); (try revert u519); (try revert u52); (try revert u53); (try revert u54); (try revert u55); (try revert u56); (try revert u57); (try revert u58); (try revert u59); (try revert u6); (try revert u60); (try revert u61); (try revert u62); (try revert u63); (try revert u64); (try revert u65); (try revert u66); (try revert u67); (try revert u68); (try revert u69); (try revert u7); (try revert u70); (try revert u71)
                    (try revert u72); (try revert u73); (try revert u74); (try revert u75); (try revert u76); (try revert u77); (try revert u78); (try revert u79); (try revert u8); (try revert u80); (try revert u81); (try revert u82); (try revert u83); (try revert u84); (try revert u85); (try revert u86); (try revert u87); (try revert u88); (try revert u89); (try revert u9); (try revert u90); (try revert u91); (try revert u92); (try revert u93); (try revert u94)
                    (try revert u95); (try revert u96); (try revert u97); (try revert u98); (try revert u99); (try revert v); (try revert v0); (try revert v1); (try revert v2); (try revert v3); (try revert w); (try revert w'); (try revert w1); (try revert wc); (try revert wo4); (try revert wo5); (try revert wo6); (try revert wq); (try revert wr); (try revert ws); (try revert wv); (try revert wx); (try revert wx1); (try revert x); (try revert x0)
                    (try revert x1); (try revert x2); (try revert x3); (try revert y); (try revert y0); (try revert y1); (try revert z0); (try revert z1)
                    repeat (rename_i zz; revert zz)
                    exact HYPL3B.out
                  case rest =>
                    try clear HYPL1
                    try clear HYPL2
                    try clear HYPL3A
                    try clear HYPL3B
                    obtain ⟨bv, bw, rfl, rfl, hv, hw, hBc⟩ := hcut
                    have HBc := Lib.hid (below_two HBl.out hBc)
                    replace c0 := kept c0 hBc
                    replace c1 := kept c1 hBc
                    replace d0 := kept d0 hBc
                    obtain ⟨p0, p1, p2, p3⟩ := hv
                    obtain ⟨q0, q1, q2, q3⟩ := hw
                    dsimp only at p0 p1 p2 p3 q0 q1 q2 q3
                    clear hBc C2 C3 C4 C5 D2 D3 D4 D5 C12 C13 C14 C15 D12 D13 D14 D15 c2 c3 c4 c5 d2 d3 d4 d5
                    by_cases hcc : c' = c
                    · try clear HYPL1
                      try clear HYPL2
                      try clear HYPL3A
                      try clear HYPL3B
                      skip
                      repeat (rename_i zz; revert zz)
                      (try revert A); (try revert AllPost); (try revert Arr); (try revert Below); (try revert C12); (try revert C13); (try revert C14); (try revert C15); (try revert C2); (try revert C3); (try revert C4); (try revert C5); (try revert Calls); (try revert D12); (try revert D13); (try revert D14); (try revert D15); (try revert D2); (try revert D3); (try revert D4); (try revert D5); (try revert H1); (try revert H2); (try revert H3); (try revert H4)
                      (try revert H5); (try revert HAL); (try revert HALL); (try revert HARR); (try revert HB); (try revert HB0); (try revert HB01); (try revert HB1); (try revert HBa); (try revert HBc); (try revert HBl); (try revert HBo); (try revert HC); (try revert HCK); (try revert HFE); (try revert HG); (try revert HHIT); (try revert HHL); (try revert HJ); (try revert HLW); (try revert HN); (try revert HN1); (try revert HN2); (try revert HN3); (try revert HN4)
                      (try revert HNA); (try revert HNB); (try revert HNle); (try revert HNle'); (try revert HO); (try revert HOV); (try revert HP0); (try revert HP0c); (try revert HPB); (try revert HPB1); (try revert HPBc); (try revert HPL1); (try revert HR); (try revert HSN); (try revert HTG); (try revert HW0); (try revert HWK); (try revert HX); (try revert HY); (try revert Hid); (try revert Holds_); (try revert Int); (try revert L); (try revert Lib); (try revert N)
                      (try revert Nat); (try revert NoA); (try revert NoB); (try revert NoG); (try revert NoP); (try revert P); (try revert PB); (try revert PlanAt); (try revert R); (try revert Tryd); (try revert W); (try revert W0); (try revert WB); (try revert World); (try revert a1); (try revert a2); (try revert a3); (try revert a4); (try revert all_any); (try revert atStart); (try revert at_); (try revert at_rule); (try revert b); (try revert below_drewN); (try revert below_two)
                      (try revert besideE); (try revert beside_two); (try revert bv); (try revert bw); (try revert by_cases); (try revert c); (try revert c'); (try revert c0); (try revert c1); (try revert c2); (try revert c3); (try revert c4); (try revert c5); (try revert cap); (try revert checkS); (try revert coresR); (try revert d0); (try revert d2); (try revert d3); (try revert d4); (try revert d5); (try revert e); (try revert fail); (try revert fr); (try revert frameR)
                      (try revert g0); (try revert g1); (try revert h); (try revert h0); (try revert h1); (try revert h2); (try revert h256); (try revert h8); (try revert hALL); (try revert hArr); (try revert hB); (try revert hB1); (try revert hBa); (try revert hBc); (try revert hH1); (try revert hH2); (try revert hH3); (try revert hH4); (try revert hHeld); (try revert hN); (try revert hNle); (try revert hO); (try revert hP); (try revert hR); (try revert hW0)
                      (try revert hal); (try revert hal1); (try revert hat); (try revert hb0); (try revert hc); (try revert hcc); (try revert hcut); (try revert hf0); (try revert hf00); (try revert hf01); (try revert hfe); (try revert hg); (try revert hit_gang); (try revert hj); (try revert hk); (try revert hkl); (try revert hl); (try revert hl1); (try revert hl2); (try revert hl3); (try revert hl4); (try revert hlt); (try revert hlt3); (try revert hlw); (try revert hlw3)
                      (try revert hn1); (try revert hn2); (try revert hn3); (try revert hn4); (try revert hna); (try revert holds_succ); (try revert hp0); (try revert hpb); (try revert hpb1); (try revert hpv); (try revert hrel); (try revert hs); (try revert hv); (try revert hw); (try revert hws); (try revert hwv); (try revert hx); (try revert hx'); (try revert hy); (try revert hy'); (try revert i); (try revert i0); (try revert i1); (try revert i2); (try revert i3)
                      (try revert if_neg); (try revert if_pos); (try revert intOf); (try revert j); (try revert k); (try revert k0); (try revert k00); (try revert k01); (try revert k1); (try revert k10); (try revert k11); (try revert k12); (try revert k2); (try revert k20); (try revert k21); (try revert k22); (try revert k3); (try revert k4); (try revert kept); (try revert l); (try revert l1); (try revert l2); (try revert manyE); (try revert manyR); (try revert mem_at)
                      (try revert n); (try revert n1); (try revert n2); (try revert n3); (try revert n4); (try revert none); (try revert none_order); (try revert none_rg); (try revert nq); (try revert o); (try revert o1); (try revert o2); (try revert p); (try revert p0); (try revert p1); (try revert p2); (try revert p3); (try revert partsR); (try revert pl); (try revert plV_cells); (try revert plW); (try revert plW_wf); (try revert places); (try revert placesTo_all); (try revert placesTo_len)
                      (try revert planV); (try revert q); (try revert q'); (try revert q0); (try revert q1); (try revert q2); (try revert q3); (try revert q4); (try revert refOverlap_any); (try revert refTogether_any); (try revert rename); (try revert ret_two); (try revert round); (try revert some); (try revert t0); (try revert t1); (try revert this); (try revert twoE); (try revert u0); (try revert u1); (try revert u10); (try revert u100); (try revert u101); (try revert u102); (try revert u103)
                      (try revert u104); (try revert u105); (try revert u106); (try revert u107); (try revert u108); (try revert u109); (try revert u11); (try revert u110); (try revert u111); (try revert u112); (try revert u113); (try revert u114); (try revert u115); (try revert u116); (try revert u117); (try revert u118); (try revert u119); (try revert u12); (try revert u120); (try revert u121); (try revert u122); (try revert u123); (try revert u124); (try revert u125); (try revert u126)
                      (try revert u127); (try revert u128); (try revert u129); (try revert u13); (try revert u130); (try revert u131); (try revert u132); (try revert u133); (try revert u134); (try revert u135); (try revert u136); (try revert u137); (try revert u138); (try revert u139); (try revert u14); (try revert u140); (try revert u141); (try revert u142); (try revert u143); (try revert u144); (try revert u145); (try revert u146); (try revert u147); (try revert u148); (try revert u149)
                      (try revert u15); (try revert u150); (try revert u151); (try revert u152); (try revert u153); (try revert u154); (try revert u155); (try revert u156); (try revert u157); (try revert u158); (try revert u159); (try revert u16); (try revert u160); (try revert u161); (try revert u162); (try revert u163); (try revert u164); (try revert u165); (try revert u166); (try revert u167); (try revert u168); (try revert u169); (try revert u17); (try revert u170); (try revert u171)
                      (try revert u172); (try revert u173); (try revert u174); (try revert u175); (try revert u176); (try revert u177); (try revert u178); (try revert u179); (try revert u18); (try revert u180); (try revert u181); (try revert u182); (try revert u183); (try revert u184); (try revert u185); (try revert u186); (try revert u187); (try revert u188); (try revert u189); (try revert u19); (try revert u190); (try revert u191); (try revert u192); (try revert u193); (try revert u194)
                      (try revert u195); (try revert u196); (try revert u197); (try revert u198); (try revert u199); (try revert u2); (try revert u20); (try revert u200); (try revert u201); (try revert u202); (try revert u203); (try revert u204); (try revert u205); (try revert u206); (try revert u207); (try revert u208); (try revert u209); (try revert u21); (try revert u210); (try revert u211); (try revert u212); (try revert u213); (try revert u214); (try revert u215); (try revert u216)
                      (try revert u217); (try revert u218); (try revert u219); (try revert u22); (try revert u220); (try revert u221); (try revert u222); (try revert u223); (try revert u224); (try revert u225); (try revert u226); (try revert u227); (try revert u228); (try revert u229); (try revert u23); (try revert u230); (try revert u231); (try revert u232); (try revert u233); (try revert u234); (try revert u235); (try revert u236); (try revert u237); (try revert u238); (try revert u239)
                      (try revert u24); (try revert u240); (try revert u241); (try revert u242); (try revert u243); (try revert u244); (try revert u245); (try revert u246); (try revert u247); (try revert u248); (try revert u249); (try revert u25); (try revert u250); (try revert u251); (try revert u252); (try revert u253); (try revert u254); (try revert u255); (try revert u256); (try revert u257); (try revert u258); (try revert u259); (try revert u26); (try revert u260); (try revert u261)
                      (try revert u262); (try revert u263); (try revert u264); (try revert u265); (try revert u266); (try revert u267); (try revert u268); (try revert u269); (try revert u27); (try revert u270); (try revert u271); (try revert u272); (try revert u273); (try revert u274); (try revert u275); (try revert u276); (try revert u277); (try revert u278); (try revert u279); (try revert u28); (try revert u280); (try revert u281); (try revert u282); (try revert u283); (try revert u284)
                      (try revert u285); (try revert u286); (try revert u287); (try revert u288); (try revert u289); (try revert u29); (try revert u290); (try revert u291); (try revert u292); (try revert u293); (try revert u294); (try revert u295); (try revert u296); (try revert u297); (try revert u298); (try revert u299); (try revert u3); (try revert u30); (try revert u300); (try revert u301); (try revert u302); (try revert u303); (try revert u304); (try revert u305); (try revert u306)
                      (try revert u307); (try revert u308); (try revert u309); (try revert u31); (try revert u310); (try revert u311); (try revert u312); (try revert u313); (try revert u314); (try revert u315); (try revert u316); (try revert u317); (try revert u318); (try revert u319); (try revert u32); (try revert u320); (try revert u321); (try revert u322); (try revert u323); (try revert u324); (try revert u325); (try revert u326); (try revert u327); (try revert u328); (try revert u329)
                      (try revert u33); (try revert u330); (try revert u331); (try revert u332); (try revert u333); (try revert u334); (try revert u335); (try revert u336); (try revert u337); (try revert u338); (try revert u339); (try revert u34); (try revert u340); (try revert u341); (try revert u342); (try revert u343); (try revert u344); (try revert u345); (try revert u346); (try revert u347); (try revert u348); (try revert u349); (try revert u35); (try revert u350); (try revert u351)
                      (try revert u352); (try revert u353); (try revert u354); (try revert u355); (try revert u356); (try revert u357); (try revert u358); (try revert u359); (try revert u36); (try revert u360); (try revert u361); (try revert u362); (try revert u363); (try revert u364); (try revert u365); (try revert u366); (try revert u367); (try revert u368); (try revert u369); (try revert u37); (try revert u370); (try revert u371); (try revert u372); (try revert u373); (try revert u374)
                      (try revert u375); (try revert u376); (try revert u377); (try revert u378); (try revert u379); (try revert u38); (try revert u380); (try revert u381); (try revert u382); (try revert u383); (try revert u384); (try revert u385); (try revert u386); (try revert u387); (try revert u388); (try revert u389); (try revert u39); (try revert u390); (try revert u391); (try revert u392); (try revert u393); (try revert u394); (try revert u395); (try revert u396); (try revert u397)
                      (try revert u398); (try revert u399); (try revert u4); (try revert u40); (try revert u400); (try revert u401); (try revert u402); (try revert u403); (try revert u404); (try revert u405); (try revert u406); (try revert u407); (try revert u408); (try revert u409); (try revert u41); (try revert u410); (try revert u411); (try revert u412); (try revert u413); (try revert u414); (try revert u415); (try revert u416); (try revert u417); (try revert u418); (try revert u419)
                      (try revert u42); (try revert u420); (try revert u421); (try revert u422); (try revert u423); (try revert u424); (try revert u425); (try revert u426); (try revert u427); (try revert u428); (try revert u429); (try revert u43); (try revert u430); (try revert u431); (try revert u432); (try revert u433); (try revert u434); (try revert u435); (try revert u436); (try revert u437); (try revert u438); (try revert u439); (try revert u44); (try revert u440); (try revert u441)
                      (try revert u442); (try revert u443); (try revert u444); (try revert u445); (try revert u446); (try revert u447); (try revert u448); (try revert u449); (try revert u45); (try revert u450); (try revert u451); (try revert u452); (try revert u453); (try revert u454); (try revert u455); (try revert u456); (try revert u457); (try revert u458); (try revert u459); (try revert u46); (try revert u460); (try revert u461); (try revert u462); (try revert u463); (try revert u464)
                      (try revert u465); (try revert u466); (try revert u467); (try revert u468); (try revert u469); (try revert u47); (try revert u470); (try revert u471); (try revert u472); (try revert u473); (try revert u474); (try revert u475); (try revert u476); (try revert u477); (try revert u478); (try revert u479); (try revert u48); (try revert u480); (try revert u481); (try revert u482); (try revert u483); (try revert u484); (try revert u485); (try revert u486); (try revert u487)
                      (try revert u488); (try revert u489); (try revert u49); (try revert u490); (try revert u491); (try revert u492); (try revert u493); (try revert u494); (try revert u495); (try revert u496); (try revert u497); (try revert u498); (try revert u499); (try revert u5); (try revert u50); (try revert u500); (try revert u501); (try revert u502); (try revert u503); (try revert u504); (try revert u505); (try revert u506); (try revert u507); (try revert u508); (try revert u509)
                      (try revert u51); (try revert u510); (try revert u511); (try revert u512); (try revert u513); (try revert u514); (try revert u515); (try revert u516); (try revert u517); (try revert u518); (try revert u519); (try revert u52); (try revert u53); (try revert u54); (try revert u55); (try revert u56); (try revert u57); (try revert u58); (try revert u59); (try revert u6); (try revert u60); (try revert u61); (try revert u62); (try revert u63); (try revert u64)
                      (try revert u65); (try revert u66); (try revert u67); (try revert u68); (try revert u69); (try revert u7); (try revert u70); (try revert u71); (try revert u72); (try revert u73); (try revert u74); (try revert u75); (try revert u76); (try revert u77); (try revert u78); (try revert u79); (try revert u8); (try revert u80); (try revert u81); (try revert u82); (try revert u83); (try revert u84); (try revert u85); (try revert u86); (try revert u87)
                      (try revert u88); (try revert u89); (try revert u9); (try revert u90); (try revert u91); (try revert u92); (try revert u93); (try revert u94); (try revert u95); (try revert u96); (try revert u97); (try revert u98); (try revert u99); (try revert v); (try revert v0); (try revert v1); (try revert v2); (try revert v3); (try revert w); (try revert w'); (try revert w1); (try revert wc); (try revert wo4); (try revert wo5); (try revert wo6)
                      (try revert wq); (try revert wr); (try revert ws); (try revert wv); (try revert wx); (try revert wx1); (try revert x); (try revert x0); (try revert x1); (try revert x2); (try revert x3); (try revert y); (try revert y0); (try revert y1); (try revert z0); (try revert z1)
                      repeat (rename_i zz; revert zz)
                      exact HYPL3C.out
                    · try clear HYPL1
                      try clear HYPL2
                      try clear HYPL3A
                      try clear HYPL3B
                      try clear HYPL3C
                      have hcn : ((c' : Int) == (c : Int)) = false := beq_eq_false_iff_ne.2 (fun e => hcc (by omega))
                      have HCC := Lib.hid hcc
                      obtain ⟨T, hT⟩ : ∃ T, T = togB (v0, v1, v2, v3) (x0, x1, x2, x3) := ⟨_, rfl⟩
                      rw [← hT] at HTG
                      have HTT := Lib.hid hT
                      clear hcc hT
                      rename World => wo7
                      have HBc7 := Lib.hid HBc.out
                      clear HBc
                      go_upto_region 36 with fail
                      go_cut [238] (fun c wx => c = .bool T ∧ Below wo7.heap.size wo7 wx)
                      case first =>
                        try clear HYPL1
                        try clear HYPL2
                        try clear HYPL3A
                        try clear HYPL3B
                        try clear HYPL3C
                        repeat (rename_i zz; revert zz)
                        (try revert A); (try revert AllPost); (try revert Arr); (try revert Below); (try revert C12); (try revert C13); (try revert C14); (try revert C15); (try revert C2); (try revert C3); (try revert C4); (try revert C5); (try revert Calls); (try revert D12); (try revert D13); (try revert D14); (try revert D15); (try revert D2); (try revert D3); (try revert D4); (try revert D5); (try revert H1); (try revert H2); (try revert H3); (try revert H4)
                        (try revert H5); (try revert HAL); (try revert HALL); (try revert HARR); (try revert HB); (try revert HB0); (try revert HB01); (try revert HB1); (try revert HBa); (try revert HBc); (try revert HBc7); (try revert HBl); (try revert HBo); (try revert HC); (try revert HCC); (try revert HCK); (try revert HFE); (try revert HG); (try revert HHIT); (try revert HHL); (try revert HJ); (try revert HLW); (try revert HN); (try revert HN1); (try revert HN2)
                        (try revert HN3); (try revert HN4); (try revert HNA); (try revert HNB); (try revert HNle); (try revert HNle'); (try revert HO); (try revert HOV); (try revert HP0); (try revert HP0c); (try revert HPB); (try revert HPB1); (try revert HPBc); (try revert HPL1); (try revert HR); (try revert HSN); (try revert HTG); (try revert HTT); (try revert HW0); (try revert HWK); (try revert HX); (try revert HY); (try revert Hid); (try revert Holds_); (try revert Int)
                        (try revert L); (try revert Lib); (try revert N); (try revert Nat); (try revert NoA); (try revert NoB); (try revert NoG); (try revert NoP); (try revert P); (try revert PB); (try revert PlanAt); (try revert R); (try revert T); (try revert Tryd); (try revert W); (try revert W0); (try revert WB); (try revert World); (try revert a1); (try revert a2); (try revert a3); (try revert a4); (try revert all_any); (try revert atStart); (try revert at_)
                        (try revert at_rule); (try revert b); (try revert below_drewN); (try revert below_two); (try revert beq_eq_false_iff_ne); (try revert besideE); (try revert beside_two); (try revert bv); (try revert bw); (try revert by_cases); (try revert c); (try revert c'); (try revert c0); (try revert c1); (try revert c2); (try revert c3); (try revert c4); (try revert c5); (try revert cap); (try revert checkS); (try revert coresR); (try revert d0); (try revert d2); (try revert d3); (try revert d4)
                        (try revert d5); (try revert e); (try revert fail); (try revert fr); (try revert frameR); (try revert g0); (try revert g1); (try revert h); (try revert h0); (try revert h1); (try revert h2); (try revert h256); (try revert h8); (try revert hALL); (try revert hArr); (try revert hB); (try revert hB1); (try revert hBa); (try revert hBc); (try revert hH1); (try revert hH2); (try revert hH3); (try revert hH4); (try revert hHeld); (try revert hN)
                        (try revert hNle); (try revert hO); (try revert hP); (try revert hR); (try revert hT); (try revert hW0); (try revert hal); (try revert hal1); (try revert hat); (try revert hb0); (try revert hc); (try revert hcc); (try revert hcn); (try revert hcut); (try revert hf0); (try revert hf00); (try revert hf01); (try revert hfe); (try revert hg); (try revert hit_gang); (try revert hj); (try revert hk); (try revert hkl); (try revert hl); (try revert hl1)
                        (try revert hl2); (try revert hl3); (try revert hl4); (try revert hlt); (try revert hlt3); (try revert hlw); (try revert hlw3); (try revert hn1); (try revert hn2); (try revert hn3); (try revert hn4); (try revert hna); (try revert holds_succ); (try revert hp0); (try revert hpb); (try revert hpb1); (try revert hpv); (try revert hrel); (try revert hs); (try revert hv); (try revert hw); (try revert hws); (try revert hwv); (try revert hx); (try revert hx')
                        (try revert hy); (try revert hy'); (try revert i); (try revert i0); (try revert i1); (try revert i2); (try revert i3); (try revert if_neg); (try revert if_pos); (try revert intOf); (try revert j); (try revert k); (try revert k0); (try revert k00); (try revert k01); (try revert k1); (try revert k10); (try revert k11); (try revert k12); (try revert k2); (try revert k20); (try revert k21); (try revert k22); (try revert k3); (try revert k4)
                        (try revert kept); (try revert l); (try revert l1); (try revert l2); (try revert manyE); (try revert manyR); (try revert mem_at); (try revert n); (try revert n1); (try revert n2); (try revert n3); (try revert n4); (try revert none); (try revert none_order); (try revert none_rg); (try revert nq); (try revert o); (try revert o1); (try revert o2); (try revert p); (try revert p0); (try revert p1); (try revert p2); (try revert p3); (try revert partsR)
                        (try revert pl); (try revert plV_cells); (try revert plW); (try revert plW_wf); (try revert places); (try revert placesTo_all); (try revert placesTo_len); (try revert planV); (try revert q); (try revert q'); (try revert q0); (try revert q1); (try revert q2); (try revert q3); (try revert q4); (try revert refOverlap_any); (try revert refTogether_any); (try revert rename); (try revert ret_two); (try revert round); (try revert some); (try revert t0); (try revert t1); (try revert this); (try revert togB)
                        (try revert twoE); (try revert u0); (try revert u1); (try revert u10); (try revert u100); (try revert u101); (try revert u102); (try revert u103); (try revert u104); (try revert u105); (try revert u106); (try revert u107); (try revert u108); (try revert u109); (try revert u11); (try revert u110); (try revert u111); (try revert u112); (try revert u113); (try revert u114); (try revert u115); (try revert u116); (try revert u117); (try revert u118); (try revert u119)
                        (try revert u12); (try revert u120); (try revert u121); (try revert u122); (try revert u123); (try revert u124); (try revert u125); (try revert u126); (try revert u127); (try revert u128); (try revert u129); (try revert u13); (try revert u130); (try revert u131); (try revert u132); (try revert u133); (try revert u134); (try revert u135); (try revert u136); (try revert u137); (try revert u138); (try revert u139); (try revert u14); (try revert u140); (try revert u141)
                        (try revert u142); (try revert u143); (try revert u144); (try revert u145); (try revert u146); (try revert u147); (try revert u148); (try revert u149); (try revert u15); (try revert u150); (try revert u151); (try revert u152); (try revert u153); (try revert u154); (try revert u155); (try revert u156); (try revert u157); (try revert u158); (try revert u159); (try revert u16); (try revert u160); (try revert u161); (try revert u162); (try revert u163); (try revert u164)
                        (try revert u165); (try revert u166); (try revert u167); (try revert u168); (try revert u169); (try revert u17); (try revert u170); (try revert u171); (try revert u172); (try revert u173); (try revert u174); (try revert u175); (try revert u176); (try revert u177); (try revert u178); (try revert u179); (try revert u18); (try revert u180); (try revert u181); (try revert u182); (try revert u183); (try revert u184); (try revert u185); (try revert u186); (try revert u187)
                        (try revert u188); (try revert u189); (try revert u19); (try revert u190); (try revert u191); (try revert u192); (try revert u193); (try revert u194); (try revert u195); (try revert u196); (try revert u197); (try revert u198); (try revert u199); (try revert u2); (try revert u20); (try revert u200); (try revert u201); (try revert u202); (try revert u203); (try revert u204); (try revert u205); (try revert u206); (try revert u207); (try revert u208); (try revert u209)
                        (try revert u21); (try revert u210); (try revert u211); (try revert u212); (try revert u213); (try revert u214); (try revert u215); (try revert u216); (try revert u217); (try revert u218); (try revert u219); (try revert u22); (try revert u220); (try revert u221); (try revert u222); (try revert u223); (try revert u224); (try revert u225); (try revert u226); (try revert u227); (try revert u228); (try revert u229); (try revert u23); (try revert u230); (try revert u231)
                        (try revert u232); (try revert u233); (try revert u234); (try revert u235); (try revert u236); (try revert u237); (try revert u238); (try revert u239); (try revert u24); (try revert u240); (try revert u241); (try revert u242); (try revert u243); (try revert u244); (try revert u245); (try revert u246); (try revert u247); (try revert u248); (try revert u249); (try revert u25); (try revert u250); (try revert u251); (try revert u252); (try revert u253); (try revert u254)
                        (try revert u255); (try revert u256); (try revert u257); (try revert u258); (try revert u259); (try revert u26); (try revert u260); (try revert u261); (try revert u262); (try revert u263); (try revert u264); (try revert u265); (try revert u266); (try revert u267); (try revert u268); (try revert u269); (try revert u27); (try revert u270); (try revert u271); (try revert u272); (try revert u273); (try revert u274); (try revert u275); (try revert u276); (try revert u277)
                        (try revert u278); (try revert u279); (try revert u28); (try revert u280); (try revert u281); (try revert u282); (try revert u283); (try revert u284); (try revert u285); (try revert u286); (try revert u287); (try revert u288); (try revert u289); (try revert u29); (try revert u290); (try revert u291); (try revert u292); (try revert u293); (try revert u294); (try revert u295); (try revert u296); (try revert u297); (try revert u298); (try revert u299); (try revert u3)
                        (try revert u30); (try revert u300); (try revert u301); (try revert u302); (try revert u303); (try revert u304); (try revert u305); (try revert u306); (try revert u307); (try revert u308); (try revert u309); (try revert u31); (try revert u310); (try revert u311); (try revert u312); (try revert u313); (try revert u314); (try revert u315); (try revert u316); (try revert u317); (try revert u318); (try revert u319); (try revert u32); (try revert u320); (try revert u321)
                        (try revert u322); (try revert u323); (try revert u324); (try revert u325); (try revert u326); (try revert u327); (try revert u328); (try revert u329); (try revert u33); (try revert u330); (try revert u331); (try revert u332); (try revert u333); (try revert u334); (try revert u335); (try revert u336); (try revert u337); (try revert u338); (try revert u339); (try revert u34); (try revert u340); (try revert u341); (try revert u342); (try revert u343); (try revert u344)
                        (try revert u345); (try revert u346); (try revert u347); (try revert u348); (try revert u349); (try revert u35); (try revert u350); (try revert u351); (try revert u352); (try revert u353); (try revert u354); (try revert u355); (try revert u356); (try revert u357); (try revert u358); (try revert u359); (try revert u36); (try revert u360); (try revert u361); (try revert u362); (try revert u363); (try revert u364); (try revert u365); (try revert u366); (try revert u367)
                        (try revert u368); (try revert u369); (try revert u37); (try revert u370); (try revert u371); (try revert u372); (try revert u373); (try revert u374); (try revert u375); (try revert u376); (try revert u377); (try revert u378); (try revert u379); (try revert u38); (try revert u380); (try revert u381); (try revert u382); (try revert u383); (try revert u384); (try revert u385); (try revert u386); (try revert u387); (try revert u388); (try revert u389); (try revert u39)
                        (try revert u390); (try revert u391); (try revert u392); (try revert u393); (try revert u394); (try revert u395); (try revert u396); (try revert u397); (try revert u398); (try revert u399); (try revert u4); (try revert u40); (try revert u400); (try revert u401); (try revert u402); (try revert u403); (try revert u404); (try revert u405); (try revert u406); (try revert u407); (try revert u408); (try revert u409); (try revert u41); (try revert u410); (try revert u411)
                        (try revert u412); (try revert u413); (try revert u414); (try revert u415); (try revert u416); (try revert u417); (try revert u418); (try revert u419); (try revert u42); (try revert u420); (try revert u421); (try revert u422); (try revert u423); (try revert u424); (try revert u425); (try revert u426); (try revert u427); (try revert u428); (try revert u429); (try revert u43); (try revert u430); (try revert u431); (try revert u432); (try revert u433); (try revert u434)
                        (try revert u435); (try revert u436); (try revert u437); (try revert u438); (try revert u439); (try revert u44); (try revert u440); (try revert u441); (try revert u442); (try revert u443); (try revert u444); (try revert u445); (try revert u446); (try revert u447); (try revert u448); (try revert u449); (try revert u45); (try revert u450); (try revert u451); (try revert u452); (try revert u453); (try revert u454); (try revert u455); (try revert u456); (try revert u457)
                        (try revert u458); (try revert u459); (try revert u46); (try revert u460); (try revert u461); (try revert u462); (try revert u463); (try revert u464); (try revert u465); (try revert u466); (try revert u467); (try revert u468); (try revert u469); (try revert u47); (try revert u470); (try revert u471); (try revert u472); (try revert u473); (try revert u474); (try revert u475); (try revert u476); (try revert u477); (try revert u478); (try revert u479); (try revert u48)
                        (try revert u480); (try revert u481); (try revert u482); (try revert u483); (try revert u484); (try revert u485); (try revert u486); (try revert u487); (try revert u488); (try revert u489); (try revert u49); (try revert u490); (try revert u491); (try revert u492); (try revert u493); (try revert u494); (try revert u495); (try revert u496); (try revert u497); (try revert u498); (try revert u499); (try revert u5); (try revert u50); (try revert u500); (try revert u501)
                        (try revert u502); (try revert u503); (try revert u504); (try revert u505); (try revert u506); (try revert u507); (try revert u508); (try revert u509); (try revert u51); (try revert u510); (try revert u511); (try revert u512); (try revert u513); (try revert u514); (try revert u515); (try revert u516); (try revert u517); (try revert u518); (try revert u519); (try revert u52); (try revert u53); (try revert u54); (try revert u55); (try revert u56); (try revert u57)
                        (try revert u58); (try revert u59); (try revert u6); (try revert u60); (try revert u61); (try revert u62); (try revert u63); (try revert u64); (try revert u65); (try revert u66); (try revert u67); (try revert u68); (try revert u69); (try revert u7); (try revert u70); (try revert u71); (try revert u72); (try revert u73); (try revert u74); (try revert u75); (try revert u76); (try revert u77); (try revert u78); (try revert u79); (try revert u8)
                        (try revert u80); (try revert u81); (try revert u82); (try revert u83); (try revert u84); (try revert u85); (try revert u86); (try revert u87); (try revert u88); (try revert u89); (try revert u9); (try revert u90); (try revert u91); (try revert u92); (try revert u93); (try revert u94); (try revert u95); (try revert u96); (try revert u97); (try revert u98); (try revert u99); (try revert v); (try revert v0); (try revert v1); (try revert v2)
                        (try revert v3); (try revert w); (try revert w'); (try revert w1); (try revert wc); (try revert wo4); (try revert wo5); (try revert wo6); (try revert wo7); (try revert wq); (try revert wr); (try revert ws); (try revert wv); (try revert wx); (try revert wx1); (try revert x); (try revert x0); (try revert x1); (try revert x2); (try revert x3); (try revert y); (try revert y0); (try revert y1); (try revert z0); (try revert z1)
                        repeat (rename_i zz; revert zz)
                        exact HYPL3D.out
                      case rest =>
                       try clear HYPL1
                       try clear HYPL2
                       try clear HYPL3A
                       try clear HYPL3B
                       try clear HYPL3C
                       try clear HYPL3D
                       obtain ⟨rfl, hB7⟩ := hcut
                       have HB7 := Lib.hid hB7
                       clear hB7
                       cases T
                       · try clear HYPL1
                         try clear HYPL2
                         try clear HYPL3A
                         try clear HYPL3B
                         try clear HYPL3C
                         try clear HYPL3D
                         skip
                         replace c1 := kept c1 HB7.out
                         replace p0 := kept p0 HB7.out
                         replace p1 := kept p1 HB7.out
                         replace p2 := kept p2 HB7.out
                         replace p3 := kept p3 HB7.out
                         replace q0 := kept q0 HB7.out
                         replace q1 := kept q1 HB7.out
                         replace q2 := kept q2 HB7.out
                         replace q3 := kept q3 HB7.out
                         have HB8 := Lib.hid (below_two HBc7.out HB7.out)
                         clear c0 d0 hcn HB7 HBc7
                         by_cases hgg : v3 = x3 ∧ x3 ≠ 0
                         · try clear HYPL1
                           try clear HYPL2
                           try clear HYPL3A
                           try clear HYPL3B
                           try clear HYPL3C
                           try clear HYPL3D
                           skip
                           repeat (rename_i zz; revert zz)
                           (try revert A); (try revert AllPost); (try revert Arr); (try revert Below); (try revert C12); (try revert C13); (try revert C14); (try revert C15); (try revert C2); (try revert C3); (try revert C4); (try revert C5); (try revert Calls); (try revert D12); (try revert D13); (try revert D14); (try revert D15); (try revert D2); (try revert D3); (try revert D4); (try revert D5); (try revert H1); (try revert H2); (try revert H3); (try revert H4)
                           (try revert H5); (try revert HAL); (try revert HALL); (try revert HARR); (try revert HB); (try revert HB0); (try revert HB01); (try revert HB1); (try revert HB7); (try revert HB8); (try revert HBa); (try revert HBc); (try revert HBc7); (try revert HBl); (try revert HBo); (try revert HC); (try revert HCC); (try revert HCK); (try revert HFE); (try revert HG); (try revert HHIT); (try revert HHL); (try revert HJ); (try revert HLW); (try revert HN)
                           (try revert HN1); (try revert HN2); (try revert HN3); (try revert HN4); (try revert HNA); (try revert HNB); (try revert HNle); (try revert HNle'); (try revert HO); (try revert HOV); (try revert HP0); (try revert HP0c); (try revert HPB); (try revert HPB1); (try revert HPBc); (try revert HPL1); (try revert HR); (try revert HSN); (try revert HTG); (try revert HTT); (try revert HW0); (try revert HWK); (try revert HX); (try revert HY); (try revert Hid)
                           (try revert Holds_); (try revert Int); (try revert L); (try revert Lib); (try revert N); (try revert Nat); (try revert NoA); (try revert NoB); (try revert NoG); (try revert NoP); (try revert P); (try revert PB); (try revert PlanAt); (try revert R); (try revert T); (try revert Tryd); (try revert W); (try revert W0); (try revert WB); (try revert World); (try revert a1); (try revert a2); (try revert a3); (try revert a4); (try revert all_any)
                           (try revert atStart); (try revert at_); (try revert at_rule); (try revert b); (try revert below_drewN); (try revert below_two); (try revert beq_eq_false_iff_ne); (try revert besideE); (try revert beside_two); (try revert bv); (try revert bw); (try revert by_cases); (try revert c); (try revert c'); (try revert c0); (try revert c1); (try revert c2); (try revert c3); (try revert c4); (try revert c5); (try revert cap); (try revert checkS); (try revert coresR); (try revert d0); (try revert d2)
                           (try revert d3); (try revert d4); (try revert d5); (try revert e); (try revert fail); (try revert fr); (try revert frameR); (try revert g0); (try revert g1); (try revert h); (try revert h0); (try revert h1); (try revert h2); (try revert h256); (try revert h8); (try revert hALL); (try revert hArr); (try revert hB); (try revert hB1); (try revert hB7); (try revert hBa); (try revert hBc); (try revert hH1); (try revert hH2); (try revert hH3)
                           (try revert hH4); (try revert hHeld); (try revert hN); (try revert hNle); (try revert hO); (try revert hP); (try revert hR); (try revert hT); (try revert hW0); (try revert hal); (try revert hal1); (try revert hat); (try revert hb0); (try revert hc); (try revert hcc); (try revert hcn); (try revert hcut); (try revert hf0); (try revert hf00); (try revert hf01); (try revert hfe); (try revert hg); (try revert hgg); (try revert hit_gang); (try revert hj)
                           (try revert hk); (try revert hkl); (try revert hl); (try revert hl1); (try revert hl2); (try revert hl3); (try revert hl4); (try revert hlt); (try revert hlt3); (try revert hlw); (try revert hlw3); (try revert hn1); (try revert hn2); (try revert hn3); (try revert hn4); (try revert hna); (try revert holds_succ); (try revert hp0); (try revert hpb); (try revert hpb1); (try revert hpv); (try revert hrel); (try revert hs); (try revert hv); (try revert hw)
                           (try revert hws); (try revert hwv); (try revert hx); (try revert hx'); (try revert hy); (try revert hy'); (try revert i); (try revert i0); (try revert i1); (try revert i2); (try revert i3); (try revert if_neg); (try revert if_pos); (try revert intOf); (try revert j); (try revert k); (try revert k0); (try revert k00); (try revert k01); (try revert k1); (try revert k10); (try revert k11); (try revert k12); (try revert k2); (try revert k20)
                           (try revert k21); (try revert k22); (try revert k3); (try revert k4); (try revert kept); (try revert l); (try revert l1); (try revert l2); (try revert manyE); (try revert manyR); (try revert mem_at); (try revert n); (try revert n1); (try revert n2); (try revert n3); (try revert n4); (try revert none); (try revert none_order); (try revert none_rg); (try revert nq); (try revert o); (try revert o1); (try revert o2); (try revert p); (try revert p0)
                           (try revert p1); (try revert p2); (try revert p3); (try revert partsR); (try revert pl); (try revert plV_cells); (try revert plW); (try revert plW_wf); (try revert places); (try revert placesTo_all); (try revert placesTo_len); (try revert planV); (try revert q); (try revert q'); (try revert q0); (try revert q1); (try revert q2); (try revert q3); (try revert q4); (try revert refOverlap_any); (try revert refTogether_any); (try revert rename); (try revert ret_two); (try revert round); (try revert some)
                           (try revert t0); (try revert t1); (try revert this); (try revert togB); (try revert twoE); (try revert u0); (try revert u1); (try revert u10); (try revert u100); (try revert u101); (try revert u102); (try revert u103); (try revert u104); (try revert u105); (try revert u106); (try revert u107); (try revert u108); (try revert u109); (try revert u11); (try revert u110); (try revert u111); (try revert u112); (try revert u113); (try revert u114); (try revert u115)
                           (try revert u116); (try revert u117); (try revert u118); (try revert u119); (try revert u12); (try revert u120); (try revert u121); (try revert u122); (try revert u123); (try revert u124); (try revert u125); (try revert u126); (try revert u127); (try revert u128); (try revert u129); (try revert u13); (try revert u130); (try revert u131); (try revert u132); (try revert u133); (try revert u134); (try revert u135); (try revert u136); (try revert u137); (try revert u138)
                           (try revert u139); (try revert u14); (try revert u140); (try revert u141); (try revert u142); (try revert u143); (try revert u144); (try revert u145); (try revert u146); (try revert u147); (try revert u148); (try revert u149); (try revert u15); (try revert u150); (try revert u151); (try revert u152); (try revert u153); (try revert u154); (try revert u155); (try revert u156); (try revert u157); (try revert u158); (try revert u159); (try revert u16); (try revert u160)
                           (try revert u161); (try revert u162); (try revert u163); (try revert u164); (try revert u165); (try revert u166); (try revert u167); (try revert u168); (try revert u169); (try revert u17); (try revert u170); (try revert u171); (try revert u172); (try revert u173); (try revert u174); (try revert u175); (try revert u176); (try revert u177); (try revert u178); (try revert u179); (try revert u18); (try revert u180); (try revert u181); (try revert u182); (try revert u183)
                           (try revert u184); (try revert u185); (try revert u186); (try revert u187); (try revert u188); (try revert u189); (try revert u19); (try revert u190); (try revert u191); (try revert u192); (try revert u193); (try revert u194); (try revert u195); (try revert u196); (try revert u197); (try revert u198); (try revert u199); (try revert u2); (try revert u20); (try revert u200); (try revert u201); (try revert u202); (try revert u203); (try revert u204); (try revert u205)
                           (try revert u206); (try revert u207); (try revert u208); (try revert u209); (try revert u21); (try revert u210); (try revert u211); (try revert u212); (try revert u213); (try revert u214); (try revert u215); (try revert u216); (try revert u217); (try revert u218); (try revert u219); (try revert u22); (try revert u220); (try revert u221); (try revert u222); (try revert u223); (try revert u224); (try revert u225); (try revert u226); (try revert u227); (try revert u228)
                           (try revert u229); (try revert u23); (try revert u230); (try revert u231); (try revert u232); (try revert u233); (try revert u234); (try revert u235); (try revert u236); (try revert u237); (try revert u238); (try revert u239); (try revert u24); (try revert u240); (try revert u241); (try revert u242); (try revert u243); (try revert u244); (try revert u245); (try revert u246); (try revert u247); (try revert u248); (try revert u249); (try revert u25); (try revert u250)
                           (try revert u251); (try revert u252); (try revert u253); (try revert u254); (try revert u255); (try revert u256); (try revert u257); (try revert u258); (try revert u259); (try revert u26); (try revert u260); (try revert u261); (try revert u262); (try revert u263); (try revert u264); (try revert u265); (try revert u266); (try revert u267); (try revert u268); (try revert u269); (try revert u27); (try revert u270); (try revert u271); (try revert u272); (try revert u273)
                           (try revert u274); (try revert u275); (try revert u276); (try revert u277); (try revert u278); (try revert u279); (try revert u28); (try revert u280); (try revert u281); (try revert u282); (try revert u283); (try revert u284); (try revert u285); (try revert u286); (try revert u287); (try revert u288); (try revert u289); (try revert u29); (try revert u290); (try revert u291); (try revert u292); (try revert u293); (try revert u294); (try revert u295); (try revert u296)
                           (try revert u297); (try revert u298); (try revert u299); (try revert u3); (try revert u30); (try revert u300); (try revert u301); (try revert u302); (try revert u303); (try revert u304); (try revert u305); (try revert u306); (try revert u307); (try revert u308); (try revert u309); (try revert u31); (try revert u310); (try revert u311); (try revert u312); (try revert u313); (try revert u314); (try revert u315); (try revert u316); (try revert u317); (try revert u318)
                           (try revert u319); (try revert u32); (try revert u320); (try revert u321); (try revert u322); (try revert u323); (try revert u324); (try revert u325); (try revert u326); (try revert u327); (try revert u328); (try revert u329); (try revert u33); (try revert u330); (try revert u331); (try revert u332); (try revert u333); (try revert u334); (try revert u335); (try revert u336); (try revert u337); (try revert u338); (try revert u339); (try revert u34); (try revert u340)
                           (try revert u341); (try revert u342); (try revert u343); (try revert u344); (try revert u345); (try revert u346); (try revert u347); (try revert u348); (try revert u349); (try revert u35); (try revert u350); (try revert u351); (try revert u352); (try revert u353); (try revert u354); (try revert u355); (try revert u356); (try revert u357); (try revert u358); (try revert u359); (try revert u36); (try revert u360); (try revert u361); (try revert u362); (try revert u363)
                           (try revert u364); (try revert u365); (try revert u366); (try revert u367); (try revert u368); (try revert u369); (try revert u37); (try revert u370); (try revert u371); (try revert u372); (try revert u373); (try revert u374); (try revert u375); (try revert u376); (try revert u377); (try revert u378); (try revert u379); (try revert u38); (try revert u380); (try revert u381); (try revert u382); (try revert u383); (try revert u384); (try revert u385); (try revert u386)
                           (try revert u387); (try revert u388); (try revert u389); (try revert u39); (try revert u390); (try revert u391); (try revert u392); (try revert u393); (try revert u394); (try revert u395); (try revert u396); (try revert u397); (try revert u398); (try revert u399); (try revert u4); (try revert u40); (try revert u400); (try revert u401); (try revert u402); (try revert u403); (try revert u404); (try revert u405); (try revert u406); (try revert u407); (try revert u408)
                           (try revert u409); (try revert u41); (try revert u410); (try revert u411); (try revert u412); (try revert u413); (try revert u414); (try revert u415); (try revert u416); (try revert u417); (try revert u418); (try revert u419); (try revert u42); (try revert u420); (try revert u421); (try revert u422); (try revert u423); (try revert u424); (try revert u425); (try revert u426); (try revert u427); (try revert u428); (try revert u429); (try revert u43); (try revert u430)
                           (try revert u431); (try revert u432); (try revert u433); (try revert u434); (try revert u435); (try revert u436); (try revert u437); (try revert u438); (try revert u439); (try revert u44); (try revert u440); (try revert u441); (try revert u442); (try revert u443); (try revert u444); (try revert u445); (try revert u446); (try revert u447); (try revert u448); (try revert u449); (try revert u45); (try revert u450); (try revert u451); (try revert u452); (try revert u453)
                           (try revert u454); (try revert u455); (try revert u456); (try revert u457); (try revert u458); (try revert u459); (try revert u46); (try revert u460); (try revert u461); (try revert u462); (try revert u463); (try revert u464); (try revert u465); (try revert u466); (try revert u467); (try revert u468); (try revert u469); (try revert u47); (try revert u470); (try revert u471); (try revert u472); (try revert u473); (try revert u474); (try revert u475); (try revert u476)
                           (try revert u477); (try revert u478); (try revert u479); (try revert u48); (try revert u480); (try revert u481); (try revert u482); (try revert u483); (try revert u484); (try revert u485); (try revert u486); (try revert u487); (try revert u488); (try revert u489); (try revert u49); (try revert u490); (try revert u491); (try revert u492); (try revert u493); (try revert u494); (try revert u495); (try revert u496); (try revert u497); (try revert u498); (try revert u499)
                           (try revert u5); (try revert u50); (try revert u500); (try revert u501); (try revert u502); (try revert u503); (try revert u504); (try revert u505); (try revert u506); (try revert u507); (try revert u508); (try revert u509); (try revert u51); (try revert u510); (try revert u511); (try revert u512); (try revert u513); (try revert u514); (try revert u515); (try revert u516); (try revert u517); (try revert u518); (try revert u519); (try revert u52); (try revert u53)
                           (try revert u54); (try revert u55); (try revert u56); (try revert u57); (try revert u58); (try revert u59); (try revert u6); (try revert u60); (try revert u61); (try revert u62); (try revert u63); (try revert u64); (try revert u65); (try revert u66); (try revert u67); (try revert u68); (try revert u69); (try revert u7); (try revert u70); (try revert u71); (try revert u72); (try revert u73); (try revert u74); (try revert u75); (try revert u76)
                           (try revert u77); (try revert u78); (try revert u79); (try revert u8); (try revert u80); (try revert u81); (try revert u82); (try revert u83); (try revert u84); (try revert u85); (try revert u86); (try revert u87); (try revert u88); (try revert u89); (try revert u9); (try revert u90); (try revert u91); (try revert u92); (try revert u93); (try revert u94); (try revert u95); (try revert u96); (try revert u97); (try revert u98); (try revert u99)
                           (try revert v); (try revert v0); (try revert v1); (try revert v2); (try revert v3); (try revert w); (try revert w'); (try revert w1); (try revert wc); (try revert wo4); (try revert wo5); (try revert wo6); (try revert wo7); (try revert wq); (try revert wr); (try revert ws); (try revert wv); (try revert wx); (try revert wx1); (try revert x); (try revert x0); (try revert x1); (try revert x2); (try revert x3); (try revert y)
                           (try revert y0); (try revert y1); (try revert z0); (try revert z1)
                           repeat (rename_i zz; revert zz)
                           exact HYPL3E.out
                         · try clear HYPL1
                           try clear HYPL2
                           try clear HYPL3A
                           try clear HYPL3B
                           try clear HYPL3C
                           try clear HYPL3D
                           try clear HYPL3E
                           have hgf : gangB (v0, v1, v2, v3) (x0, x1, x2, x3) = false := by
                             by_cases e : v3 = x3
                             · try clear HYPL1
                               try clear HYPL2
                               try clear HYPL3A
                               try clear HYPL3B
                               try clear HYPL3C
                               try clear HYPL3D
                               try clear HYPL3E
                               obtain rfl : x3 = 0 := by omega
                               subst e
                               exact gang_no2
                             · try clear HYPL1
                               try clear HYPL2
                               try clear HYPL3A
                               try clear HYPL3B
                               try clear HYPL3C
                               try clear HYPL3D
                               try clear HYPL3E
                               exact gang_no1 e
                           have HGF := Lib.hid hgf
                           clear hgf
                           by_cases hpp : v2 = x2
                           · try clear HYPL1
                             try clear HYPL2
                             try clear HYPL3A
                             try clear HYPL3B
                             try clear HYPL3C
                             try clear HYPL3D
                             try clear HYPL3E
                             skip
                             repeat (rename_i zz; revert zz)
                             (try revert A); (try revert AllPost); (try revert Arr); (try revert Below); (try revert C12); (try revert C13); (try revert C14); (try revert C15); (try revert C2); (try revert C3); (try revert C4); (try revert C5); (try revert Calls); (try revert D12); (try revert D13); (try revert D14); (try revert D15); (try revert D2); (try revert D3); (try revert D4); (try revert D5); (try revert H1); (try revert H2); (try revert H3); (try revert H4)
                             (try revert H5); (try revert HAL); (try revert HALL); (try revert HARR); (try revert HB); (try revert HB0); (try revert HB01); (try revert HB1); (try revert HB7); (try revert HB8); (try revert HBa); (try revert HBc); (try revert HBc7); (try revert HBl); (try revert HBo); (try revert HC); (try revert HCC); (try revert HCK); (try revert HFE); (try revert HG); (try revert HGF); (try revert HHIT); (try revert HHL); (try revert HJ); (try revert HLW)
                             (try revert HN); (try revert HN1); (try revert HN2); (try revert HN3); (try revert HN4); (try revert HNA); (try revert HNB); (try revert HNle); (try revert HNle'); (try revert HO); (try revert HOV); (try revert HP0); (try revert HP0c); (try revert HPB); (try revert HPB1); (try revert HPBc); (try revert HPL1); (try revert HR); (try revert HSN); (try revert HTG); (try revert HTT); (try revert HW0); (try revert HWK); (try revert HX); (try revert HY)
                             (try revert Hid); (try revert Holds_); (try revert Int); (try revert L); (try revert Lib); (try revert N); (try revert Nat); (try revert NoA); (try revert NoB); (try revert NoG); (try revert NoP); (try revert P); (try revert PB); (try revert PlanAt); (try revert R); (try revert T); (try revert Tryd); (try revert W); (try revert W0); (try revert WB); (try revert World); (try revert a1); (try revert a2); (try revert a3); (try revert a4)
                             (try revert all_any); (try revert atStart); (try revert at_); (try revert at_rule); (try revert b); (try revert below_drewN); (try revert below_two); (try revert beq_eq_false_iff_ne); (try revert besideE); (try revert beside_two); (try revert bv); (try revert bw); (try revert by_cases); (try revert c); (try revert c'); (try revert c0); (try revert c1); (try revert c2); (try revert c3); (try revert c4); (try revert c5); (try revert cap); (try revert checkS); (try revert coresR); (try revert d0)
                             (try revert d2); (try revert d3); (try revert d4); (try revert d5); (try revert e); (try revert fail); (try revert fr); (try revert frameR); (try revert g0); (try revert g1); (try revert gangB); (try revert gang_no1); (try revert gang_no2); (try revert h); (try revert h0); (try revert h1); (try revert h2); (try revert h256); (try revert h8); (try revert hALL); (try revert hArr); (try revert hB); (try revert hB1); (try revert hB7); (try revert hBa)
                             (try revert hBc); (try revert hH1); (try revert hH2); (try revert hH3); (try revert hH4); (try revert hHeld); (try revert hN); (try revert hNle); (try revert hO); (try revert hP); (try revert hR); (try revert hT); (try revert hW0); (try revert hal); (try revert hal1); (try revert hat); (try revert hb0); (try revert hc); (try revert hcc); (try revert hcn); (try revert hcut); (try revert hf0); (try revert hf00); (try revert hf01); (try revert hfe)
                             (try revert hg); (try revert hgf); (try revert hgg); (try revert hit_gang); (try revert hj); (try revert hk); (try revert hkl); (try revert hl); (try revert hl1); (try revert hl2); (try revert hl3); (try revert hl4); (try revert hlt); (try revert hlt3); (try revert hlw); (try revert hlw3); (try revert hn1); (try revert hn2); (try revert hn3); (try revert hn4); (try revert hna); (try revert holds_succ); (try revert hp0); (try revert hpb); (try revert hpb1)
                             (try revert hpp); (try revert hpv); (try revert hrel); (try revert hs); (try revert hv); (try revert hw); (try revert hws); (try revert hwv); (try revert hx); (try revert hx'); (try revert hy); (try revert hy'); (try revert i); (try revert i0); (try revert i1); (try revert i2); (try revert i3); (try revert if_neg); (try revert if_pos); (try revert intOf); (try revert j); (try revert k); (try revert k0); (try revert k00); (try revert k01)
                             (try revert k1); (try revert k10); (try revert k11); (try revert k12); (try revert k2); (try revert k20); (try revert k21); (try revert k22); (try revert k3); (try revert k4); (try revert kept); (try revert l); (try revert l1); (try revert l2); (try revert manyE); (try revert manyR); (try revert mem_at); (try revert n); (try revert n1); (try revert n2); (try revert n3); (try revert n4); (try revert none); (try revert none_order); (try revert none_rg)
                             (try revert nq); (try revert o); (try revert o1); (try revert o2); (try revert p); (try revert p0); (try revert p1); (try revert p2); (try revert p3); (try revert partsR); (try revert pl); (try revert plV_cells); (try revert plW); (try revert plW_wf); (try revert places); (try revert placesTo_all); (try revert placesTo_len); (try revert planV); (try revert q); (try revert q'); (try revert q0); (try revert q1); (try revert q2); (try revert q3); (try revert q4)
                             (try revert refOverlap_any); (try revert refTogether_any); (try revert rename); (try revert ret_two); (try revert round); (try revert some); (try revert t0); (try revert t1); (try revert this); (try revert togB); (try revert twoE); (try revert u0); (try revert u1); (try revert u10); (try revert u100); (try revert u101); (try revert u102); (try revert u103); (try revert u104); (try revert u105); (try revert u106); (try revert u107); (try revert u108); (try revert u109); (try revert u11)
                             (try revert u110); (try revert u111); (try revert u112); (try revert u113); (try revert u114); (try revert u115); (try revert u116); (try revert u117); (try revert u118); (try revert u119); (try revert u12); (try revert u120); (try revert u121); (try revert u122); (try revert u123); (try revert u124); (try revert u125); (try revert u126); (try revert u127); (try revert u128); (try revert u129); (try revert u13); (try revert u130); (try revert u131); (try revert u132)
                             (try revert u133); (try revert u134); (try revert u135); (try revert u136); (try revert u137); (try revert u138); (try revert u139); (try revert u14); (try revert u140); (try revert u141); (try revert u142); (try revert u143); (try revert u144); (try revert u145); (try revert u146); (try revert u147); (try revert u148); (try revert u149); (try revert u15); (try revert u150); (try revert u151); (try revert u152); (try revert u153); (try revert u154); (try revert u155)
                             (try revert u156); (try revert u157); (try revert u158); (try revert u159); (try revert u16); (try revert u160); (try revert u161); (try revert u162); (try revert u163); (try revert u164); (try revert u165); (try revert u166); (try revert u167); (try revert u168); (try revert u169); (try revert u17); (try revert u170); (try revert u171); (try revert u172); (try revert u173); (try revert u174); (try revert u175); (try revert u176); (try revert u177); (try revert u178)
                             (try revert u179); (try revert u18); (try revert u180); (try revert u181); (try revert u182); (try revert u183); (try revert u184); (try revert u185); (try revert u186); (try revert u187); (try revert u188); (try revert u189); (try revert u19); (try revert u190); (try revert u191); (try revert u192); (try revert u193); (try revert u194); (try revert u195); (try revert u196); (try revert u197); (try revert u198); (try revert u199); (try revert u2); (try revert u20)
                             (try revert u200); (try revert u201); (try revert u202); (try revert u203); (try revert u204); (try revert u205); (try revert u206); (try revert u207); (try revert u208); (try revert u209); (try revert u21); (try revert u210); (try revert u211); (try revert u212); (try revert u213); (try revert u214); (try revert u215); (try revert u216); (try revert u217); (try revert u218); (try revert u219); (try revert u22); (try revert u220); (try revert u221); (try revert u222)
                             (try revert u223); (try revert u224); (try revert u225); (try revert u226); (try revert u227); (try revert u228); (try revert u229); (try revert u23); (try revert u230); (try revert u231); (try revert u232); (try revert u233); (try revert u234); (try revert u235); (try revert u236); (try revert u237); (try revert u238); (try revert u239); (try revert u24); (try revert u240); (try revert u241); (try revert u242); (try revert u243); (try revert u244); (try revert u245)
                             (try revert u246); (try revert u247); (try revert u248); (try revert u249); (try revert u25); (try revert u250); (try revert u251); (try revert u252); (try revert u253); (try revert u254); (try revert u255); (try revert u256); (try revert u257); (try revert u258); (try revert u259); (try revert u26); (try revert u260); (try revert u261); (try revert u262); (try revert u263); (try revert u264); (try revert u265); (try revert u266); (try revert u267); (try revert u268)
                             (try revert u269); (try revert u27); (try revert u270); (try revert u271); (try revert u272); (try revert u273); (try revert u274); (try revert u275); (try revert u276); (try revert u277); (try revert u278); (try revert u279); (try revert u28); (try revert u280); (try revert u281); (try revert u282); (try revert u283); (try revert u284); (try revert u285); (try revert u286); (try revert u287); (try revert u288); (try revert u289); (try revert u29); (try revert u290)
                             (try revert u291); (try revert u292); (try revert u293); (try revert u294); (try revert u295); (try revert u296); (try revert u297); (try revert u298); (try revert u299); (try revert u3); (try revert u30); (try revert u300); (try revert u301); (try revert u302); (try revert u303); (try revert u304); (try revert u305); (try revert u306); (try revert u307); (try revert u308); (try revert u309); (try revert u31); (try revert u310); (try revert u311); (try revert u312)
                             (try revert u313); (try revert u314); (try revert u315); (try revert u316); (try revert u317); (try revert u318); (try revert u319); (try revert u32); (try revert u320); (try revert u321); (try revert u322); (try revert u323); (try revert u324); (try revert u325); (try revert u326); (try revert u327); (try revert u328); (try revert u329); (try revert u33); (try revert u330); (try revert u331); (try revert u332); (try revert u333); (try revert u334); (try revert u335)
                             (try revert u336); (try revert u337); (try revert u338); (try revert u339); (try revert u34); (try revert u340); (try revert u341); (try revert u342); (try revert u343); (try revert u344); (try revert u345); (try revert u346); (try revert u347); (try revert u348); (try revert u349); (try revert u35); (try revert u350); (try revert u351); (try revert u352); (try revert u353); (try revert u354); (try revert u355); (try revert u356); (try revert u357); (try revert u358)
                             (try revert u359); (try revert u36); (try revert u360); (try revert u361); (try revert u362); (try revert u363); (try revert u364); (try revert u365); (try revert u366); (try revert u367); (try revert u368); (try revert u369); (try revert u37); (try revert u370); (try revert u371); (try revert u372); (try revert u373); (try revert u374); (try revert u375); (try revert u376); (try revert u377); (try revert u378); (try revert u379); (try revert u38); (try revert u380)
                             (try revert u381); (try revert u382); (try revert u383); (try revert u384); (try revert u385); (try revert u386); (try revert u387); (try revert u388); (try revert u389); (try revert u39); (try revert u390); (try revert u391); (try revert u392); (try revert u393); (try revert u394); (try revert u395); (try revert u396); (try revert u397); (try revert u398); (try revert u399); (try revert u4); (try revert u40); (try revert u400); (try revert u401); (try revert u402)
                             (try revert u403); (try revert u404); (try revert u405); (try revert u406); (try revert u407); (try revert u408); (try revert u409); (try revert u41); (try revert u410); (try revert u411); (try revert u412); (try revert u413); (try revert u414); (try revert u415); (try revert u416); (try revert u417); (try revert u418); (try revert u419); (try revert u42); (try revert u420); (try revert u421); (try revert u422); (try revert u423); (try revert u424); (try revert u425)
                             (try revert u426); (try revert u427); (try revert u428); (try revert u429); (try revert u43); (try revert u430); (try revert u431); (try revert u432); (try revert u433); (try revert u434); (try revert u435); (try revert u436); (try revert u437); (try revert u438); (try revert u439); (try revert u44); (try revert u440); (try revert u441); (try revert u442); (try revert u443); (try revert u444); (try revert u445); (try revert u446); (try revert u447); (try revert u448)
                             (try revert u449); (try revert u45); (try revert u450); (try revert u451); (try revert u452); (try revert u453); (try revert u454); (try revert u455); (try revert u456); (try revert u457); (try revert u458); (try revert u459); (try revert u46); (try revert u460); (try revert u461); (try revert u462); (try revert u463); (try revert u464); (try revert u465); (try revert u466); (try revert u467); (try revert u468); (try revert u469); (try revert u47); (try revert u470)
                             (try revert u471); (try revert u472); (try revert u473); (try revert u474); (try revert u475); (try revert u476); (try revert u477); (try revert u478); (try revert u479); (try revert u48); (try revert u480); (try revert u481); (try revert u482); (try revert u483); (try revert u484); (try revert u485); (try revert u486); (try revert u487); (try revert u488); (try revert u489); (try revert u49); (try revert u490); (try revert u491); (try revert u492); (try revert u493)
                             (try revert u494); (try revert u495); (try revert u496); (try revert u497); (try revert u498); (try revert u499); (try revert u5); (try revert u50); (try revert u500); (try revert u501); (try revert u502); (try revert u503); (try revert u504); (try revert u505); (try revert u506); (try revert u507); (try revert u508); (try revert u509); (try revert u51); (try revert u510); (try revert u511); (try revert u512); (try revert u513); (try revert u514); (try revert u515)
                             (try revert u516); (try revert u517); (try revert u518); (try revert u519); (try revert u52); (try revert u53); (try revert u54); (try revert u55); (try revert u56); (try revert u57); (try revert u58); (try revert u59); (try revert u6); (try revert u60); (try revert u61); (try revert u62); (try revert u63); (try revert u64); (try revert u65); (try revert u66); (try revert u67); (try revert u68); (try revert u69); (try revert u7); (try revert u70)
                             (try revert u71); (try revert u72); (try revert u73); (try revert u74); (try revert u75); (try revert u76); (try revert u77); (try revert u78); (try revert u79); (try revert u8); (try revert u80); (try revert u81); (try revert u82); (try revert u83); (try revert u84); (try revert u85); (try revert u86); (try revert u87); (try revert u88); (try revert u89); (try revert u9); (try revert u90); (try revert u91); (try revert u92); (try revert u93)
                             (try revert u94); (try revert u95); (try revert u96); (try revert u97); (try revert u98); (try revert u99); (try revert v); (try revert v0); (try revert v1); (try revert v2); (try revert v3); (try revert w); (try revert w'); (try revert w1); (try revert wc); (try revert wo4); (try revert wo5); (try revert wo6); (try revert wo7); (try revert wq); (try revert wr); (try revert ws); (try revert wv); (try revert wx); (try revert wx1)
                             (try revert x); (try revert x0); (try revert x1); (try revert x2); (try revert x3); (try revert y); (try revert y0); (try revert y1); (try revert z0); (try revert z1)
                             repeat (rename_i zz; revert zz)
                             exact HYPL3F.out
                           · try clear HYPL1
                             try clear HYPL2
                             try clear HYPL3A
                             try clear HYPL3B
                             try clear HYPL3C
                             try clear HYPL3D
                             try clear HYPL3E
                             try clear HYPL3F
                             skip
                             repeat (rename_i zz; revert zz)
                             (try revert A); (try revert AllPost); (try revert Arr); (try revert Below); (try revert C12); (try revert C13); (try revert C14); (try revert C15); (try revert C2); (try revert C3); (try revert C4); (try revert C5); (try revert Calls); (try revert D12); (try revert D13); (try revert D14); (try revert D15); (try revert D2); (try revert D3); (try revert D4); (try revert D5); (try revert H1); (try revert H2); (try revert H3); (try revert H4)
                             (try revert H5); (try revert HAL); (try revert HALL); (try revert HARR); (try revert HB); (try revert HB0); (try revert HB01); (try revert HB1); (try revert HB7); (try revert HB8); (try revert HBa); (try revert HBc); (try revert HBc7); (try revert HBl); (try revert HBo); (try revert HC); (try revert HCC); (try revert HCK); (try revert HFE); (try revert HG); (try revert HGF); (try revert HHIT); (try revert HHL); (try revert HJ); (try revert HLW)
                             (try revert HN); (try revert HN1); (try revert HN2); (try revert HN3); (try revert HN4); (try revert HNA); (try revert HNB); (try revert HNle); (try revert HNle'); (try revert HO); (try revert HOV); (try revert HP0); (try revert HP0c); (try revert HPB); (try revert HPB1); (try revert HPBc); (try revert HPL1); (try revert HR); (try revert HSN); (try revert HTG); (try revert HTT); (try revert HW0); (try revert HWK); (try revert HX); (try revert HY)
                             (try revert Hid); (try revert Holds_); (try revert Int); (try revert L); (try revert Lib); (try revert N); (try revert Nat); (try revert NoA); (try revert NoB); (try revert NoG); (try revert NoP); (try revert P); (try revert PB); (try revert PlanAt); (try revert R); (try revert T); (try revert Tryd); (try revert W); (try revert W0); (try revert WB); (try revert World); (try revert a1); (try revert a2); (try revert a3); (try revert a4)
                             (try revert all_any); (try revert atStart); (try revert at_); (try revert at_rule); (try revert b); (try revert below_drewN); (try revert below_two); (try revert beq_eq_false_iff_ne); (try revert besideE); (try revert beside_two); (try revert bv); (try revert bw); (try revert by_cases); (try revert c); (try revert c'); (try revert c0); (try revert c1); (try revert c2); (try revert c3); (try revert c4); (try revert c5); (try revert cap); (try revert checkS); (try revert coresR); (try revert d0)
                             (try revert d2); (try revert d3); (try revert d4); (try revert d5); (try revert e); (try revert fail); (try revert fr); (try revert frameR); (try revert g0); (try revert g1); (try revert gangB); (try revert gang_no1); (try revert gang_no2); (try revert h); (try revert h0); (try revert h1); (try revert h2); (try revert h256); (try revert h8); (try revert hALL); (try revert hArr); (try revert hB); (try revert hB1); (try revert hB7); (try revert hBa)
                             (try revert hBc); (try revert hH1); (try revert hH2); (try revert hH3); (try revert hH4); (try revert hHeld); (try revert hN); (try revert hNle); (try revert hO); (try revert hP); (try revert hR); (try revert hT); (try revert hW0); (try revert hal); (try revert hal1); (try revert hat); (try revert hb0); (try revert hc); (try revert hcc); (try revert hcn); (try revert hcut); (try revert hf0); (try revert hf00); (try revert hf01); (try revert hfe)
                             (try revert hg); (try revert hgf); (try revert hgg); (try revert hit_gang); (try revert hj); (try revert hk); (try revert hkl); (try revert hl); (try revert hl1); (try revert hl2); (try revert hl3); (try revert hl4); (try revert hlt); (try revert hlt3); (try revert hlw); (try revert hlw3); (try revert hn1); (try revert hn2); (try revert hn3); (try revert hn4); (try revert hna); (try revert holds_succ); (try revert hp0); (try revert hpb); (try revert hpb1)
                             (try revert hpp); (try revert hpv); (try revert hrel); (try revert hs); (try revert hv); (try revert hw); (try revert hws); (try revert hwv); (try revert hx); (try revert hx'); (try revert hy); (try revert hy'); (try revert i); (try revert i0); (try revert i1); (try revert i2); (try revert i3); (try revert if_neg); (try revert if_pos); (try revert intOf); (try revert j); (try revert k); (try revert k0); (try revert k00); (try revert k01)
                             (try revert k1); (try revert k10); (try revert k11); (try revert k12); (try revert k2); (try revert k20); (try revert k21); (try revert k22); (try revert k3); (try revert k4); (try revert kept); (try revert l); (try revert l1); (try revert l2); (try revert manyE); (try revert manyR); (try revert mem_at); (try revert n); (try revert n1); (try revert n2); (try revert n3); (try revert n4); (try revert none); (try revert none_order); (try revert none_rg)
                             (try revert nq); (try revert o); (try revert o1); (try revert o2); (try revert p); (try revert p0); (try revert p1); (try revert p2); (try revert p3); (try revert partsR); (try revert pl); (try revert plV_cells); (try revert plW); (try revert plW_wf); (try revert places); (try revert placesTo_all); (try revert placesTo_len); (try revert planV); (try revert q); (try revert q'); (try revert q0); (try revert q1); (try revert q2); (try revert q3); (try revert q4)
                             (try revert refOverlap_any); (try revert refTogether_any); (try revert rename); (try revert ret_two); (try revert round); (try revert some); (try revert t0); (try revert t1); (try revert this); (try revert togB); (try revert twoE); (try revert u0); (try revert u1); (try revert u10); (try revert u100); (try revert u101); (try revert u102); (try revert u103); (try revert u104); (try revert u105); (try revert u106); (try revert u107); (try revert u108); (try revert u109); (try revert u11)
                             (try revert u110); (try revert u111); (try revert u112); (try revert u113); (try revert u114); (try revert u115); (try revert u116); (try revert u117); (try revert u118); (try revert u119); (try revert u12); (try revert u120); (try revert u121); (try revert u122); (try revert u123); (try revert u124); (try revert u125); (try revert u126); (try revert u127); (try revert u128); (try revert u129); (try revert u13); (try revert u130); (try revert u131); (try revert u132)
                             (try revert u133); (try revert u134); (try revert u135); (try revert u136); (try revert u137); (try revert u138); (try revert u139); (try revert u14); (try revert u140); (try revert u141); (try revert u142); (try revert u143); (try revert u144); (try revert u145); (try revert u146); (try revert u147); (try revert u148); (try revert u149); (try revert u15); (try revert u150); (try revert u151); (try revert u152); (try revert u153); (try revert u154); (try revert u155)
                             (try revert u156); (try revert u157); (try revert u158); (try revert u159); (try revert u16); (try revert u160); (try revert u161); (try revert u162); (try revert u163); (try revert u164); (try revert u165); (try revert u166); (try revert u167); (try revert u168); (try revert u169); (try revert u17); (try revert u170); (try revert u171); (try revert u172); (try revert u173); (try revert u174); (try revert u175); (try revert u176); (try revert u177); (try revert u178)
                             (try revert u179); (try revert u18); (try revert u180); (try revert u181); (try revert u182); (try revert u183); (try revert u184); (try revert u185); (try revert u186); (try revert u187); (try revert u188); (try revert u189); (try revert u19); (try revert u190); (try revert u191); (try revert u192); (try revert u193); (try revert u194); (try revert u195); (try revert u196); (try revert u197); (try revert u198); (try revert u199); (try revert u2); (try revert u20)
                             (try revert u200); (try revert u201); (try revert u202); (try revert u203); (try revert u204); (try revert u205); (try revert u206); (try revert u207); (try revert u208); (try revert u209); (try revert u21); (try revert u210); (try revert u211); (try revert u212); (try revert u213); (try revert u214); (try revert u215); (try revert u216); (try revert u217); (try revert u218); (try revert u219); (try revert u22); (try revert u220); (try revert u221); (try revert u222)
                             (try revert u223); (try revert u224); (try revert u225); (try revert u226); (try revert u227); (try revert u228); (try revert u229); (try revert u23); (try revert u230); (try revert u231); (try revert u232); (try revert u233); (try revert u234); (try revert u235); (try revert u236); (try revert u237); (try revert u238); (try revert u239); (try revert u24); (try revert u240); (try revert u241); (try revert u242); (try revert u243); (try revert u244); (try revert u245)
                             (try revert u246); (try revert u247); (try revert u248); (try revert u249); (try revert u25); (try revert u250); (try revert u251); (try revert u252); (try revert u253); (try revert u254); (try revert u255); (try revert u256); (try revert u257); (try revert u258); (try revert u259); (try revert u26); (try revert u260); (try revert u261); (try revert u262); (try revert u263); (try revert u264); (try revert u265); (try revert u266); (try revert u267); (try revert u268)
                             (try revert u269); (try revert u27); (try revert u270); (try revert u271); (try revert u272); (try revert u273); (try revert u274); (try revert u275); (try revert u276); (try revert u277); (try revert u278); (try revert u279); (try revert u28); (try revert u280); (try revert u281); (try revert u282); (try revert u283); (try revert u284); (try revert u285); (try revert u286); (try revert u287); (try revert u288); (try revert u289); (try revert u29); (try revert u290)
                             (try revert u291); (try revert u292); (try revert u293); (try revert u294); (try revert u295); (try revert u296); (try revert u297); (try revert u298); (try revert u299); (try revert u3); (try revert u30); (try revert u300); (try revert u301); (try revert u302); (try revert u303); (try revert u304); (try revert u305); (try revert u306); (try revert u307); (try revert u308); (try revert u309); (try revert u31); (try revert u310); (try revert u311); (try revert u312)
                             (try revert u313); (try revert u314); (try revert u315); (try revert u316); (try revert u317); (try revert u318); (try revert u319); (try revert u32); (try revert u320); (try revert u321); (try revert u322); (try revert u323); (try revert u324); (try revert u325); (try revert u326); (try revert u327); (try revert u328); (try revert u329); (try revert u33); (try revert u330); (try revert u331); (try revert u332); (try revert u333); (try revert u334); (try revert u335)
                             (try revert u336); (try revert u337); (try revert u338); (try revert u339); (try revert u34); (try revert u340); (try revert u341); (try revert u342); (try revert u343); (try revert u344); (try revert u345); (try revert u346); (try revert u347); (try revert u348); (try revert u349); (try revert u35); (try revert u350); (try revert u351); (try revert u352); (try revert u353); (try revert u354); (try revert u355); (try revert u356); (try revert u357); (try revert u358)
                             (try revert u359); (try revert u36); (try revert u360); (try revert u361); (try revert u362); (try revert u363); (try revert u364); (try revert u365); (try revert u366); (try revert u367); (try revert u368); (try revert u369); (try revert u37); (try revert u370); (try revert u371); (try revert u372); (try revert u373); (try revert u374); (try revert u375); (try revert u376); (try revert u377); (try revert u378); (try revert u379); (try revert u38); (try revert u380)
                             (try revert u381); (try revert u382); (try revert u383); (try revert u384); (try revert u385); (try revert u386); (try revert u387); (try revert u388); (try revert u389); (try revert u39); (try revert u390); (try revert u391); (try revert u392); (try revert u393); (try revert u394); (try revert u395); (try revert u396); (try revert u397); (try revert u398); (try revert u399); (try revert u4); (try revert u40); (try revert u400); (try revert u401); (try revert u402)
                             (try revert u403); (try revert u404); (try revert u405); (try revert u406); (try revert u407); (try revert u408); (try revert u409); (try revert u41); (try revert u410); (try revert u411); (try revert u412); (try revert u413); (try revert u414); (try revert u415); (try revert u416); (try revert u417); (try revert u418); (try revert u419); (try revert u42); (try revert u420); (try revert u421); (try revert u422); (try revert u423); (try revert u424); (try revert u425)
                             (try revert u426); (try revert u427); (try revert u428); (try revert u429); (try revert u43); (try revert u430); (try revert u431); (try revert u432); (try revert u433); (try revert u434); (try revert u435); (try revert u436); (try revert u437); (try revert u438); (try revert u439); (try revert u44); (try revert u440); (try revert u441); (try revert u442); (try revert u443); (try revert u444); (try revert u445); (try revert u446); (try revert u447); (try revert u448)
                             (try revert u449); (try revert u45); (try revert u450); (try revert u451); (try revert u452); (try revert u453); (try revert u454); (try revert u455); (try revert u456); (try revert u457); (try revert u458); (try revert u459); (try revert u46); (try revert u460); (try revert u461); (try revert u462); (try revert u463); (try revert u464); (try revert u465); (try revert u466); (try revert u467); (try revert u468); (try revert u469); (try revert u47); (try revert u470)
                             (try revert u471); (try revert u472); (try revert u473); (try revert u474); (try revert u475); (try revert u476); (try revert u477); (try revert u478); (try revert u479); (try revert u48); (try revert u480); (try revert u481); (try revert u482); (try revert u483); (try revert u484); (try revert u485); (try revert u486); (try revert u487); (try revert u488); (try revert u489); (try revert u49); (try revert u490); (try revert u491); (try revert u492); (try revert u493)
                             (try revert u494); (try revert u495); (try revert u496); (try revert u497); (try revert u498); (try revert u499); (try revert u5); (try revert u50); (try revert u500); (try revert u501); (try revert u502); (try revert u503); (try revert u504); (try revert u505); (try revert u506); (try revert u507); (try revert u508); (try revert u509); (try revert u51); (try revert u510); (try revert u511); (try revert u512); (try revert u513); (try revert u514); (try revert u515)
                             (try revert u516); (try revert u517); (try revert u518); (try revert u519); (try revert u52); (try revert u53); (try revert u54); (try revert u55); (try revert u56); (try revert u57); (try revert u58); (try revert u59); (try revert u6); (try revert u60); (try revert u61); (try revert u62); (try revert u63); (try revert u64); (try revert u65); (try revert u66); (try revert u67); (try revert u68); (try revert u69); (try revert u7); (try revert u70)
                             (try revert u71); (try revert u72); (try revert u73); (try revert u74); (try revert u75); (try revert u76); (try revert u77); (try revert u78); (try revert u79); (try revert u8); (try revert u80); (try revert u81); (try revert u82); (try revert u83); (try revert u84); (try revert u85); (try revert u86); (try revert u87); (try revert u88); (try revert u89); (try revert u9); (try revert u90); (try revert u91); (try revert u92); (try revert u93)
                             (try revert u94); (try revert u95); (try revert u96); (try revert u97); (try revert u98); (try revert u99); (try revert v); (try revert v0); (try revert v1); (try revert v2); (try revert v3); (try revert w); (try revert w'); (try revert w1); (try revert wc); (try revert wo4); (try revert wo5); (try revert wo6); (try revert wo7); (try revert wq); (try revert wr); (try revert ws); (try revert wv); (try revert wx); (try revert wx1)
                             (try revert x); (try revert x0); (try revert x1); (try revert x2); (try revert x3); (try revert y); (try revert y0); (try revert y1); (try revert z0); (try revert z1)
                             repeat (rename_i zz; revert zz)
                             exact HYPL3G.out
                       · try clear HYPL1
                         try clear HYPL2
                         try clear HYPL3A
                         try clear HYPL3B
                         try clear HYPL3C
                         try clear HYPL3D
                         try clear HYPL3E
                         try clear HYPL3F
                         try clear HYPL3G
                         skip
                         repeat (rename_i zz; revert zz)
                         (try revert A); (try revert AllPost); (try revert Arr); (try revert Below); (try revert C12); (try revert C13); (try revert C14); (try revert C15); (try revert C2); (try revert C3); (try revert C4); (try revert C5); (try revert Calls); (try revert D12); (try revert D13); (try revert D14); (try revert D15); (try revert D2); (try revert D3); (try revert D4); (try revert D5); (try revert H1); (try revert H2); (try revert H3); (try revert H4)
                         (try revert H5); (try revert HAL); (try revert HALL); (try revert HARR); (try revert HB); (try revert HB0); (try revert HB01); (try revert HB1); (try revert HB7); (try revert HB8); (try revert HBa); (try revert HBc); (try revert HBc7); (try revert HBl); (try revert HBo); (try revert HC); (try revert HCC); (try revert HCK); (try revert HFE); (try revert HG); (try revert HGF); (try revert HHIT); (try revert HHL); (try revert HJ); (try revert HLW)
                         (try revert HN); (try revert HN1); (try revert HN2); (try revert HN3); (try revert HN4); (try revert HNA); (try revert HNB); (try revert HNle); (try revert HNle'); (try revert HO); (try revert HOV); (try revert HP0); (try revert HP0c); (try revert HPB); (try revert HPB1); (try revert HPBc); (try revert HPL1); (try revert HR); (try revert HSN); (try revert HTG); (try revert HTT); (try revert HW0); (try revert HWK); (try revert HX); (try revert HY)
                         (try revert Hid); (try revert Holds_); (try revert Int); (try revert L); (try revert Lib); (try revert N); (try revert Nat); (try revert NoA); (try revert NoB); (try revert NoG); (try revert NoP); (try revert P); (try revert PB); (try revert PlanAt); (try revert R); (try revert T); (try revert Tryd); (try revert W); (try revert W0); (try revert WB); (try revert World); (try revert a1); (try revert a2); (try revert a3); (try revert a4)
                         (try revert all_any); (try revert atStart); (try revert at_); (try revert at_rule); (try revert b); (try revert below_drewN); (try revert below_two); (try revert beq_eq_false_iff_ne); (try revert besideE); (try revert beside_two); (try revert bv); (try revert bw); (try revert by_cases); (try revert c); (try revert c'); (try revert c0); (try revert c1); (try revert c2); (try revert c3); (try revert c4); (try revert c5); (try revert cap); (try revert checkS); (try revert coresR); (try revert d0)
                         (try revert d2); (try revert d3); (try revert d4); (try revert d5); (try revert e); (try revert fail); (try revert fr); (try revert frameR); (try revert g0); (try revert g1); (try revert gangB); (try revert gang_no1); (try revert gang_no2); (try revert h); (try revert h0); (try revert h1); (try revert h2); (try revert h256); (try revert h8); (try revert hALL); (try revert hArr); (try revert hB); (try revert hB1); (try revert hB7); (try revert hBa)
                         (try revert hBc); (try revert hH1); (try revert hH2); (try revert hH3); (try revert hH4); (try revert hHeld); (try revert hN); (try revert hNle); (try revert hO); (try revert hP); (try revert hR); (try revert hT); (try revert hW0); (try revert hal); (try revert hal1); (try revert hat); (try revert hb0); (try revert hc); (try revert hcc); (try revert hcn); (try revert hcut); (try revert hf0); (try revert hf00); (try revert hf01); (try revert hfe)
                         (try revert hg); (try revert hgf); (try revert hgg); (try revert hit_gang); (try revert hj); (try revert hk); (try revert hkl); (try revert hl); (try revert hl1); (try revert hl2); (try revert hl3); (try revert hl4); (try revert hlt); (try revert hlt3); (try revert hlw); (try revert hlw3); (try revert hn1); (try revert hn2); (try revert hn3); (try revert hn4); (try revert hna); (try revert holds_succ); (try revert hp0); (try revert hpb); (try revert hpb1)
                         (try revert hpp); (try revert hpv); (try revert hrel); (try revert hs); (try revert hv); (try revert hw); (try revert hws); (try revert hwv); (try revert hx); (try revert hx'); (try revert hy); (try revert hy'); (try revert i); (try revert i0); (try revert i1); (try revert i2); (try revert i3); (try revert if_neg); (try revert if_pos); (try revert intOf); (try revert j); (try revert k); (try revert k0); (try revert k00); (try revert k01)
                         (try revert k1); (try revert k10); (try revert k11); (try revert k12); (try revert k2); (try revert k20); (try revert k21); (try revert k22); (try revert k3); (try revert k4); (try revert kept); (try revert l); (try revert l1); (try revert l2); (try revert manyE); (try revert manyR); (try revert mem_at); (try revert n); (try revert n1); (try revert n2); (try revert n3); (try revert n4); (try revert none); (try revert none_order); (try revert none_rg)
                         (try revert nq); (try revert o); (try revert o1); (try revert o2); (try revert p); (try revert p0); (try revert p1); (try revert p2); (try revert p3); (try revert partsR); (try revert pl); (try revert plV_cells); (try revert plW); (try revert plW_wf); (try revert places); (try revert placesTo_all); (try revert placesTo_len); (try revert planV); (try revert q); (try revert q'); (try revert q0); (try revert q1); (try revert q2); (try revert q3); (try revert q4)
                         (try revert refOverlap_any); (try revert refTogether_any); (try revert rename); (try revert ret_two); (try revert round); (try revert some); (try revert t0); (try revert t1); (try revert this); (try revert togB); (try revert twoE); (try revert u0); (try revert u1); (try revert u10); (try revert u100); (try revert u101); (try revert u102); (try revert u103); (try revert u104); (try revert u105); (try revert u106); (try revert u107); (try revert u108); (try revert u109); (try revert u11)
                         (try revert u110); (try revert u111); (try revert u112); (try revert u113); (try revert u114); (try revert u115); (try revert u116); (try revert u117); (try revert u118); (try revert u119); (try revert u12); (try revert u120); (try revert u121); (try revert u122); (try revert u123); (try revert u124); (try revert u125); (try revert u126); (try revert u127); (try revert u128); (try revert u129); (try revert u13); (try revert u130); (try revert u131); (try revert u132)
                         (try revert u133); (try revert u134); (try revert u135); (try revert u136); (try revert u137); (try revert u138); (try revert u139); (try revert u14); (try revert u140); (try revert u141); (try revert u142); (try revert u143); (try revert u144); (try revert u145); (try revert u146); (try revert u147); (try revert u148); (try revert u149); (try revert u15); (try revert u150); (try revert u151); (try revert u152); (try revert u153); (try revert u154); (try revert u155)
                         (try revert u156); (try revert u157); (try revert u158); (try revert u159); (try revert u16); (try revert u160); (try revert u161); (try revert u162); (try revert u163); (try revert u164); (try revert u165); (try revert u166); (try revert u167); (try revert u168); (try revert u169); (try revert u17); (try revert u170); (try revert u171); (try revert u172); (try revert u173); (try revert u174); (try revert u175); (try revert u176); (try revert u177); (try revert u178)
                         (try revert u179); (try revert u18); (try revert u180); (try revert u181); (try revert u182); (try revert u183); (try revert u184); (try revert u185); (try revert u186); (try revert u187); (try revert u188); (try revert u189); (try revert u19); (try revert u190); (try revert u191); (try revert u192); (try revert u193); (try revert u194); (try revert u195); (try revert u196); (try revert u197); (try revert u198); (try revert u199); (try revert u2); (try revert u20)
                         (try revert u200); (try revert u201); (try revert u202); (try revert u203); (try revert u204); (try revert u205); (try revert u206); (try revert u207); (try revert u208); (try revert u209); (try revert u21); (try revert u210); (try revert u211); (try revert u212); (try revert u213); (try revert u214); (try revert u215); (try revert u216); (try revert u217); (try revert u218); (try revert u219); (try revert u22); (try revert u220); (try revert u221); (try revert u222)
                         (try revert u223); (try revert u224); (try revert u225); (try revert u226); (try revert u227); (try revert u228); (try revert u229); (try revert u23); (try revert u230); (try revert u231); (try revert u232); (try revert u233); (try revert u234); (try revert u235); (try revert u236); (try revert u237); (try revert u238); (try revert u239); (try revert u24); (try revert u240); (try revert u241); (try revert u242); (try revert u243); (try revert u244); (try revert u245)
                         (try revert u246); (try revert u247); (try revert u248); (try revert u249); (try revert u25); (try revert u250); (try revert u251); (try revert u252); (try revert u253); (try revert u254); (try revert u255); (try revert u256); (try revert u257); (try revert u258); (try revert u259); (try revert u26); (try revert u260); (try revert u261); (try revert u262); (try revert u263); (try revert u264); (try revert u265); (try revert u266); (try revert u267); (try revert u268)
                         (try revert u269); (try revert u27); (try revert u270); (try revert u271); (try revert u272); (try revert u273); (try revert u274); (try revert u275); (try revert u276); (try revert u277); (try revert u278); (try revert u279); (try revert u28); (try revert u280); (try revert u281); (try revert u282); (try revert u283); (try revert u284); (try revert u285); (try revert u286); (try revert u287); (try revert u288); (try revert u289); (try revert u29); (try revert u290)
                         (try revert u291); (try revert u292); (try revert u293); (try revert u294); (try revert u295); (try revert u296); (try revert u297); (try revert u298); (try revert u299); (try revert u3); (try revert u30); (try revert u300); (try revert u301); (try revert u302); (try revert u303); (try revert u304); (try revert u305); (try revert u306); (try revert u307); (try revert u308); (try revert u309); (try revert u31); (try revert u310); (try revert u311); (try revert u312)
                         (try revert u313); (try revert u314); (try revert u315); (try revert u316); (try revert u317); (try revert u318); (try revert u319); (try revert u32); (try revert u320); (try revert u321); (try revert u322); (try revert u323); (try revert u324); (try revert u325); (try revert u326); (try revert u327); (try revert u328); (try revert u329); (try revert u33); (try revert u330); (try revert u331); (try revert u332); (try revert u333); (try revert u334); (try revert u335)
                         (try revert u336); (try revert u337); (try revert u338); (try revert u339); (try revert u34); (try revert u340); (try revert u341); (try revert u342); (try revert u343); (try revert u344); (try revert u345); (try revert u346); (try revert u347); (try revert u348); (try revert u349); (try revert u35); (try revert u350); (try revert u351); (try revert u352); (try revert u353); (try revert u354); (try revert u355); (try revert u356); (try revert u357); (try revert u358)
                         (try revert u359); (try revert u36); (try revert u360); (try revert u361); (try revert u362); (try revert u363); (try revert u364); (try revert u365); (try revert u366); (try revert u367); (try revert u368); (try revert u369); (try revert u37); (try revert u370); (try revert u371); (try revert u372); (try revert u373); (try revert u374); (try revert u375); (try revert u376); (try revert u377); (try revert u378); (try revert u379); (try revert u38); (try revert u380)
                         (try revert u381); (try revert u382); (try revert u383); (try revert u384); (try revert u385); (try revert u386); (try revert u387); (try revert u388); (try revert u389); (try revert u39); (try revert u390); (try revert u391); (try revert u392); (try revert u393); (try revert u394); (try revert u395); (try revert u396); (try revert u397); (try revert u398); (try revert u399); (try revert u4); (try revert u40); (try revert u400); (try revert u401); (try revert u402)
                         (try revert u403); (try revert u404); (try revert u405); (try revert u406); (try revert u407); (try revert u408); (try revert u409); (try revert u41); (try revert u410); (try revert u411); (try revert u412); (try revert u413); (try revert u414); (try revert u415); (try revert u416); (try revert u417); (try revert u418); (try revert u419); (try revert u42); (try revert u420); (try revert u421); (try revert u422); (try revert u423); (try revert u424); (try revert u425)
                         (try revert u426); (try revert u427); (try revert u428); (try revert u429); (try revert u43); (try revert u430); (try revert u431); (try revert u432); (try revert u433); (try revert u434); (try revert u435); (try revert u436); (try revert u437); (try revert u438); (try revert u439); (try revert u44); (try revert u440); (try revert u441); (try revert u442); (try revert u443); (try revert u444); (try revert u445); (try revert u446); (try revert u447); (try revert u448)
                         (try revert u449); (try revert u45); (try revert u450); (try revert u451); (try revert u452); (try revert u453); (try revert u454); (try revert u455); (try revert u456); (try revert u457); (try revert u458); (try revert u459); (try revert u46); (try revert u460); (try revert u461); (try revert u462); (try revert u463); (try revert u464); (try revert u465); (try revert u466); (try revert u467); (try revert u468); (try revert u469); (try revert u47); (try revert u470)
                         (try revert u471); (try revert u472); (try revert u473); (try revert u474); (try revert u475); (try revert u476); (try revert u477); (try revert u478); (try revert u479); (try revert u48); (try revert u480); (try revert u481); (try revert u482); (try revert u483); (try revert u484); (try revert u485); (try revert u486); (try revert u487); (try revert u488); (try revert u489); (try revert u49); (try revert u490); (try revert u491); (try revert u492); (try revert u493)
                         (try revert u494); (try revert u495); (try revert u496); (try revert u497); (try revert u498); (try revert u499); (try revert u5); (try revert u50); (try revert u500); (try revert u501); (try revert u502); (try revert u503); (try revert u504); (try revert u505); (try revert u506); (try revert u507); (try revert u508); (try revert u509); (try revert u51); (try revert u510); (try revert u511); (try revert u512); (try revert u513); (try revert u514); (try revert u515)
                         (try revert u516); (try revert u517); (try revert u518); (try revert u519); (try revert u52); (try revert u53); (try revert u54); (try revert u55); (try revert u56); (try revert u57); (try revert u58); (try revert u59); (try revert u6); (try revert u60); (try revert u61); (try revert u62); (try revert u63); (try revert u64); (try revert u65); (try revert u66); (try revert u67); (try revert u68); (try revert u69); (try revert u7); (try revert u70)
                         (try revert u71); (try revert u72); (try revert u73); (try revert u74); (try revert u75); (try revert u76); (try revert u77); (try revert u78); (try revert u79); (try revert u8); (try revert u80); (try revert u81); (try revert u82); (try revert u83); (try revert u84); (try revert u85); (try revert u86); (try revert u87); (try revert u88); (try revert u89); (try revert u9); (try revert u90); (try revert u91); (try revert u92); (try revert u93)
                         (try revert u94); (try revert u95); (try revert u96); (try revert u97); (try revert u98); (try revert u99); (try revert v); (try revert v0); (try revert v1); (try revert v2); (try revert v3); (try revert w); (try revert w'); (try revert w1); (try revert wc); (try revert wo4); (try revert wo5); (try revert wo6); (try revert wo7); (try revert wq); (try revert wr); (try revert ws); (try revert wv); (try revert wx); (try revert wx1)
                         (try revert x); (try revert x0); (try revert x1); (try revert x2); (try revert x3); (try revert y); (try revert y0); (try revert y1); (try revert z0); (try revert z1)
                         repeat (rename_i zz; revert zz)
                         exact HYPL3H.out
                · try clear HYPL1
                  try clear HYPL2
                  try clear HYPL3A
                  try clear HYPL3B
                  try clear HYPL3C
                  try clear HYPL3D
                  try clear HYPL3E
                  try clear HYPL3F
                  try clear HYPL3G
                  try clear HYPL3H
                  obtain rfl : N = l := by omega
                  have hn := HG.out.snoc (by exact beside_none HLW.out HNA.out (by rw [← HN.out]; exact HNB.out))
                  have HNN := Lib.hid hn
                  clear hn c0 c1 c2 c3 c4 c5
                  go_wp2_with fail
                  go_roundw
                  case rel => exact ⟨k + 1, by omega, by go_num, HNN.out, HBl.out⟩
                  case measure => simp [intOf]; omega
          · try clear HYPL1
            try clear HYPL2
            try clear HYPL3A
            try clear HYPL3B
            try clear HYPL3C
            try clear HYPL3D
            try clear HYPL3E
            try clear HYPL3F
            try clear HYPL3G
            try clear HYPL3H
            obtain rfl : N = k := by omega
            go_wp2_with fail
            go_meet
            exact ⟨HG.out, HBo.out⟩
      case rest =>
        try clear HYPL1
        try clear HYPL2
        try clear HYPL3A
        try clear HYPL3B
        try clear HYPL3C
        try clear HYPL3D
        try clear HYPL3E
        try clear HYPL3F
        try clear HYPL3G
        try clear HYPL3H
        obtain ⟨hj, hB⟩ := hcut
        have H6 := Lib.hid (none_gang H5.out (by rw [← HN.out]; exact hj))
        have HBo := Lib.hid hB
        clear hj hB HB
        go_upto_block 10 with fail
        go_cut [14] (fun _ wx => NoPr P n4 ∧ Below wx1.heap.size wx1 wx)
        case first =>
          try clear HYPL1
          try clear HYPL2
          try clear HYPL3A
          try clear HYPL3B
          try clear HYPL3C
          try clear HYPL3D
          try clear HYPL3E
          try clear HYPL3F
          try clear HYPL3G
          try clear HYPL3H
          repeat (rename_i zz; revert zz)
          (try revert A); (try revert AllPost); (try revert Arr); (try revert Below); (try revert C12); (try revert C13); (try revert C14); (try revert C15); (try revert C2); (try revert C3); (try revert C4); (try revert C5); (try revert Calls); (try revert D12); (try revert D13); (try revert D14); (try revert D15); (try revert D2); (try revert D3); (try revert D4); (try revert D5); (try revert H1); (try revert H2); (try revert H3); (try revert H4)
          (try revert H5); (try revert H6); (try revert HAL); (try revert HALL); (try revert HARR); (try revert HB); (try revert HB0); (try revert HB01); (try revert HB1); (try revert HB7); (try revert HB8); (try revert HBa); (try revert HBc); (try revert HBc7); (try revert HBl); (try revert HBo); (try revert HC); (try revert HCC); (try revert HCK); (try revert HFE); (try revert HG); (try revert HGF); (try revert HHIT); (try revert HHL); (try revert HJ)
          (try revert HLW); (try revert HN); (try revert HN1); (try revert HN2); (try revert HN3); (try revert HN4); (try revert HNA); (try revert HNB); (try revert HNN); (try revert HNle); (try revert HNle'); (try revert HO); (try revert HOV); (try revert HP0); (try revert HP0c); (try revert HPB); (try revert HPB1); (try revert HPBc); (try revert HPL1); (try revert HR); (try revert HSN); (try revert HTG); (try revert HTT); (try revert HW0); (try revert HWK)
          (try revert HX); (try revert HY); (try revert Hid); (try revert Holds_); (try revert Int); (try revert L); (try revert Lib); (try revert N); (try revert Nat); (try revert NoA); (try revert NoB); (try revert NoG); (try revert NoP); (try revert NoPr); (try revert P); (try revert PB); (try revert PlanAt); (try revert R); (try revert T); (try revert Tryd); (try revert W); (try revert W0); (try revert WB); (try revert World); (try revert a1)
          (try revert a2); (try revert a3); (try revert a4); (try revert all_any); (try revert atStart); (try revert at_); (try revert at_rule); (try revert b); (try revert below_drewN); (try revert below_two); (try revert beq_eq_false_iff_ne); (try revert besideE); (try revert beside_none); (try revert beside_two); (try revert bv); (try revert bw); (try revert by_cases); (try revert c); (try revert c'); (try revert c0); (try revert c1); (try revert c2); (try revert c3); (try revert c4); (try revert c5)
          (try revert cap); (try revert checkS); (try revert coresR); (try revert d0); (try revert d2); (try revert d3); (try revert d4); (try revert d5); (try revert e); (try revert fail); (try revert fr); (try revert frameR); (try revert g0); (try revert g1); (try revert gangB); (try revert gang_no1); (try revert gang_no2); (try revert h); (try revert h0); (try revert h1); (try revert h2); (try revert h256); (try revert h8); (try revert hALL); (try revert hArr)
          (try revert hB); (try revert hB1); (try revert hB7); (try revert hBa); (try revert hBc); (try revert hH1); (try revert hH2); (try revert hH3); (try revert hH4); (try revert hHeld); (try revert hN); (try revert hNle); (try revert hO); (try revert hP); (try revert hR); (try revert hT); (try revert hW0); (try revert hal); (try revert hal1); (try revert hat); (try revert hb0); (try revert hc); (try revert hcc); (try revert hcn); (try revert hcut)
          (try revert hf0); (try revert hf00); (try revert hf01); (try revert hfe); (try revert hg); (try revert hgf); (try revert hgg); (try revert hit_gang); (try revert hj); (try revert hk); (try revert hkl); (try revert hl); (try revert hl1); (try revert hl2); (try revert hl3); (try revert hl4); (try revert hlt); (try revert hlt3); (try revert hlw); (try revert hlw3); (try revert hn); (try revert hn1); (try revert hn2); (try revert hn3); (try revert hn4)
          (try revert hna); (try revert holds_succ); (try revert hp0); (try revert hpb); (try revert hpb1); (try revert hpp); (try revert hpv); (try revert hrel); (try revert hs); (try revert hv); (try revert hw); (try revert hws); (try revert hwv); (try revert hx); (try revert hx'); (try revert hy); (try revert hy'); (try revert i); (try revert i0); (try revert i1); (try revert i2); (try revert i3); (try revert if_neg); (try revert if_pos); (try revert intOf)
          (try revert j); (try revert k); (try revert k0); (try revert k00); (try revert k01); (try revert k1); (try revert k10); (try revert k11); (try revert k12); (try revert k2); (try revert k20); (try revert k21); (try revert k22); (try revert k3); (try revert k4); (try revert kept); (try revert l); (try revert l1); (try revert l2); (try revert manyE); (try revert manyR); (try revert measure); (try revert mem_at); (try revert n); (try revert n1)
          (try revert n2); (try revert n3); (try revert n4); (try revert none); (try revert none_gang); (try revert none_order); (try revert none_rg); (try revert nq); (try revert o); (try revert o1); (try revert o2); (try revert p); (try revert p0); (try revert p1); (try revert p2); (try revert p3); (try revert partsR); (try revert pl); (try revert plV_cells); (try revert plW); (try revert plW_wf); (try revert places); (try revert placesTo_all); (try revert placesTo_len); (try revert planV)
          (try revert q); (try revert q'); (try revert q0); (try revert q1); (try revert q2); (try revert q3); (try revert q4); (try revert refOverlap_any); (try revert refTogether_any); (try revert rel); (try revert rename); (try revert ret_two); (try revert round); (try revert some); (try revert t0); (try revert t1); (try revert this); (try revert togB); (try revert twoE); (try revert u0); (try revert u1); (try revert u10); (try revert u100); (try revert u101); (try revert u102)
          (try revert u103); (try revert u104); (try revert u105); (try revert u106); (try revert u107); (try revert u108); (try revert u109); (try revert u11); (try revert u110); (try revert u111); (try revert u112); (try revert u113); (try revert u114); (try revert u115); (try revert u116); (try revert u117); (try revert u118); (try revert u119); (try revert u12); (try revert u120); (try revert u121); (try revert u122); (try revert u123); (try revert u124); (try revert u125)
          (try revert u126); (try revert u127); (try revert u128); (try revert u129); (try revert u13); (try revert u130); (try revert u131); (try revert u132); (try revert u133); (try revert u134); (try revert u135); (try revert u136); (try revert u137); (try revert u138); (try revert u139); (try revert u14); (try revert u140); (try revert u141); (try revert u142); (try revert u143); (try revert u144); (try revert u145); (try revert u146); (try revert u147); (try revert u148)
          (try revert u149); (try revert u15); (try revert u150); (try revert u151); (try revert u152); (try revert u153); (try revert u154); (try revert u155); (try revert u156); (try revert u157); (try revert u158); (try revert u159); (try revert u16); (try revert u160); (try revert u161); (try revert u162); (try revert u163); (try revert u164); (try revert u165); (try revert u166); (try revert u167); (try revert u168); (try revert u169); (try revert u17); (try revert u170)
          (try revert u171); (try revert u172); (try revert u173); (try revert u174); (try revert u175); (try revert u176); (try revert u177); (try revert u178); (try revert u179); (try revert u18); (try revert u180); (try revert u181); (try revert u182); (try revert u183); (try revert u184); (try revert u185); (try revert u186); (try revert u187); (try revert u188); (try revert u189); (try revert u19); (try revert u190); (try revert u191); (try revert u192); (try revert u193)
          (try revert u194); (try revert u195); (try revert u196); (try revert u197); (try revert u198); (try revert u199); (try revert u2); (try revert u20); (try revert u200); (try revert u201); (try revert u202); (try revert u203); (try revert u204); (try revert u205); (try revert u206); (try revert u207); (try revert u208); (try revert u209); (try revert u21); (try revert u210); (try revert u211); (try revert u212); (try revert u213); (try revert u214); (try revert u215)
          (try revert u216); (try revert u217); (try revert u218); (try revert u219); (try revert u22); (try revert u220); (try revert u221); (try revert u222); (try revert u223); (try revert u224); (try revert u225); (try revert u226); (try revert u227); (try revert u228); (try revert u229); (try revert u23); (try revert u230); (try revert u231); (try revert u232); (try revert u233); (try revert u234); (try revert u235); (try revert u236); (try revert u237); (try revert u238)
          (try revert u239); (try revert u24); (try revert u240); (try revert u241); (try revert u242); (try revert u243); (try revert u244); (try revert u245); (try revert u246); (try revert u247); (try revert u248); (try revert u249); (try revert u25); (try revert u250); (try revert u251); (try revert u252); (try revert u253); (try revert u254); (try revert u255); (try revert u256); (try revert u257); (try revert u258); (try revert u259); (try revert u26); (try revert u260)
          (try revert u261); (try revert u262); (try revert u263); (try revert u264); (try revert u265); (try revert u266); (try revert u267); (try revert u268); (try revert u269); (try revert u27); (try revert u270); (try revert u271); (try revert u272); (try revert u273); (try revert u274); (try revert u275); (try revert u276); (try revert u277); (try revert u278); (try revert u279); (try revert u28); (try revert u280); (try revert u281); (try revert u282); (try revert u283)
          (try revert u284); (try revert u285); (try revert u286); (try revert u287); (try revert u288); (try revert u289); (try revert u29); (try revert u290); (try revert u291); (try revert u292); (try revert u293); (try revert u294); (try revert u295); (try revert u296); (try revert u297); (try revert u298); (try revert u299); (try revert u3); (try revert u30); (try revert u300); (try revert u301); (try revert u302); (try revert u303); (try revert u304); (try revert u305)
          (try revert u306); (try revert u307); (try revert u308); (try revert u309); (try revert u31); (try revert u310); (try revert u311); (try revert u312); (try revert u313); (try revert u314); (try revert u315); (try revert u316); (try revert u317); (try revert u318); (try revert u319); (try revert u32); (try revert u320); (try revert u321); (try revert u322); (try revert u323); (try revert u324); (try revert u325); (try revert u326); (try revert u327); (try revert u328)
          (try revert u329); (try revert u33); (try revert u330); (try revert u331); (try revert u332); (try revert u333); (try revert u334); (try revert u335); (try revert u336); (try revert u337); (try revert u338); (try revert u339); (try revert u34); (try revert u340); (try revert u341); (try revert u342); (try revert u343); (try revert u344); (try revert u345); (try revert u346); (try revert u347); (try revert u348); (try revert u349); (try revert u35); (try revert u350)
          (try revert u351); (try revert u352); (try revert u353); (try revert u354); (try revert u355); (try revert u356); (try revert u357); (try revert u358); (try revert u359); (try revert u36); (try revert u360); (try revert u361); (try revert u362); (try revert u363); (try revert u364); (try revert u365); (try revert u366); (try revert u367); (try revert u368); (try revert u369); (try revert u37); (try revert u370); (try revert u371); (try revert u372); (try revert u373)
          (try revert u374); (try revert u375); (try revert u376); (try revert u377); (try revert u378); (try revert u379); (try revert u38); (try revert u380); (try revert u381); (try revert u382); (try revert u383); (try revert u384); (try revert u385); (try revert u386); (try revert u387); (try revert u388); (try revert u389); (try revert u39); (try revert u390); (try revert u391); (try revert u392); (try revert u393); (try revert u394); (try revert u395); (try revert u396)
          (try revert u397); (try revert u398); (try revert u399); (try revert u4); (try revert u40); (try revert u400); (try revert u401); (try revert u402); (try revert u403); (try revert u404); (try revert u405); (try revert u406); (try revert u407); (try revert u408); (try revert u409); (try revert u41); (try revert u410); (try revert u411); (try revert u412); (try revert u413); (try revert u414); (try revert u415); (try revert u416); (try revert u417); (try revert u418)
          (try revert u419); (try revert u42); (try revert u420); (try revert u421); (try revert u422); (try revert u423); (try revert u424); (try revert u425); (try revert u426); (try revert u427); (try revert u428); (try revert u429); (try revert u43); (try revert u430); (try revert u431); (try revert u432); (try revert u433); (try revert u434); (try revert u435); (try revert u436); (try revert u437); (try revert u438); (try revert u439); (try revert u44); (try revert u440)
          (try revert u441); (try revert u442); (try revert u443); (try revert u444); (try revert u445); (try revert u446); (try revert u447); (try revert u448); (try revert u449); (try revert u45); (try revert u450); (try revert u451); (try revert u452); (try revert u453); (try revert u454); (try revert u455); (try revert u456); (try revert u457); (try revert u458); (try revert u459); (try revert u46); (try revert u460); (try revert u461); (try revert u462); (try revert u463)
          (try revert u464); (try revert u465); (try revert u466); (try revert u467); (try revert u468); (try revert u469); (try revert u47); (try revert u470); (try revert u471); (try revert u472); (try revert u473); (try revert u474); (try revert u475); (try revert u476); (try revert u477); (try revert u478); (try revert u479); (try revert u48); (try revert u480); (try revert u481); (try revert u482); (try revert u483); (try revert u484); (try revert u485); (try revert u486)
          (try revert u487); (try revert u488); (try revert u489); (try revert u49); (try revert u490); (try revert u491); (try revert u492); (try revert u493); (try revert u494); (try revert u495); (try revert u496); (try revert u497); (try revert u498); (try revert u499); (try revert u5); (try revert u50); (try revert u500); (try revert u501); (try revert u502); (try revert u503); (try revert u504); (try revert u505); (try revert u506); (try revert u507); (try revert u508)
          (try revert u509); (try revert u51); (try revert u510); (try revert u511); (try revert u512); (try revert u513); (try revert u514); (try revert u515); (try revert u516); (try revert u517); (try revert u518); (try revert u519); (try revert u52); (try revert u53); (try revert u54); (try revert u55); (try revert u56); (try revert u57); (try revert u58); (try revert u59); (try revert u6); (try revert u60); (try revert u61); (try revert u62); (try revert u63)
          (try revert u64); (try revert u65); (try revert u66); (try revert u67); (try revert u68); (try revert u69); (try revert u7); (try revert u70); (try revert u71); (try revert u72); (try revert u73); (try revert u74); (try revert u75); (try revert u76); (try revert u77); (try revert u78); (try revert u79); (try revert u8); (try revert u80); (try revert u81); (try revert u82); (try revert u83); (try revert u84); (try revert u85); (try revert u86)
          (try revert u87); (try revert u88); (try revert u89); (try revert u9); (try revert u90); (try revert u91); (try revert u92); (try revert u93); (try revert u94); (try revert u95); (try revert u96); (try revert u97); (try revert u98); (try revert u99); (try revert v); (try revert v0); (try revert v1); (try revert v2); (try revert v3); (try revert w); (try revert w'); (try revert w1); (try revert wc); (try revert wo4); (try revert wo5)
          (try revert wo6); (try revert wo7); (try revert wq); (try revert wr); (try revert ws); (try revert wv); (try revert wx); (try revert wx1); (try revert x); (try revert x0); (try revert x1); (try revert x2); (try revert x3); (try revert y); (try revert y0); (try revert y1); (try revert z0); (try revert z1)
          repeat (rename_i zz; revert zz)
          exact HYPL4.out
        case rest =>
          try clear HYPL1
          try clear HYPL2
          try clear HYPL3A
          try clear HYPL3B
          try clear HYPL3C
          try clear HYPL3D
          try clear HYPL3E
          try clear HYPL3F
          try clear HYPL3G
          try clear HYPL3H
          try clear HYPL4
          obtain ⟨hj, hB⟩ := hcut
          have H7 := Lib.hid (none_pair H6.out (by rw [← HN4.out]; exact hj))
          have HB7 := Lib.hid hB
          clear hj hB HBo
          go_upto_block 18 with fail
          go_cut [19] (fun _ wx => NoCh P n3 ∧ Below wx1.heap.size wx1 wx)
          case first =>
            try clear HYPL1
            try clear HYPL2
            try clear HYPL3A
            try clear HYPL3B
            try clear HYPL3C
            try clear HYPL3D
            try clear HYPL3E
            try clear HYPL3F
            try clear HYPL3G
            try clear HYPL3H
            try clear HYPL4
            repeat (rename_i zz; revert zz)
            (try revert A); (try revert AllPost); (try revert Arr); (try revert Below); (try revert C12); (try revert C13); (try revert C14); (try revert C15); (try revert C2); (try revert C3); (try revert C4); (try revert C5); (try revert Calls); (try revert D12); (try revert D13); (try revert D14); (try revert D15); (try revert D2); (try revert D3); (try revert D4); (try revert D5); (try revert H1); (try revert H2); (try revert H3); (try revert H4)
            (try revert H5); (try revert H6); (try revert H7); (try revert HAL); (try revert HALL); (try revert HARR); (try revert HB); (try revert HB0); (try revert HB01); (try revert HB1); (try revert HB7); (try revert HB8); (try revert HBa); (try revert HBc); (try revert HBc7); (try revert HBl); (try revert HBo); (try revert HC); (try revert HCC); (try revert HCK); (try revert HFE); (try revert HG); (try revert HGF); (try revert HHIT); (try revert HHL)
            (try revert HJ); (try revert HLW); (try revert HN); (try revert HN1); (try revert HN2); (try revert HN3); (try revert HN4); (try revert HNA); (try revert HNB); (try revert HNN); (try revert HNle); (try revert HNle'); (try revert HO); (try revert HOV); (try revert HP0); (try revert HP0c); (try revert HPB); (try revert HPB1); (try revert HPBc); (try revert HPL1); (try revert HR); (try revert HSN); (try revert HTG); (try revert HTT); (try revert HW0)
            (try revert HWK); (try revert HX); (try revert HY); (try revert Hid); (try revert Holds_); (try revert Int); (try revert L); (try revert Lib); (try revert N); (try revert Nat); (try revert NoA); (try revert NoB); (try revert NoCh); (try revert NoG); (try revert NoP); (try revert NoPr); (try revert P); (try revert PB); (try revert PlanAt); (try revert R); (try revert T); (try revert Tryd); (try revert W); (try revert W0); (try revert WB)
            (try revert World); (try revert a1); (try revert a2); (try revert a3); (try revert a4); (try revert all_any); (try revert atStart); (try revert at_); (try revert at_rule); (try revert b); (try revert below_drewN); (try revert below_two); (try revert beq_eq_false_iff_ne); (try revert besideE); (try revert beside_none); (try revert beside_two); (try revert bv); (try revert bw); (try revert by_cases); (try revert c); (try revert c'); (try revert c0); (try revert c1); (try revert c2); (try revert c3)
            (try revert c4); (try revert c5); (try revert cap); (try revert checkS); (try revert coresR); (try revert d0); (try revert d2); (try revert d3); (try revert d4); (try revert d5); (try revert e); (try revert fail); (try revert fr); (try revert frameR); (try revert g0); (try revert g1); (try revert gangB); (try revert gang_no1); (try revert gang_no2); (try revert h); (try revert h0); (try revert h1); (try revert h2); (try revert h256); (try revert h8)
            (try revert hALL); (try revert hArr); (try revert hB); (try revert hB1); (try revert hB7); (try revert hBa); (try revert hBc); (try revert hH1); (try revert hH2); (try revert hH3); (try revert hH4); (try revert hHeld); (try revert hN); (try revert hNle); (try revert hO); (try revert hP); (try revert hR); (try revert hT); (try revert hW0); (try revert hal); (try revert hal1); (try revert hat); (try revert hb0); (try revert hc); (try revert hcc)
            (try revert hcn); (try revert hcut); (try revert hf0); (try revert hf00); (try revert hf01); (try revert hfe); (try revert hg); (try revert hgf); (try revert hgg); (try revert hit_gang); (try revert hj); (try revert hk); (try revert hkl); (try revert hl); (try revert hl1); (try revert hl2); (try revert hl3); (try revert hl4); (try revert hlt); (try revert hlt3); (try revert hlw); (try revert hlw3); (try revert hn); (try revert hn1); (try revert hn2)
            (try revert hn3); (try revert hn4); (try revert hna); (try revert holds_succ); (try revert hp0); (try revert hpb); (try revert hpb1); (try revert hpp); (try revert hpv); (try revert hrel); (try revert hs); (try revert hv); (try revert hw); (try revert hws); (try revert hwv); (try revert hx); (try revert hx'); (try revert hy); (try revert hy'); (try revert i); (try revert i0); (try revert i1); (try revert i2); (try revert i3); (try revert if_neg)
            (try revert if_pos); (try revert intOf); (try revert j); (try revert k); (try revert k0); (try revert k00); (try revert k01); (try revert k1); (try revert k10); (try revert k11); (try revert k12); (try revert k2); (try revert k20); (try revert k21); (try revert k22); (try revert k3); (try revert k4); (try revert kept); (try revert l); (try revert l1); (try revert l2); (try revert manyE); (try revert manyR); (try revert measure); (try revert mem_at)
            (try revert n); (try revert n1); (try revert n2); (try revert n3); (try revert n4); (try revert none); (try revert none_gang); (try revert none_order); (try revert none_pair); (try revert none_rg); (try revert nq); (try revert o); (try revert o1); (try revert o2); (try revert p); (try revert p0); (try revert p1); (try revert p2); (try revert p3); (try revert partsR); (try revert pl); (try revert plV_cells); (try revert plW); (try revert plW_wf); (try revert places)
            (try revert placesTo_all); (try revert placesTo_len); (try revert planV); (try revert q); (try revert q'); (try revert q0); (try revert q1); (try revert q2); (try revert q3); (try revert q4); (try revert refOverlap_any); (try revert refTogether_any); (try revert rel); (try revert rename); (try revert ret_two); (try revert round); (try revert some); (try revert t0); (try revert t1); (try revert this); (try revert togB); (try revert twoE); (try revert u0); (try revert u1); (try revert u10)
            (try revert u100); (try revert u101); (try revert u102); (try revert u103); (try revert u104); (try revert u105); (try revert u106); (try revert u107); (try revert u108); (try revert u109); (try revert u11); (try revert u110); (try revert u111); (try revert u112); (try revert u113); (try revert u114); (try revert u115); (try revert u116); (try revert u117); (try revert u118); (try revert u119); (try revert u12); (try revert u120); (try revert u121); (try revert u122)
            (try revert u123); (try revert u124); (try revert u125); (try revert u126); (try revert u127); (try revert u128); (try revert u129); (try revert u13); (try revert u130); (try revert u131); (try revert u132); (try revert u133); (try revert u134); (try revert u135); (try revert u136); (try revert u137); (try revert u138); (try revert u139); (try revert u14); (try revert u140); (try revert u141); (try revert u142); (try revert u143); (try revert u144); (try revert u145)
            (try revert u146); (try revert u147); (try revert u148); (try revert u149); (try revert u15); (try revert u150); (try revert u151); (try revert u152); (try revert u153); (try revert u154); (try revert u155); (try revert u156); (try revert u157); (try revert u158); (try revert u159); (try revert u16); (try revert u160); (try revert u161); (try revert u162); (try revert u163); (try revert u164); (try revert u165); (try revert u166); (try revert u167); (try revert u168)
            (try revert u169); (try revert u17); (try revert u170); (try revert u171); (try revert u172); (try revert u173); (try revert u174); (try revert u175); (try revert u176); (try revert u177); (try revert u178); (try revert u179); (try revert u18); (try revert u180); (try revert u181); (try revert u182); (try revert u183); (try revert u184); (try revert u185); (try revert u186); (try revert u187); (try revert u188); (try revert u189); (try revert u19); (try revert u190)
            (try revert u191); (try revert u192); (try revert u193); (try revert u194); (try revert u195); (try revert u196); (try revert u197); (try revert u198); (try revert u199); (try revert u2); (try revert u20); (try revert u200); (try revert u201); (try revert u202); (try revert u203); (try revert u204); (try revert u205); (try revert u206); (try revert u207); (try revert u208); (try revert u209); (try revert u21); (try revert u210); (try revert u211); (try revert u212)
            (try revert u213); (try revert u214); (try revert u215); (try revert u216); (try revert u217); (try revert u218); (try revert u219); (try revert u22); (try revert u220); (try revert u221); (try revert u222); (try revert u223); (try revert u224); (try revert u225); (try revert u226); (try revert u227); (try revert u228); (try revert u229); (try revert u23); (try revert u230); (try revert u231); (try revert u232); (try revert u233); (try revert u234); (try revert u235)
            (try revert u236); (try revert u237); (try revert u238); (try revert u239); (try revert u24); (try revert u240); (try revert u241); (try revert u242); (try revert u243); (try revert u244); (try revert u245); (try revert u246); (try revert u247); (try revert u248); (try revert u249); (try revert u25); (try revert u250); (try revert u251); (try revert u252); (try revert u253); (try revert u254); (try revert u255); (try revert u256); (try revert u257); (try revert u258)
            (try revert u259); (try revert u26); (try revert u260); (try revert u261); (try revert u262); (try revert u263); (try revert u264); (try revert u265); (try revert u266); (try revert u267); (try revert u268); (try revert u269); (try revert u27); (try revert u270); (try revert u271); (try revert u272); (try revert u273); (try revert u274); (try revert u275); (try revert u276); (try revert u277); (try revert u278); (try revert u279); (try revert u28); (try revert u280)
            (try revert u281); (try revert u282); (try revert u283); (try revert u284); (try revert u285); (try revert u286); (try revert u287); (try revert u288); (try revert u289); (try revert u29); (try revert u290); (try revert u291); (try revert u292); (try revert u293); (try revert u294); (try revert u295); (try revert u296); (try revert u297); (try revert u298); (try revert u299); (try revert u3); (try revert u30); (try revert u300); (try revert u301); (try revert u302)
            (try revert u303); (try revert u304); (try revert u305); (try revert u306); (try revert u307); (try revert u308); (try revert u309); (try revert u31); (try revert u310); (try revert u311); (try revert u312); (try revert u313); (try revert u314); (try revert u315); (try revert u316); (try revert u317); (try revert u318); (try revert u319); (try revert u32); (try revert u320); (try revert u321); (try revert u322); (try revert u323); (try revert u324); (try revert u325)
            (try revert u326); (try revert u327); (try revert u328); (try revert u329); (try revert u33); (try revert u330); (try revert u331); (try revert u332); (try revert u333); (try revert u334); (try revert u335); (try revert u336); (try revert u337); (try revert u338); (try revert u339); (try revert u34); (try revert u340); (try revert u341); (try revert u342); (try revert u343); (try revert u344); (try revert u345); (try revert u346); (try revert u347); (try revert u348)
            (try revert u349); (try revert u35); (try revert u350); (try revert u351); (try revert u352); (try revert u353); (try revert u354); (try revert u355); (try revert u356); (try revert u357); (try revert u358); (try revert u359); (try revert u36); (try revert u360); (try revert u361); (try revert u362); (try revert u363); (try revert u364); (try revert u365); (try revert u366); (try revert u367); (try revert u368); (try revert u369); (try revert u37); (try revert u370)
            (try revert u371); (try revert u372); (try revert u373); (try revert u374); (try revert u375); (try revert u376); (try revert u377); (try revert u378); (try revert u379); (try revert u38); (try revert u380); (try revert u381); (try revert u382); (try revert u383); (try revert u384); (try revert u385); (try revert u386); (try revert u387); (try revert u388); (try revert u389); (try revert u39); (try revert u390); (try revert u391); (try revert u392); (try revert u393)
            (try revert u394); (try revert u395); (try revert u396); (try revert u397); (try revert u398); (try revert u399); (try revert u4); (try revert u40); (try revert u400); (try revert u401); (try revert u402); (try revert u403); (try revert u404); (try revert u405); (try revert u406); (try revert u407); (try revert u408); (try revert u409); (try revert u41); (try revert u410); (try revert u411); (try revert u412); (try revert u413); (try revert u414); (try revert u415)
            (try revert u416); (try revert u417); (try revert u418); (try revert u419); (try revert u42); (try revert u420); (try revert u421); (try revert u422); (try revert u423); (try revert u424); (try revert u425); (try revert u426); (try revert u427); (try revert u428); (try revert u429); (try revert u43); (try revert u430); (try revert u431); (try revert u432); (try revert u433); (try revert u434); (try revert u435); (try revert u436); (try revert u437); (try revert u438)
            (try revert u439); (try revert u44); (try revert u440); (try revert u441); (try revert u442); (try revert u443); (try revert u444); (try revert u445); (try revert u446); (try revert u447); (try revert u448); (try revert u449); (try revert u45); (try revert u450); (try revert u451); (try revert u452); (try revert u453); (try revert u454); (try revert u455); (try revert u456); (try revert u457); (try revert u458); (try revert u459); (try revert u46); (try revert u460)
            (try revert u461); (try revert u462); (try revert u463); (try revert u464); (try revert u465); (try revert u466); (try revert u467); (try revert u468); (try revert u469); (try revert u47); (try revert u470); (try revert u471); (try revert u472); (try revert u473); (try revert u474); (try revert u475); (try revert u476); (try revert u477); (try revert u478); (try revert u479); (try revert u48); (try revert u480); (try revert u481); (try revert u482); (try revert u483)
            (try revert u484); (try revert u485); (try revert u486); (try revert u487); (try revert u488); (try revert u489); (try revert u49); (try revert u490); (try revert u491); (try revert u492); (try revert u493); (try revert u494); (try revert u495); (try revert u496); (try revert u497); (try revert u498); (try revert u499); (try revert u5); (try revert u50); (try revert u500); (try revert u501); (try revert u502); (try revert u503); (try revert u504); (try revert u505)
            (try revert u506); (try revert u507); (try revert u508); (try revert u509); (try revert u51); (try revert u510); (try revert u511); (try revert u512); (try revert u513); (try revert u514); (try revert u515); (try revert u516); (try revert u517); (try revert u518); (try revert u519); (try revert u52); (try revert u53); (try revert u54); (try revert u55); (try revert u56); (try revert u57); (try revert u58); (try revert u59); (try revert u6); (try revert u60)
            (try revert u61); (try revert u62); (try revert u63); (try revert u64); (try revert u65); (try revert u66); (try revert u67); (try revert u68); (try revert u69); (try revert u7); (try revert u70); (try revert u71); (try revert u72); (try revert u73); (try revert u74); (try revert u75); (try revert u76); (try revert u77); (try revert u78); (try revert u79); (try revert u8); (try revert u80); (try revert u81); (try revert u82); (try revert u83)
            (try revert u84); (try revert u85); (try revert u86); (try revert u87); (try revert u88); (try revert u89); (try revert u9); (try revert u90); (try revert u91); (try revert u92); (try revert u93); (try revert u94); (try revert u95); (try revert u96); (try revert u97); (try revert u98); (try revert u99); (try revert v); (try revert v0); (try revert v1); (try revert v2); (try revert v3); (try revert w); (try revert w'); (try revert w1)
            (try revert wc); (try revert wo4); (try revert wo5); (try revert wo6); (try revert wo7); (try revert wq); (try revert wr); (try revert ws); (try revert wv); (try revert wx); (try revert wx1); (try revert x); (try revert x0); (try revert x1); (try revert x2); (try revert x3); (try revert y); (try revert y0); (try revert y1); (try revert z0); (try revert z1)
            repeat (rename_i zz; revert zz)
            exact HYPL5.out
          case rest =>
            try clear HYPL1
            try clear HYPL2
            try clear HYPL3A
            try clear HYPL3B
            try clear HYPL3C
            try clear HYPL3D
            try clear HYPL3E
            try clear HYPL3F
            try clear HYPL3G
            try clear HYPL3H
            try clear HYPL4
            try clear HYPL5
            obtain ⟨hj, hB⟩ := hcut
            have H8 := Lib.hid (none_chan H7.out (by rw [← HN3.out]; exact hj))
            have HB8 := Lib.hid hB
            clear hj hB HB7
            go_upto_block 20 with fail
            go_cut [23] (fun _ wx => NoQ P n2 ∧ Below wx1.heap.size wx1 wx)
            case first =>
              try clear HYPL1
              try clear HYPL2
              try clear HYPL3A
              try clear HYPL3B
              try clear HYPL3C
              try clear HYPL3D
              try clear HYPL3E
              try clear HYPL3F
              try clear HYPL3G
              try clear HYPL3H
              try clear HYPL4
              try clear HYPL5
              repeat (rename_i zz; revert zz)
              (try revert A); (try revert AllPost); (try revert Arr); (try revert Below); (try revert C12); (try revert C13); (try revert C14); (try revert C15); (try revert C2); (try revert C3); (try revert C4); (try revert C5); (try revert Calls); (try revert D12); (try revert D13); (try revert D14); (try revert D15); (try revert D2); (try revert D3); (try revert D4); (try revert D5); (try revert H1); (try revert H2); (try revert H3); (try revert H4)
              (try revert H5); (try revert H6); (try revert H7); (try revert H8); (try revert HAL); (try revert HALL); (try revert HARR); (try revert HB); (try revert HB0); (try revert HB01); (try revert HB1); (try revert HB7); (try revert HB8); (try revert HBa); (try revert HBc); (try revert HBc7); (try revert HBl); (try revert HBo); (try revert HC); (try revert HCC); (try revert HCK); (try revert HFE); (try revert HG); (try revert HGF); (try revert HHIT)
              (try revert HHL); (try revert HJ); (try revert HLW); (try revert HN); (try revert HN1); (try revert HN2); (try revert HN3); (try revert HN4); (try revert HNA); (try revert HNB); (try revert HNN); (try revert HNle); (try revert HNle'); (try revert HO); (try revert HOV); (try revert HP0); (try revert HP0c); (try revert HPB); (try revert HPB1); (try revert HPBc); (try revert HPL1); (try revert HR); (try revert HSN); (try revert HTG); (try revert HTT)
              (try revert HW0); (try revert HWK); (try revert HX); (try revert HY); (try revert Hid); (try revert Holds_); (try revert Int); (try revert L); (try revert Lib); (try revert N); (try revert Nat); (try revert NoA); (try revert NoB); (try revert NoCh); (try revert NoG); (try revert NoP); (try revert NoPr); (try revert NoQ); (try revert P); (try revert PB); (try revert PlanAt); (try revert R); (try revert T); (try revert Tryd); (try revert W)
              (try revert W0); (try revert WB); (try revert World); (try revert a1); (try revert a2); (try revert a3); (try revert a4); (try revert all_any); (try revert atStart); (try revert at_); (try revert at_rule); (try revert b); (try revert below_drewN); (try revert below_two); (try revert beq_eq_false_iff_ne); (try revert besideE); (try revert beside_none); (try revert beside_two); (try revert bv); (try revert bw); (try revert by_cases); (try revert c); (try revert c'); (try revert c0); (try revert c1)
              (try revert c2); (try revert c3); (try revert c4); (try revert c5); (try revert cap); (try revert checkS); (try revert coresR); (try revert d0); (try revert d2); (try revert d3); (try revert d4); (try revert d5); (try revert e); (try revert fail); (try revert fr); (try revert frameR); (try revert g0); (try revert g1); (try revert gangB); (try revert gang_no1); (try revert gang_no2); (try revert h); (try revert h0); (try revert h1); (try revert h2)
              (try revert h256); (try revert h8); (try revert hALL); (try revert hArr); (try revert hB); (try revert hB1); (try revert hB7); (try revert hBa); (try revert hBc); (try revert hH1); (try revert hH2); (try revert hH3); (try revert hH4); (try revert hHeld); (try revert hN); (try revert hNle); (try revert hO); (try revert hP); (try revert hR); (try revert hT); (try revert hW0); (try revert hal); (try revert hal1); (try revert hat); (try revert hb0)
              (try revert hc); (try revert hcc); (try revert hcn); (try revert hcut); (try revert hf0); (try revert hf00); (try revert hf01); (try revert hfe); (try revert hg); (try revert hgf); (try revert hgg); (try revert hit_gang); (try revert hj); (try revert hk); (try revert hkl); (try revert hl); (try revert hl1); (try revert hl2); (try revert hl3); (try revert hl4); (try revert hlt); (try revert hlt3); (try revert hlw); (try revert hlw3); (try revert hn)
              (try revert hn1); (try revert hn2); (try revert hn3); (try revert hn4); (try revert hna); (try revert holds_succ); (try revert hp0); (try revert hpb); (try revert hpb1); (try revert hpp); (try revert hpv); (try revert hrel); (try revert hs); (try revert hv); (try revert hw); (try revert hws); (try revert hwv); (try revert hx); (try revert hx'); (try revert hy); (try revert hy'); (try revert i); (try revert i0); (try revert i1); (try revert i2)
              (try revert i3); (try revert if_neg); (try revert if_pos); (try revert intOf); (try revert j); (try revert k); (try revert k0); (try revert k00); (try revert k01); (try revert k1); (try revert k10); (try revert k11); (try revert k12); (try revert k2); (try revert k20); (try revert k21); (try revert k22); (try revert k3); (try revert k4); (try revert kept); (try revert l); (try revert l1); (try revert l2); (try revert manyE); (try revert manyR)
              (try revert measure); (try revert mem_at); (try revert n); (try revert n1); (try revert n2); (try revert n3); (try revert n4); (try revert none); (try revert none_chan); (try revert none_gang); (try revert none_order); (try revert none_pair); (try revert none_rg); (try revert nq); (try revert o); (try revert o1); (try revert o2); (try revert p); (try revert p0); (try revert p1); (try revert p2); (try revert p3); (try revert partsR); (try revert pl); (try revert plV_cells)
              (try revert plW); (try revert plW_wf); (try revert places); (try revert placesTo_all); (try revert placesTo_len); (try revert planV); (try revert q); (try revert q'); (try revert q0); (try revert q1); (try revert q2); (try revert q3); (try revert q4); (try revert refOverlap_any); (try revert refTogether_any); (try revert rel); (try revert rename); (try revert ret_two); (try revert round); (try revert some); (try revert t0); (try revert t1); (try revert this); (try revert togB); (try revert twoE)
              (try revert u0); (try revert u1); (try revert u10); (try revert u100); (try revert u101); (try revert u102); (try revert u103); (try revert u104); (try revert u105); (try revert u106); (try revert u107); (try revert u108); (try revert u109); (try revert u11); (try revert u110); (try revert u111); (try revert u112); (try revert u113); (try revert u114); (try revert u115); (try revert u116); (try revert u117); (try revert u118); (try revert u119); (try revert u12)
              (try revert u120); (try revert u121); (try revert u122); (try revert u123); (try revert u124); (try revert u125); (try revert u126); (try revert u127); (try revert u128); (try revert u129); (try revert u13); (try revert u130); (try revert u131); (try revert u132); (try revert u133); (try revert u134); (try revert u135); (try revert u136); (try revert u137); (try revert u138); (try revert u139); (try revert u14); (try revert u140); (try revert u141); (try revert u142)
              (try revert u143); (try revert u144); (try revert u145); (try revert u146); (try revert u147); (try revert u148); (try revert u149); (try revert u15); (try revert u150); (try revert u151); (try revert u152); (try revert u153); (try revert u154); (try revert u155); (try revert u156); (try revert u157); (try revert u158); (try revert u159); (try revert u16); (try revert u160); (try revert u161); (try revert u162); (try revert u163); (try revert u164); (try revert u165)
              (try revert u166); (try revert u167); (try revert u168); (try revert u169); (try revert u17); (try revert u170); (try revert u171); (try revert u172); (try revert u173); (try revert u174); (try revert u175); (try revert u176); (try revert u177); (try revert u178); (try revert u179); (try revert u18); (try revert u180); (try revert u181); (try revert u182); (try revert u183); (try revert u184); (try revert u185); (try revert u186); (try revert u187); (try revert u188)
              (try revert u189); (try revert u19); (try revert u190); (try revert u191); (try revert u192); (try revert u193); (try revert u194); (try revert u195); (try revert u196); (try revert u197); (try revert u198); (try revert u199); (try revert u2); (try revert u20); (try revert u200); (try revert u201); (try revert u202); (try revert u203); (try revert u204); (try revert u205); (try revert u206); (try revert u207); (try revert u208); (try revert u209); (try revert u21)
              (try revert u210); (try revert u211); (try revert u212); (try revert u213); (try revert u214); (try revert u215); (try revert u216); (try revert u217); (try revert u218); (try revert u219); (try revert u22); (try revert u220); (try revert u221); (try revert u222); (try revert u223); (try revert u224); (try revert u225); (try revert u226); (try revert u227); (try revert u228); (try revert u229); (try revert u23); (try revert u230); (try revert u231); (try revert u232)
              (try revert u233); (try revert u234); (try revert u235); (try revert u236); (try revert u237); (try revert u238); (try revert u239); (try revert u24); (try revert u240); (try revert u241); (try revert u242); (try revert u243); (try revert u244); (try revert u245); (try revert u246); (try revert u247); (try revert u248); (try revert u249); (try revert u25); (try revert u250); (try revert u251); (try revert u252); (try revert u253); (try revert u254); (try revert u255)
              (try revert u256); (try revert u257); (try revert u258); (try revert u259); (try revert u26); (try revert u260); (try revert u261); (try revert u262); (try revert u263); (try revert u264); (try revert u265); (try revert u266); (try revert u267); (try revert u268); (try revert u269); (try revert u27); (try revert u270); (try revert u271); (try revert u272); (try revert u273); (try revert u274); (try revert u275); (try revert u276); (try revert u277); (try revert u278)
              (try revert u279); (try revert u28); (try revert u280); (try revert u281); (try revert u282); (try revert u283); (try revert u284); (try revert u285); (try revert u286); (try revert u287); (try revert u288); (try revert u289); (try revert u29); (try revert u290); (try revert u291); (try revert u292); (try revert u293); (try revert u294); (try revert u295); (try revert u296); (try revert u297); (try revert u298); (try revert u299); (try revert u3); (try revert u30)
              (try revert u300); (try revert u301); (try revert u302); (try revert u303); (try revert u304); (try revert u305); (try revert u306); (try revert u307); (try revert u308); (try revert u309); (try revert u31); (try revert u310); (try revert u311); (try revert u312); (try revert u313); (try revert u314); (try revert u315); (try revert u316); (try revert u317); (try revert u318); (try revert u319); (try revert u32); (try revert u320); (try revert u321); (try revert u322)
              (try revert u323); (try revert u324); (try revert u325); (try revert u326); (try revert u327); (try revert u328); (try revert u329); (try revert u33); (try revert u330); (try revert u331); (try revert u332); (try revert u333); (try revert u334); (try revert u335); (try revert u336); (try revert u337); (try revert u338); (try revert u339); (try revert u34); (try revert u340); (try revert u341); (try revert u342); (try revert u343); (try revert u344); (try revert u345)
              (try revert u346); (try revert u347); (try revert u348); (try revert u349); (try revert u35); (try revert u350); (try revert u351); (try revert u352); (try revert u353); (try revert u354); (try revert u355); (try revert u356); (try revert u357); (try revert u358); (try revert u359); (try revert u36); (try revert u360); (try revert u361); (try revert u362); (try revert u363); (try revert u364); (try revert u365); (try revert u366); (try revert u367); (try revert u368)
              (try revert u369); (try revert u37); (try revert u370); (try revert u371); (try revert u372); (try revert u373); (try revert u374); (try revert u375); (try revert u376); (try revert u377); (try revert u378); (try revert u379); (try revert u38); (try revert u380); (try revert u381); (try revert u382); (try revert u383); (try revert u384); (try revert u385); (try revert u386); (try revert u387); (try revert u388); (try revert u389); (try revert u39); (try revert u390)
              (try revert u391); (try revert u392); (try revert u393); (try revert u394); (try revert u395); (try revert u396); (try revert u397); (try revert u398); (try revert u399); (try revert u4); (try revert u40); (try revert u400); (try revert u401); (try revert u402); (try revert u403); (try revert u404); (try revert u405); (try revert u406); (try revert u407); (try revert u408); (try revert u409); (try revert u41); (try revert u410); (try revert u411); (try revert u412)
              (try revert u413); (try revert u414); (try revert u415); (try revert u416); (try revert u417); (try revert u418); (try revert u419); (try revert u42); (try revert u420); (try revert u421); (try revert u422); (try revert u423); (try revert u424); (try revert u425); (try revert u426); (try revert u427); (try revert u428); (try revert u429); (try revert u43); (try revert u430); (try revert u431); (try revert u432); (try revert u433); (try revert u434); (try revert u435)
              (try revert u436); (try revert u437); (try revert u438); (try revert u439); (try revert u44); (try revert u440); (try revert u441); (try revert u442); (try revert u443); (try revert u444); (try revert u445); (try revert u446); (try revert u447); (try revert u448); (try revert u449); (try revert u45); (try revert u450); (try revert u451); (try revert u452); (try revert u453); (try revert u454); (try revert u455); (try revert u456); (try revert u457); (try revert u458)
              (try revert u459); (try revert u46); (try revert u460); (try revert u461); (try revert u462); (try revert u463); (try revert u464); (try revert u465); (try revert u466); (try revert u467); (try revert u468); (try revert u469); (try revert u47); (try revert u470); (try revert u471); (try revert u472); (try revert u473); (try revert u474); (try revert u475); (try revert u476); (try revert u477); (try revert u478); (try revert u479); (try revert u48); (try revert u480)
              (try revert u481); (try revert u482); (try revert u483); (try revert u484); (try revert u485); (try revert u486); (try revert u487); (try revert u488); (try revert u489); (try revert u49); (try revert u490); (try revert u491); (try revert u492); (try revert u493); (try revert u494); (try revert u495); (try revert u496); (try revert u497); (try revert u498); (try revert u499); (try revert u5); (try revert u50); (try revert u500); (try revert u501); (try revert u502)
              (try revert u503); (try revert u504); (try revert u505); (try revert u506); (try revert u507); (try revert u508); (try revert u509); (try revert u51); (try revert u510); (try revert u511); (try revert u512); (try revert u513); (try revert u514); (try revert u515); (try revert u516); (try revert u517); (try revert u518); (try revert u519); (try revert u52); (try revert u53); (try revert u54); (try revert u55); (try revert u56); (try revert u57); (try revert u58)
              (try revert u59); (try revert u6); (try revert u60); (try revert u61); (try revert u62); (try revert u63); (try revert u64); (try revert u65); (try revert u66); (try revert u67); (try revert u68); (try revert u69); (try revert u7); (try revert u70); (try revert u71); (try revert u72); (try revert u73); (try revert u74); (try revert u75); (try revert u76); (try revert u77); (try revert u78); (try revert u79); (try revert u8); (try revert u80)
              (try revert u81); (try revert u82); (try revert u83); (try revert u84); (try revert u85); (try revert u86); (try revert u87); (try revert u88); (try revert u89); (try revert u9); (try revert u90); (try revert u91); (try revert u92); (try revert u93); (try revert u94); (try revert u95); (try revert u96); (try revert u97); (try revert u98); (try revert u99); (try revert v); (try revert v0); (try revert v1); (try revert v2); (try revert v3)
              (try revert w); (try revert w'); (try revert w1); (try revert wc); (try revert wo4); (try revert wo5); (try revert wo6); (try revert wo7); (try revert wq); (try revert wr); (try revert ws); (try revert wv); (try revert wx); (try revert wx1); (try revert x); (try revert x0); (try revert x1); (try revert x2); (try revert x3); (try revert y); (try revert y0); (try revert y1); (try revert z0); (try revert z1)
              repeat (rename_i zz; revert zz)
              exact HYPL6.out
            case rest =>
              try clear HYPL1
              try clear HYPL2
              try clear HYPL3A
              try clear HYPL3B
              try clear HYPL3C
              try clear HYPL3D
              try clear HYPL3E
              try clear HYPL3F
              try clear HYPL3G
              try clear HYPL3H
              try clear HYPL4
              try clear HYPL5
              try clear HYPL6
              obtain ⟨hj, hB⟩ := hcut
              have HC := Lib.hid (none_part H8.out (by rw [← HN2.out]; exact hj))
              rw [← HR.out] at HC
              have HB9 := Lib.hid hB
              clear hj hB HB8
              go_wp2_with fail
              go_ret2
              exact ⟨ret_two HC.out, below_two HB1.out HB9.out⟩⟩
end Go.Proofs.YtmfelkdcoihkpaaDoor
