/-
  paths.where and Ends; refInto of no partition; Path.
-/
import Derived.Test.YtjiikhfeacgjjaaRInto
import Derived.Laws.AppendOwn
namespace Go.Proofs.Ytjiikhfeacgjjaa
open Go.RowKit

theorem add_lit (g j : Nat) : (⟨g, 0, none⟩ : Addr).add j = ⟨g, j, none⟩ := by cases j <;> simp [Addr.add]
theorem arr_own {w : World} {base E C n c : Nat} {A : Option Addr} {xs : List Value} (h : w.ownsRow base E C (.slice A n c) n xs) (F : Nat → List Value) (hF : ∀ i j u, i < n → (F i)[j]? = some u → xs[i * C + j]? = some u) : Arr w A C n F := fun i hi => by
  rcases h.2 with ⟨e, hn⟩ | ⟨g, cap, cur, e, _, hg, _⟩
  · omega
  · injection e with e1 e2 e3
    subst e1
    refine ⟨g, 0, rfl, fun j u hu => ?_⟩
    have := World.ownsRow.cells h (g := g) rfl (i * C + j) u (hF i j u hi hu)
    rw [add_lit] at this
    rw [Nat.add_assoc, Nat.zero_add]
    exact this
/-- A list of a call's own is a slice. -/
theorem own_form {w : World} {base E C n : Nat} {v : Value} {xs : List Value} (h : w.ownsRow base E C v n xs) : ∃ A c, v = .slice A n c := by
  rcases h.2 with ⟨e, hn⟩ | ⟨g, cap, cur, e, _, _, _⟩
  · subst hn; exact ⟨_, _, e⟩
  · exact ⟨_, _, e⟩

theorem refInto_no' (P : PlanA) (L : PlanL) (z : Int) (w : World) (hl : P.2.2.1.length ≤ 140737488355328) (hz : ¬ (0 ≤ z ∧ z < P.2.2.1.length)) :
    Calls Try.prog 13 #[planV P L, .int .i64 z] w fun e w' => e = .returned (.tuple #[.slice none 0 0, .int .i64 70]) ∧ Below w.heap.size w w' := by
  have HI := Lib.hid (fun W => is_any P L z W hl)
  rw [isB_no hz] at HI
  obtain ⟨fr, cs, ps, hs, rs⟩ := P
  obtain ⟨A1, c1, A2, c2, A3, c3, A4, c4⟩ := L
  have HB0 : Hid (Below w.heap.size w (w.alloc (.cells #[.int .u16 fr, .slice A1 cs.length c1, .slice A2 ps.length c2, .slice A3 hs.length c3, .slice A4 rs.length c4] 28))) := (Below.refl _ _).alloc (Nat.le_refl _) _
  simp only [planV] at *
  clear hz hl
  go_enter Try.func13, Try.ntmps13
  go_wp2_with fail
  refine (HI.out _).mono ?_
  rintro e w1 ⟨rfl, hB⟩
  have HB := Lib.hid hB
  clear hB
  go_wp2_with fail
  go_ret2
  exact ⟨rfl, below_two HB0.out HB.out⟩

set_option maxHeartbeats 4000000 in
set_option maxRecDepth 100000 in
theorem refPath_yes (P : PlanA) (L : PlanL) (a b : Nat) (w : World) (hP : PlanAt w P L) (hw : WfPlan P) (hl : P.2.2.1.length ≤ 140737488355328) (hl3 : P.2.2.2.1.length ≤ 140737488355328) (ha : a < P.2.2.1.length) (hb : b < P.2.2.1.length) :
    Calls Try.prog 18 #[planV P L, .int .i64 a, .int .i64 b] w fun e w' => e = .returned (.bool (pathB P.2.2.1.length P.2.2.2.1 a b)) ∧ Below w.heap.size w w' := by
  have H1 := Lib.hid (fun W hP => refInto_yes P L b W hP hw hl hl3 hb)
  have HP := Lib.hid hP
  obtain ⟨fr, cs, ps, hs, rs⟩ := P
  obtain ⟨A1, c1, A2, c2, A3, c3, A4, c4⟩ := L
  have HB0 : Hid (Below w.heap.size w (w.alloc (.cells #[.int .u16 fr, .slice A1 cs.length c1, .slice A2 ps.length c2, .slice A3 hs.length c3, .slice A4 rs.length c4] 28))) := (Below.refl _ _).alloc (Nat.le_refl _) _
  simp only [planV] at *
  obtain ⟨N, hN⟩ : ∃ N, N = ps.length := ⟨_, rfl⟩
  rw [← hN] at H1 HB0 hl ha hb ⊢
  have i0 : (0 : Int) ≤ (a : Int) := Int.natCast_nonneg _
  have i1 : (a : Int) < (N : Int) := by omega
  obtain ⟨q1, hq1⟩ : ∃ q, q = pathB N hs a b := ⟨_, rfl⟩
  rw [← hq1]
  have HQ1 := Lib.hid hq1
  clear hP hw hl3 hN hq1
  go_enter Try.func18, Try.ntmps18
  go_wp2_with fail
  refine (H1.out _ (HP.out.keep HB0.out)).mono ?_
  rintro e w1 ⟨B1, d1, rfl, hx, hB⟩
  have HB1 := Lib.hid (below_two HB0.out hB)
  obtain ⟨b1, o1, rfl⟩ := Arr.head hx ha
  have r1 := Bools.cell hx ha
  rw [← HQ1.out] at r1
  clear hx hB
  go_wp2_with fail
  go_ret
  exact ⟨rfl, HB1.out⟩

/-! ### the channels of some kind -/
def whB (N : Nat) (f : ChanA → Bool) (c : ChanA) : Bool := btwB N c && f c
def whL (N : Nat) (f : ChanA → Bool) (hs : List ChanA) (k : Nat) : List Nat := (List.range k).filter fun i => whB N f (hs.getD i dC)
theorem whL_succ (N : Nat) (f : ChanA → Bool) (hs : List ChanA) (k : Nat) : whL N f hs (k + 1) = if whB N f (hs.getD k dC) then whL N f hs k ++ [k] else whL N f hs k := by
  unfold whL
  rw [List.range_succ, List.filter_append, List.filter_cons, List.filter_nil]
  split <;> simp
theorem whL_len (N : Nat) (f : ChanA → Bool) (hs : List ChanA) (k : Nat) : (whL N f hs k).length ≤ k := by
  unfold whL
  exact Nat.le_trans (List.length_filter_le _ _) (by simp)
def numsV (l : List Nat) : List Value := l.map fun j : Nat => .int .i64 (j : Int)
def OwnN (w : World) (base : Nat) (v : Value) (l : List Nat) : Prop := w.ownsRow base 3 1 v l.length (numsV l)
theorem nums_own {w : World} {base c : Nat} {A : Option Addr} {l : List Nat} (h : OwnN w base (.slice A l.length c) l) : Nums w A l.length fun i => (l.getD i 0 : Nat) :=
  arr_own h _ fun i j u hi hu => by
    match j, hu with
    | 0, hu =>
      simp at hu
      subst hu
      unfold numsV
      rw [Nat.mul_one, Nat.add_zero, List.getElem?_map, List.getElem?_eq_getElem hi]
      simp
    | j + 1, hu => simp at hu
theorem info3 : (Try.prog.info? 3).map (fun i => (i.zero, i.size, i.bytes)) = some (some (.int .i64 0), 1, 8) := by kernel_rfl
def WhP (N : Nat) (f : ChanA → Bool) (hs : List ChanA) (w : World) (e : Ending) (w' : World) : Prop :=
  ∃ A c, e = .returned (.slice A (whL N f hs hs.length).length c) ∧ Nums w' A (whL N f hs hs.length).length (fun i => ((whL N f hs hs.length).getD i 0 : Nat)) ∧ Below w.heap.size w w'
def WhI (N : Nat) (f : ChanA → Bool) (hs : List ChanA) (m : Nat) (w : World) (v i : Value) (wr : World) : Prop :=
  ∃ k : Nat, k ≤ m ∧ i = .int .i64 k ∧ OwnN wr w.heap.size v (whL N f hs k) ∧ Below w.heap.size w wr
theorem OwnN.below {w w' : World} {base : Nat} {v : Value} {l : List Nat} (h : OwnN w base v l) (hB : Below w.heap.size w w') : OwnN w' base v l := by
  refine ⟨h.1, ?_⟩
  rcases h.2 with hn | ⟨g, cap, cur, hv, hb, hg, rest⟩
  · exact .inl hn
  · exact .inr ⟨g, cap, cur, hv, hb, (hB.block g (Array.getElem?_eq_some_iff.1 hg).1).trans hg, rest⟩

set_option maxHeartbeats 8000000 in
set_option maxRecDepth 100000 in
theorem where_any (P : PlanA) (L : PlanL) (K : FuncId) (cap : Array Value) (f : ChanA → Bool) (w : World) (hP : PlanAt w P L) (hw : WfPlan P) (hl : P.2.2.1.length ≤ 140737488355328) (hl3 : P.2.2.2.1.length ≤ 1000) (hK : Enters K)
    (hcall : ∀ c W, WfChan c → Below w.heap.size w W → Calls Try.prog K (#[cv c] ++ cap) W fun e w' => e = .returned (.bool (f c)) ∧ Below W.heap.size W w') :
    Calls Try.prog 32 #[planV P L, .func (.func K) #[] cap] w fun e w' => WhP P.2.2.1.length f P.2.2.2.1 w e w' := by
  obtain ⟨i0, hi, hz0, hz1, hz2⟩ := info_parts info3
  have HBT := Lib.hid (fun c W hc => isBtw_any P L c W hl hc)
  have hc := hw.2.2.2.1
  have hch := hP.chans
  obtain ⟨fr, cs, ps, hs, rs⟩ := P
  obtain ⟨A1, c1, A2, c2, A3, c3, A4, c4⟩ := L
  simp only [planV, cv] at *
  obtain ⟨N, hN⟩ : ∃ N, N = ps.length := ⟨_, rfl⟩
  obtain ⟨m, hm⟩ : ∃ m, m = hs.length := ⟨_, rfl⟩
  rw [← hN] at HBT hl ⊢
  rw [← hm] at HBT hl3 ⊢
  obtain ⟨w0, hw0⟩ : ∃ w0, w0 = w.alloc (.cells #[.int .u16 fr, .slice A1 cs.length c1, .slice A2 N c2, .slice A3 m c3, .slice A4 rs.length c4] 28) := ⟨_, rfl⟩
  have hb0 : Below w.heap.size w w0 := by rw [hw0]; exact (Below.refl _ _).alloc (Nat.le_refl _) _
  have hpb : PBn w0 w.heap.size fr A1 cs.length c1 A2 N c2 A3 m c3 A4 rs.length c4 := by rw [hw0]; exact PBn.new w fr A1 cs.length c1 A2 N c2 A3 m c3 A4 rs.length c4
  have HPB := Lib.hid hpb
  have HB0 := Lib.hid hb0
  have HM := Lib.hid hm
  have HC := Lib.hid hc
  have HCH := Lib.hid (Arr.keep hch hb0)
  have HCALL := Lib.hid (fun c W hw hB => hcall c W hw (below_two hb0 hB))
  have eg := hK
  unfold Enters at eg
  have HI0 := Lib.hid hi
  have HZ0 := Lib.hid hz0
  have HZ1 := Lib.hid hz1
  have HZ2 := Lib.hid hz2
  obtain ⟨k0, k1, k2, k3, k4⟩ := hpb
  have HW0 := Lib.hid hw0
  have HST : Hid (WhI N f hs m w0 (.slice none 0 0) (.int .i64 (0 : Nat)) w0) := ⟨0, Nat.zero_le _, rfl, World.ownsRow_nil w0 w0.heap.size 3 1, Below.refl _ _⟩
  clear hw hP hN hm hc hch hK hcall hi hz0 hz1 hz2 hw0 hb0
  go_enter Try.func32, Try.ntmps32
  go_wp2_with fail
  rw [← HW0.out]
  go_loopw [5, 11] (fun v i wr => WhI N f hs m w0 v i wr) (fun _ i _ => m - (intOf i).toNat)
  case atStart => exact HST.out
  case round =>
    obtain ⟨k, hk, rfl, hO, hB⟩ := hrel
    have HB := Lib.hid hB
    have HO := Lib.hid hO
    clear k0 k1 k2 k3 k4
    obtain ⟨k0, k1, k2, k3, k4⟩ := HPB.out.keep hB
    by_cases hlt : k < m
    · have hlm : k < hs.length := by rw [← HM.out]; exact hlt
      obtain ⟨b, o, rfl⟩ := Arr.head HCH.out hlm
      have hw := HC.out _ (getD_mem dC hlm)
      obtain ⟨⟨x0, x1, x2, x3, x4, x5⟩, hx⟩ : ∃ x, x = hs.getD k dC := ⟨_, rfl⟩
      have hsu := whL_succ N f hs k
      rw [← hx] at hw hsu
      have cc := ChansAt.cell (Arr.keep HCH.out hB) hlm hx
      obtain ⟨c0, c1, c2, c3, c4, c5⟩ := cc
      dsimp only at c0 c1 c2 c3 c4 c5
      have HBC := Lib.hid (fun W => HBT.out (x0, x1, x2, x3, x4, x5) W hw)
      have HKC := Lib.hid (fun W hB => HCALL.out (x0, x1, x2, x3, x4, x5) W hw hB)
      dsimp only at HBC HKC
      have hba : Below wr.heap.size wr (wr.alloc (.cells #[.int .u8 x0, .int .u8 x1, .int .u8 x2, .int .u8 x3, .int .u8 x4, .int .u16 x5] 44)) := (Below.refl _ _).alloc (Nat.le_refl _) _
      have HCB := Lib.hid (CB.new wr x0 x1 x2 x3 x4 x5)
      have HBA := Lib.hid hba
      obtain ⟨z0, z1, z2, z3, z4⟩ := (HPB.out.keep hB).keep hba
      unfold whB at hsu
      obtain ⟨q, hq⟩ : ∃ q, q = btwB N (x0, x1, x2, x3, x4, x5) := ⟨_, rfl⟩
      obtain ⟨p, hp⟩ : ∃ q, q = f (x0, x1, x2, x3, x4, x5) := ⟨_, rfl⟩
      rw [← hq] at HBC hsu
      rw [← hp] at HKC hsu
      have HSU := Lib.hid hsu
      have hln := whL_len N f hs k
      clear hO hB hx hw hq hp hba hsu
      cases q
      · go_wp2_with fail
        with_reducible refine (HBC.out _).mono ?_
        rintro e w2 ⟨rfl, hB⟩
        have HB2 := Lib.hid (below_two HBA.out hB)
        clear hB
        go_wp2_with fail
        go_roundw
        case rel => exact ⟨k + 1, by omega, by go_num, by rw [HSU.out]; exact HO.out.below HB2.out, below_two HB.out HB2.out⟩
        case measure => simp [intOf]; omega
      · go_wp2_with fail
        with_reducible refine (HBC.out _).mono ?_
        rintro e w2 ⟨rfl, hB⟩
        obtain ⟨m0, m1, m2, m3, m4, m5⟩ := HCB.out.keep hB
        dsimp only at m0 m1 m2 m3 m4 m5
        have HB2 := Lib.hid (below_two HBA.out hB)
        clear hB z0 z1 z2 z3 z4 c0 c1 c2 c3 c4 c5 k0 k1 k2 k3 k4
        go_wp2_with fail
        refine (HKC.out _ (below_two HB.out HB2.out)).mono ?_
        rintro e w3 ⟨rfl, hB⟩
        have HB3 := Lib.hid (below_two HB2.out hB)
        clear hB m0 m1 m2 m3 m4 m5
        cases p
        · go_wp2_with fail
          go_roundw
          case rel => exact ⟨k + 1, by omega, by go_num, by rw [HSU.out]; exact HO.out.below HB3.out, below_two HB.out HB3.out⟩
          case measure => simp [intOf]; omega
        · have hown : w3.ownsRow w0.heap.size 3 1 u5 _ _ := HO.out.below HB3.out
          obtain ⟨M, hM⟩ : ∃ M, M = (whL N f hs k).length := ⟨_, rfl⟩
          obtain ⟨xs, hxs⟩ : ∃ xs, xs = numsV (whL N f hs k) := ⟨_, rfl⟩
          rw [← hM, ← hxs] at hown
          rw [← hM] at hln
          have HMM := Lib.hid hM
          have HXS := Lib.hid hxs
          have hi := HI0.out
          have hz0 := HZ0.out
          have hz1 := HZ1.out
          have hz2 := HZ2.out
          have hsz := (below_two HB.out HB3.out).size
          clear hM hxs
          go_wp2_with (at_builtin; (refine wpList_append_own _ rfl _ _ 40 rfl w0.heap.size 3 i0 (.int .i64 0) 1 8 Try.underlying40 hi hz0 hz1 hz2 rfl (by decide) _ M xs rfl (hown.alloc _) ⟨w3.heap.size, 0, none⟩ 1 1 [.int .i64 (k : Int)] rfl rfl ?c1 ?c2 ?c3 ?c4 ?c5 ?_))
          case c1 =>
            intro j u hj
            rw [add_lit]
            match j, hj with
            | 0, hj => simp at hj; subst hj; simp
          case c2 => intro u hu; simp at hu; rcases hu with rfl; rfl
          case c3 => unfold maxLen; omega
          case c4 => omega
          case c5 => simp; omega
          intro v' w4 hown' hgrow _
          have hO' : OwnN w4 w0.heap.size v' (whL N f hs (k + 1)) := by
            rw [HSU.out]
            unfold OwnN numsV
            rw [HMM.out, HXS.out] at hown'
            simpa [numsV] using hown'
          have HO' := Lib.hid hO'
          have HB' := Lib.hid (((below_two HB.out HB3.out).alloc hsz _).grown hgrow (by simp; omega) (fun k hk => (hown.lt k hk).1))
          clear hown' hgrow hown hO' hi hz0 hz1 hz2
          go_wp2_with fail
          go_roundw
          case rel => exact ⟨k + 1, hlt, by go_num, HO'.out, HB'.out⟩
          case measure => simp [intOf]; omega
    · obtain rfl : m = k := by omega
      obtain ⟨A, cp, rfl⟩ := own_form HO.out
      have hN := nums_own HO.out
      have HF : Hid (WhP N f hs w (.returned (.slice A (whL N f hs m).length cp)) wr) := by
        refine ⟨A, cp, ?_, ?_, below_two HB0.out HB.out⟩
        · rw [← HM.out]
        · rw [← HM.out]; exact hN
      clear hO hB hN hk hlt
      go_wp2_with fail
      go_ret
      exact HF.out
end Go.Proofs.Ytjiikhfeacgjjaa
