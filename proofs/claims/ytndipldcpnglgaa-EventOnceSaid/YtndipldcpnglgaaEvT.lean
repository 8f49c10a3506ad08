/-
  Set: all who wait are dropped, the last one first.
-/
import Derived.Test.YtndipldcpnglgaaEvS
namespace Go.Proofs.Ytndipldcpnglgaa
open Go.RowKit Go.Shelf
attribute [local go_sem] Oper.semAt_some

/-! ### all are dropped -/
def dropAll (S : Ln) (l : List BkA) : Ln := l.foldl (fun S x => S.drop x.1.2) S
theorem dropAll_snoc (S : Ln) (l : List BkA) (x : BkA) : dropAll S (l ++ [x]) = (dropAll S l).drop x.1.2 := by unfold dropAll; rw [List.foldl_append]; rfl
theorem drop_q (S : Ln) (id : Int) : (S.drop id).q = S.q.filter (fun a => !decide ((a.id.val : Int) = id)) ∧ (S.drop id).n = S.n ∧ (S.drop id).now = S.now := by
  unfold Ln.drop
  split
  · rename_i h
    obtain ⟨a, ha, e⟩ := has_iff.1 h
    refine ⟨?_, rfl, rfl⟩
    unfold Ln.without
    apply List.filter_congr
    intro c _
    have hv : ((toId id).val : Int) = id := by rw [← e, toId_of]
    by_cases hc : c.id = toId id
    · rw [hc, hv]; simp
    · have : ¬ ((c.id.val : Int) = id) := fun h => hc (Fin.ext (by omega))
      simp [hc, this]
  · rename_i h
    refine ⟨?_, rfl, rfl⟩
    refine (List.filter_eq_self.2 fun a ha => ?_).symm
    simp only [Bool.not_eq_true', decide_eq_false_iff_not]
    exact fun e => h (has_iff.2 ⟨a, ha, e⟩)
theorem dropAll_q (l : List BkA) : ∀ S : Ln, (dropAll S l).q = S.q.filter (fun a => l.all fun x => !decide ((a.id.val : Int) = x.1.2)) ∧ (dropAll S l).n = S.n ∧ (dropAll S l).now = S.now := by
  induction l with
  | nil => intro S; refine ⟨?_, rfl, rfl⟩; exact (List.filter_eq_self.2 fun a _ => rfl).symm
  | cons x r ih =>
    intro S
    obtain ⟨h1, h2, h3⟩ := ih (S.drop x.1.2)
    obtain ⟨k1, k2, k3⟩ := drop_q S x.1.2
    refine ⟨?_, h2.trans k2, h3.trans k3⟩
    show (dropAll (S.drop x.1.2) r).q = _
    rw [h1, k1, List.filter_filter]
    apply List.filter_congr
    intro a _
    rw [List.all_cons, Bool.and_comm]
theorem dropAll_len (l : List BkA) (S : Ln) : (dropAll S l).q.length ≤ S.q.length := by
  rw [(dropAll_q l S).1]; exact List.length_filter_le _ _
theorem num_i64 (S : Ln) (j : Nat) : I64 (S.nums.getD j 0) := by
  unfold I64
  rw [List.getD_eq_getElem?_getD]
  cases h : S.nums[j]? with
  | none => simp
  | some z =>
    obtain ⟨a, _, e⟩ := List.mem_map.1 (List.mem_of_getElem? h)
    have := a.id.isLt
    simp only [Option.getD_some]
    omega
theorem dropAll_all (S : Ln) : dropAll S (upto (bk S.nums (num_i64 S)) S.nums.length) = S.clear := by
  obtain ⟨h1, h2, h3⟩ := dropAll_q (upto (bk S.nums (num_i64 S)) S.nums.length) S
  have h4 : (dropAll S (upto (bk S.nums (num_i64 S)) S.nums.length)).q = [] := by
    rw [h1, List.filter_eq_nil_iff]
    intro a ha
    have hm : (a.id.val : Int) ∈ S.nums := List.mem_map.2 ⟨a, ha, rfl⟩
    obtain ⟨i, hi, e⟩ : ∃ (i : Nat) (hi : i < S.nums.length), S.nums[i] = (a.id.val : Int) := List.getElem_of_mem hm
    rw [Bool.not_eq_true, List.all_eq_false]
    refine ⟨bk S.nums (num_i64 S) (S.nums.length - 1 - i), ?_, ?_⟩
    · unfold upto
      exact List.mem_map.2 ⟨_, List.mem_range.2 (by omega), rfl⟩
    · have e2 : (bk S.nums (num_i64 S) (S.nums.length - 1 - i)).1.2 = (a.id.val : Int) := by
        show S.nums.getD (S.nums.length - 1 - (S.nums.length - 1 - i)) 0 = _
        rw [show S.nums.length - 1 - (S.nums.length - 1 - i) = i by omega, List.getD_eq_getElem?_getD, List.getElem?_eq_getElem hi]
        exact e
      rw [e2]; simp
  unfold Ln.clear
  generalize hD : dropAll S _ = D at h2 h3 h4
  obtain ⟨q, n, now⟩ := D
  simp only at h2 h3 h4
  rw [h2, h3, h4]

/-- A line abides the turn of a block that is no cells and no map. -/
theorem nums_cells {w : World} {v : Value} {l : List Int} (h : Nums w v l) {x : Nat} (hx : v.ownBlock = some x) : ∃ o : Obj, w.heap[x]? = some o ∧ o.isCells = true := by
  rcases h.shape with ⟨h1, h2⟩ | ⟨g', cap', cur, hv, hg, _⟩
  · subst h1; cases hx
  · subst hv
    injection hx with hx
    subst hx
    exact ⟨_, hg, rfl⟩

theorem ln_own {g b B : Nat} {v : Value} {S : Ln} {W W' : World} {row : Option Nat} (h : LnAt W g b v S) (hg : W.grownBy W' row) (hr : ∀ r, row = some r → B ≤ r ∧ ∃ o : Obj, W.heap[r]? = some o ∧ o.isCells = false) (hgB : g < B) (hbB : b < B) : LnAt W' g b v S :=
  h.same fun k hk => hg.block k (h.blk_lt hk) fun e => by
    obtain ⟨h1, o, h2, h3⟩ := hr k e.symm
    rcases hk with rfl | rfl | hk
    · omega
    · omega
    · obtain ⟨o', h4, h5⟩ := nums_cells h.row hk
      rw [h4] at h2
      cases h2
      rw [h5] at h3
      cases h3
theorem chg_own {T : Nat → Prop} {w W W' : World} {row : Option Nat} (h : Chg T w W) (hg : W.grownBy W' row) (hr : ∀ r, row = some r → w.heap.size ≤ r) : Chg T w W' :=
  h.trans' (S' := fun k => row = some k) ⟨hg.os, hg.tape, hg.output, hg.size, fun k hk hn => hg.block k hk fun e => hn e.symm⟩ fun i hi e => by have := hr i e; omega
/-- Between two rounds. -/
def RndI (g b : Nat) (v : Value) (S : Ln) (w : World) (pre : List BkA) (W : World) : Prop := ∃ v', LnAt W g b v' (dropAll S pre) ∧ Chg (Blk g b v) w W ∧ Slid v v' w
theorem rnd_own {g b : Nat} {v : Value} {S : Ln} {w : World} (hg : g < w.heap.size) (hb : b < w.heap.size) : OwnFrom w.heap.size (RndI g b v S w) := fun _ _ _ _ ⟨v', h1, h2, h3⟩ hgr hr =>
  ⟨v', ln_own h1 hgr hr hg hb, chg_own h2 hgr fun r e => (hr r e).1, h3⟩
theorem keep2_b {x y : Nat} {w : World} (hx : x < w.heap.size) (hy : y < w.heap.size) (W : World) (l : Nat) (o o' : Obj) (hl : w.heap.size ≤ l) (_ : W.heap[l]? = some o) (_ : o.isCells = false) (_ : o.isWalk = false) : Keep2 x y W (W.putObj l o') := by
  have hg := grownBy_putObj' W l o'
  constructor
  · by_cases h : x < W.heap.size
    · exact hg.block x h fun e => by injection e with e; omega
    · simp [World.putObj, Array.getElem?_setIfInBounds]; intro e; omega
  · by_cases h : y < W.heap.size
    · exact hg.block y h fun e => by injection e with e; omega
    · simp [World.putObj, Array.getElem?_setIfInBounds]; intro e; omega
theorem meth_list (g : Nat) (w : World) : (method 218 61 (.pointer (some ⟨g, 0, none⟩)) "List").run Try.prog w = .ok (45, .pointer (some ⟨g, 0, none⟩)) w := by kernel_rfl
theorem meth_drop (g : Nat) (w : World) : (method 218 61 (.pointer (some ⟨g, 0, none⟩)) "Drop").run Try.prog w = .ok (43, .pointer (some ⟨g, 0, none⟩)) w := by kernel_rfl
def SetP (s g b : Nat) (v : Value) (X : Ev) (w : World) (e : Ending) (w' : World) : Prop := ∃ d v', e = .returned d ∧ Nums w' d X.S.nums ∧ EvAt w' s g b v' ⟨X.S.clear, true⟩ ∧ Chg (SBlk s g b v) w w' ∧ Slid v v' w ∧ ∀ x, d.ownBlock = some x → w.heap.size ≤ x ∧ ¬ SBlk s g b v' x
theorem EvAt.turn1 {w : World} {s g b : Nat} {v : Value} {X : Ev} (h : EvAt w s g b v X) (z : Bool) : EvAt (w.setCell ⟨s, 2, none⟩ (.bool z)) s g b v ⟨X.S, z⟩ ∧ Chg (fun k => k = s) w (w.setCell ⟨s, 2, none⟩ (.bool z)) := by
  have hC : Chg (fun k => k = s) w (w.setCell ⟨s, 2, none⟩ (.bool z)) := Chg.set (S := fun k => k = s) (a := ⟨s, 2, none⟩) (Chg.refl w) rfl _
  have hq : ∀ j, j ≠ 2 → (w.setCell ⟨s, 2, none⟩ (.bool z)).cell? ⟨s, j, none⟩ = w.cell? ⟨s, j, none⟩ := fun j hj => World.cell?_setCell_other _ _ _ _ (by intro e; simp only [Addr.mk.injEq] at e; omega)
  refine ⟨⟨?_, ?_, ?_, fun j => ?_, h.ln.chg hC fun k hk e => h.ns (e ▸ hk), h.ns⟩, hC⟩
  · rw [hq 0 (by decide)]; exact h.c0
  · rw [hq 1 (by decide)]; exact h.c1
  · exact World.cell?_setCell_same _ _ _ h.c2
  · rw [World.frozen?_setCell]; exact h.fz j
set_option maxRecDepth 100000 in
set_option maxHeartbeats 2000000 in
theorem set_any {s g b : Nat} {v : Value} {X : Ev} (w : World) (h : EvAt w s g b v X) (hn : X.S.q.length ≤ 1000) :
    Calls Try.prog 13 #[.pointer (some ⟨s, 0, none⟩)] w fun e w' => SetP s g b v X w e w' := by
  have c0 := h.c0
  have c2 := h.c2
  have f2 := h.fz 2
  have hs := h.lts
  obtain ⟨wA, hwA⟩ : ∃ wA, wA = (w.setCell ⟨s, 2, none⟩ (.bool true)).alloc (.cells #[.pointer (some ⟨s, 0, none⟩)] 23) := ⟨_, rfl⟩
  have hszA : wA.heap.size = w.heap.size + 1 := by rw [hwA]; simp
  obtain ⟨k1, k2⟩ : EvAt wA s g b v ⟨X.S, true⟩ ∧ Chg (fun k => k = s) w wA := by
    obtain ⟨q1, q2⟩ := h.turn1 true
    have hb := (Below.refl (w.setCell ⟨s, 2, none⟩ (.bool true)).heap.size _).alloc (Nat.le_refl _) (.cells #[.pointer (some ⟨s, 0, none⟩)] 23)
    rw [hwA]
    exact ⟨q1.keep hb, q2.trans (Chg.of_below hb)⟩
  have hbn : ¬ Blk g b v w.heap.size := fun hk => Nat.lt_irrefl _ (h.ln.blk_lt hk)
  have HA := Lib.hid k1
  have HC := Lib.hid k2
  have a0 := k1.c0
  have hbx : wA.cell? ⟨w.heap.size, 0, none⟩ = some (.pointer (some ⟨s, 0, none⟩)) := by rw [hwA]; exact al_new _ _ _ 0 _ (by simp) rfl
  have HL := Lib.hid (list_any wA k1.ln (Nat.le_trans hn (by omega)))
  clear h k1 k2
  refine (callsIn_wide (n := 6)).1 ?_
  refine callsIn_of_wp_marks Try.func13 rfl trivial ?_ rfl
  simp only [Try.ntmps13, List.size_toArray, List.length_cons, List.length_nil, Nat.reduceAdd, Nat.reduceSub, Array.replicate_succ, Array.replicate_zero, List.push_toArray, List.append_toArray, List.nil_append, List.cons_append]
  have hml := meth_list g
  gi_wp2_with fail
  refine ⟨trivial, ?_⟩
  rw [← hwA]
  refine (callsIn_wide.2 HL.out).mono ?_
  rintro e w1 ⟨vl, rfl, hN, hB, hfr⟩
  obtain ⟨A, cap, rfl, hA⟩ := hN.len
  have HA1 := Lib.hid (HA.out.keep hB)
  have HN := Lib.hid (And.intro hN (And.intro hB hfr))
  clear hN hB hfr HL
  gi_wp2_with fail
  refine ⟨trivial, ?_⟩
  refine (back_in Fence.wide 5 trivial rfl _ w1 ⟨_, _, _, rfl⟩).mono ?_
  rintro e w' ⟨rfl, rfl⟩
  gi_wp2_with fail
  obtain ⟨w2, hw2⟩ : ∃ w2, w2 = w1.alloc (.cells #[.slice A X.S.nums.length cap] 38) := ⟨_, rfl⟩
  have hsz2 : w2.heap.size = w1.heap.size + 1 := by rw [hw2]; simp
  obtain ⟨hN0, hB1, hfr⟩ := HN.out
  have hB12 : Below w1.heap.size w1 w2 := by rw [hw2]; exact (Below.refl _ _).alloc (Nat.le_refl _) _
  have hN2 := hN0.keep hB12
  obtain ⟨bl, hbl, hbl1, hbl2⟩ : ∃ bl, (0 < X.S.nums.length → A = some ⟨bl, 0, none⟩) ∧ wA.heap.size ≤ bl ∧ bl ≤ w1.heap.size := by
    by_cases h0 : 0 < X.S.nums.length
    · obtain ⟨bl, rfl⟩ := hA h0
      exact ⟨bl, fun _ => rfl, hfr _ rfl, Nat.le_of_lt (hN0.lt rfl)⟩
    · exact ⟨w1.heap.size, fun h => absurd h h0, hB1.size, Nat.le_refl _⟩
  have hEv2 := HA1.out.keep hB12
  have hblk : ∀ k, SBlk s g b v k → k < wA.heap.size := fun k hk => HA.out.blk_lt hk
  have hcell : ∀ j, j < X.S.nums.length → w2.cell? ⟨bl, j, none⟩ = some (nV (X.S.nums.getD j 0)) := fun j hj => by
    obtain rfl := hbl (by omega)
    exact hN2.at hj
  have hbx2 : w2.cell? ⟨w.heap.size, 0, none⟩ = some (.pointer (some ⟨s, 0, none⟩)) := kept (kept hbx hB1) hB12
  have hs0 := hEv2.c0
  have hng : ¬ Blk g b v s := HA.out.ns
  have hlen : X.S.nums.length ≤ 1000 := by rw [nums_len]; exact hn
  rw [← hw2]
  refine wpIn_rangeFunc_ownG rfl (by omega) (gf := 26) (lb := #[.pointer (some ⟨w1.heap.size, 0, none⟩)]) rfl trivial (enters_of Try.func26 (by kernel_rfl) rfl)
    (back_stops Fence.wide 5 trivial rfl (by omega) w1.heap.size bl cap A X.S.nums (num_i64 X.S) hbl (Nat.le_trans hlen (by omega)) w2 (by omega) (by rw [hw2]; exact al_new _ _ _ 0 _ rfl rfl) hcell)
    (fun h k => h.trans k) (keep2_b (by omega) (by omega)) (Below.refl _ _) (fun _ => rfl)
    (RndI g b v X.S w2) (fun _ _ _ => False) (rnd_own (Nat.lt_of_lt_of_le hEv2.ln.ltg (Nat.le_refl _)) (Nat.lt_of_lt_of_le hEv2.ln.ltb (Nat.le_refl _))) (fun _ _ _ _ _ hs _ _ => hs)
    ⟨v, hEv2.ln, Chg.refl _, .inl rfl⟩
    (fun x => { tmps := #[.pointer (some ⟨s, 0, none⟩), .pointer (some ⟨w.heap.size, 0, none⟩), .slice none 0 0, .slice A X.S.nums.length cap, undef, nV x.1.2, .pointer (some ⟨s, 0, none⟩), .pointer (some ⟨s, 0, none⟩), .pointer (some ⟨s, 2, none⟩), .pointer (some ⟨s, 0, none⟩), .pointer (some ⟨s, 0, none⟩), .pointer (some ⟨s, 0, none⟩), .iface 61 (.pointer (some ⟨g, 0, none⟩)), .slice A X.S.nums.length cap, .slice A X.S.nums.length cap, .func (.func 26) #[] #[.pointer (some ⟨w1.heap.size, 0, none⟩)], nV x.1.1, nV x.1.2, undef, undef, undef, undef, undef, undef, undef], defers := [] }) ?assign ?body ?done ?stop
  case assign =>
    intro l x W K hK
    gi_wp2
    exact hK
  case body =>
    rintro l pre x W ⟨v', hL, hC, hS⟩ hlt
    have hmd := meth_drop g
    have b0 : W.cell? ⟨w.heap.size, 0, none⟩ = some (.pointer (some ⟨s, 0, none⟩)) := hC.cell hbx2 hbn
    have b1 : W.cell? ⟨s, 0, none⟩ = some (.iface 61 (.pointer (some ⟨g, 0, none⟩))) := hC.cell hs0 hng
    have hnb : ∀ k, wA.heap.size ≤ k → k < w2.heap.size → ¬ Blk g b v' k := fun k h1 h2 hk => by
      rcases hk with e | e | e
      · have := hblk k (.inr (.inl e)); omega
      · have := hblk k (.inr (.inr (.inl e))); omega
      · rcases hS with h | ⟨z, h3, h4⟩
        · have := hblk k (.inr (.inr (.inr (by rw [← h]; exact e)))); omega
        · rw [h3] at e; injection e with e; omega
    have hDR := Lib.hid (drop_any x.1.2 x.2 W hL (Nat.le_trans (dropAll_len _ _) (Nat.le_trans hn (by omega))))
    have HLn := Lib.hid (And.intro hL (And.intro hC (And.intro hS hnb)))
    have hg2 := hEv2.ln.ltg
    have hb2 := hEv2.ln.ltb
    clear hL hC hS hnb
    gi_wp2_with fail
    refine ⟨trivial, ?_⟩
    refine (CallsIn.inRound l (callsIn_wide.2 hDR.out)).mono ?_
    rintro e W' ⟨rfl, hP⟩
    obtain ⟨hL, hC, hS, hnb⟩ := HLn.out
    have hR : RndI g b v X.S w2 (pre ++ [x]) W' := by unfold RndI; rw [dropAll_snoc]; exact LnP.trans hC hS hP
    obtain ⟨v'', q1, q2, q3⟩ := hP
    have hKF : KeepsFrom w2.heap.size W W' := ⟨q2.size, fun k o hB hk ho => by
      have hlt := (Array.getElem?_eq_some_iff.1 hk).1
      refine (q2.block k hlt fun hb => ?_).trans hk
      rcases hb with e | e | e
      · omega
      · omega
      · obtain ⟨o', h4, h5⟩ := nums_cells hL.row e
        rw [h4] at hk
        cases hk
        rw [h5] at ho
        cases ho⟩
    have hlw : w2.heap.size ≤ W.heap.size := hC.size
    have hK2 : Keep2 w1.heap.size bl W W' := ⟨q2.block _ (by omega) (hnb _ hB1.size (by omega)), q2.block _ (by omega) (hnb _ hbl1 (by omega))⟩
    clear q1 q2 q3 hDR HLn hL hC hS hnb
    gi_wp2
    exact ⟨hKF, hK2, hR⟩
  case done =>
    rintro D xs W hD rfl ⟨v', hL, hC, hS⟩ hK
    rw [dropAll_all] at hL
    have hg := grownBy_putObj' W D (.deferred none)
    have hr : ∀ r, some D = some r → w2.heap.size ≤ r ∧ ∃ o : Obj, W.heap[r]? = some o ∧ o.isCells = false := fun r e => by
      injection e with e
      subst e
      exact ⟨hD, _, hK, rfl⟩
    have hL3 := ln_own hL hg hr hEv2.ln.ltg hEv2.ln.ltb
    have hC3 := chg_own hC hg fun r e => (hr r e).1
    have hP := hEv2.line (S' := X.S.clear) ⟨v', hL3, hC3, hS⟩
    have hC02 : Chg (SBlk s g b v) w w2 := (HC.out.mono fun k hk => .inl hk).trans (Chg.of_below (hB1.trans (hB12.mono hB1.size)))
    have HF : Hid (SetP s g b v X w (.returned (.slice A X.S.nums.length cap)) (W.putObj D (.deferred none))) :=
      by
        obtain ⟨v3, q1, q2, q3⟩ := hP
        obtain ⟨_, _, r2, _⟩ := EvP.trans (w := w) hC02 (.inl rfl) ⟨v3, q1, q2, q3⟩
        have hsl : Slid v v3 w := slid_trans (.inl rfl) q3 hC02.size
        refine ⟨_, v3, rfl, hN2.chg hC3 (fun x hx hk => by have h1 := hfr x hx; have h2 := hblk x (.inr hk); omega), q1, r2, hsl, fun x hx => ⟨by have h1 := hfr x hx; omega, fun hb => ?_⟩⟩
        have h1 := hfr x hx
        have h2 := hN2.lt hx
        rcases hb with e | e | e | e
        · have := hblk x (.inl e); omega
        · have := hblk x (.inr (.inl e)); omega
        · have := hblk x (.inr (.inr (.inl e))); omega
        · rcases q3 with h | ⟨z, h3, h4⟩
          · have := hblk x (.inr (.inr (.inr (by rw [← h]; exact e)))); omega
          · rw [h3] at e; injection e with e; omega
    clear hL hC hL3 hC3 hP hC02 hg hr hS
    gi_wp2
    refine ⟨by simp, .inl ⟨_, _, rfl, run_takeDeferred hK, ?_⟩⟩
    refine ⟨_, results_tmp rfl _ _ _, ?_⟩
    exact HF.out
  case stop =>
    rintro D c pre W _ _ h _
    exact h.elim
end Go.Proofs.Ytndipldcpnglgaa
