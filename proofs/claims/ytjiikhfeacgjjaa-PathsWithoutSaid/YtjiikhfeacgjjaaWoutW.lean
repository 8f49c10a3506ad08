/-
  paths.Without.
-/
import Derived.Test.YtjiikhfeacgjjaaDelW
namespace Go.Proofs.Ytjiikhfeacgjjaa
open Go.RowKit

theorem enters39 : Enters 39 := enters_of Try.func39 (by kernel_rfl) rfl
noncomputable def nearB (N : Nat) (hs : List ChanA) (t : Nat) (c : ChanA) : Bool := btwB N c && pathB N hs c.2.2.1.toNat t
theorem near_eq (N : Nat) (hs : List ChanA) (t : Nat) : near N hs t = hs.filter (nearB N hs t) := rfl

set_option maxHeartbeats 4000000 in
set_option maxRecDepth 100000 in
theorem closure39 (bp bi cI t : Nat) (P : PlanA) (L : PlanL) (A : Option Addr) (f : Nat → Bool) (hs : List ChanA) (c : ChanA) (W : World) (hl : P.2.2.1.length ≤ 140737488355328) (hb : PBn W bp P.1 L.a1 P.2.1.length L.c1 L.a2 P.2.2.1.length L.c2 L.a3 P.2.2.2.1.length L.c3 L.a4 P.2.2.2.2.length L.c4)
    (hi : W.cell? ⟨bi, 0, none⟩ = some (.slice A P.2.2.1.length cI)) (hf : Bools W A P.2.2.1.length f) (hfe : ∀ i, f i = pathB P.2.2.1.length hs i t) (hc : WfChan c) :
    Calls Try.prog 39 (#[cv c] ++ #[.pointer (some ⟨bp, 0, none⟩), .pointer (some ⟨bi, 0, none⟩)]) W fun e w' => e = .returned (.bool (!nearB P.2.2.1.length hs t c)) ∧ Below W.heap.size W w' := by
  have HBT := Lib.hid (fun W => isBtw_any P L c W hl hc)
  obtain ⟨fr, cs, ps, hs', rs⟩ := P
  obtain ⟨A1, c1, A2, c2, A3, c3, A4, c4⟩ := L
  obtain ⟨x0, x1, x2, x3, x4, x5⟩ := c
  obtain ⟨-, ⟨f0, f1⟩, ⟨t0, t1⟩, -⟩ := hc
  simp only [planV, cv, nearB] at *
  obtain ⟨N, hN⟩ : ∃ N, N = ps.length := ⟨_, rfl⟩
  rw [← hN] at HBT hl hb hi hf hfe ⊢
  have hba : Below W.heap.size W (W.alloc (.cells #[.int .u8 x0, .int .u8 x1, .int .u8 x2, .int .u8 x3, .int .u8 x4, .int .u16 x5] 44)) := (Below.refl _ _).alloc (Nat.le_refl _) _
  have HCB := Lib.hid (CB.new W x0 x1 x2 x3 x4 x5)
  obtain ⟨k0, k1, k2, k3, k4⟩ := hb.keep hba
  have hi1 := kept hi hba
  have HHI := Lib.hid hi1
  have HBA := Lib.hid hba
  obtain ⟨ta, rfl⟩ : ∃ a : Nat, x2 = a := ⟨x2.toNat, by omega⟩
  rw [Int.toNat_natCast]
  obtain ⟨q, hq⟩ : ∃ q, q = btwB N (x0, x1, ↑ta, x3, x4, x5) := ⟨_, rfl⟩
  rw [← hq] at HBT ⊢
  have HQ := Lib.hid hq
  clear hN hb hi hba
  cases q
  · rw [Bool.false_and]
    clear hf hfe hi1 hq
    go_enter Try.func39, Try.ntmps39
    go_wp2_with fail
    with_reducible refine (HBT.out _).mono ?_
    rintro e w1 ⟨rfl, hB⟩
    have HB1 := Lib.hid (below_two HBA.out hB)
    clear hB
    go_wp2_with fail
    go_ret
    exact ⟨rfl, HB1.out⟩
  · rw [Bool.true_and]
    unfold btwB isB at hq
    simp only [Bool.true_eq, Bool.and_eq_true, decide_eq_true_eq] at hq
    have htn : ta < N := by omega
    obtain ⟨b, o, rfl⟩ := Arr.head hf htn
    have hr := Bools.cell hf htn
    rw [hfe] at hr
    obtain ⟨p, hp⟩ : ∃ p, p = pathB N hs ta t := ⟨_, rfl⟩
    rw [← hp] at hr ⊢
    have HR := Lib.hid hr
    have i0 : (0 : Int) ≤ (ta : Int) := Int.natCast_nonneg _
    have i1 : (ta : Int) < (N : Int) := by omega
    clear hf hfe hi1 hq hr hp
    go_enter Try.func39, Try.ntmps39
    go_wp2_with fail
    with_reducible refine (HBT.out _).mono ?_
    rintro e w1 ⟨rfl, hB⟩
    obtain ⟨m0, m1, m2, m3, m4, m5⟩ := HCB.out.keep hB
    dsimp only at m0 m1 m2 m3 m4 m5
    have hi2 := kept HHI.out hB
    have hr2 := kept HR.out (below_two HBA.out hB)
    have HB1 := Lib.hid (below_two HBA.out hB)
    clear hB
    go_wp2_with fail
    go_ret
    exact ⟨ret_b (by simp), HB1.out⟩

theorem Arr.move {w w' : World} {A : Option Addr} {C n : Nat} {F : Nat → List Value} (hA : Arr w A C n F) (h : ∀ b o, A = some ⟨b, o, none⟩ → w'.heap[b]? = w.heap[b]?) : Arr w' A C n F := fun i hi => by
  obtain ⟨b, o, e, hc⟩ := hA i hi
  exact ⟨b, o, e, fun j u hu => by rw [World.cell?_of_block (a := ⟨b, _, none⟩) (h b o e)]; exact hc j u hu⟩
theorem own_or {w : World} {base E C n c : Nat} {A : Option Addr} {xs : List Value} (h : w.ownsRow base E C (.slice A n c) n xs) : A = none ∨ ∃ g, A = some ⟨g, 0, none⟩ ∧ base ≤ g ∧ g < w.heap.size := by
  rcases h.2 with ⟨e, e2⟩ | ⟨g, cap, cur, e, hb, hg, _⟩
  · injection e with e1 _ _; exact .inl e1
  · injection e with e1 _ _; exact .inr ⟨g, e1, hb, (Array.getElem?_eq_some_iff.1 hg).1⟩
def zeroP : PlanA := (0, [], [], [], [])
def zeroL : PlanL := ⟨none, 0, none, 0, none, 0, none, 0⟩
set_option maxHeartbeats 4000000 in
set_option maxRecDepth 100000 in
theorem without_no (P : PlanA) (L : PlanL) (z : Int) (w : World) (hl : P.2.2.1.length ≤ 140737488355328) (hz : ¬ (0 ≤ z ∧ z < P.2.2.1.length)) :
    Calls Try.prog 24 #[planV P L, .int .i64 z] w fun e w' => e = .returned (.tuple #[planV zeroP zeroL, .int .i64 70]) ∧ Below w.heap.size w w' := by
  have HI := Lib.hid (fun W => into_no P L z W hl hz)
  obtain ⟨fr, cs, ps, hs, rs⟩ := P
  obtain ⟨A1, c1, A2, c2, A3, c3, A4, c4⟩ := L
  obtain ⟨w0, hw0⟩ : ∃ w0, w0 = (w.alloc (.cells #[.int .u16 fr, .slice A1 cs.length c1, .slice A2 ps.length c2, .slice A3 hs.length c3, .slice A4 rs.length c4] 28)).alloc (.cells #[.int .u16 0, .slice none 0 0, .slice none 0 0, .slice none 0 0, .slice none 0 0] 28) := ⟨_, rfl⟩
  have hb0 : Below w.heap.size w w0 := by rw [hw0]; exact ((Below.refl _ _).alloc (Nat.le_refl _) _).alloc (by simp) _
  have hs0 : (w.alloc (.cells #[.int .u16 fr, .slice A1 cs.length c1, .slice A2 ps.length c2, .slice A3 hs.length c3, .slice A4 rs.length c4] 28)).heap.size = w.heap.size + 1 := by simp
  have hres : QBox w0 (w.heap.size + 1) 0 (.slice none 0 0) (.slice none 0 0) (.slice none 0 0) (.slice none 0 0) := by
    rw [hw0, ← hs0]
    exact QBox.new _ 0 (.slice none 0 0) (.slice none 0 0) (.slice none 0 0) (.slice none 0 0)
  have HB0 := Lib.hid hb0
  have HRES := Lib.hid hres
  have HW0 := Lib.hid hw0
  simp only [planV] at *
  clear hz hl hb0 hres hw0 hs0
  go_enter Try.func24, Try.ntmps24
  go_wp2_with fail
  rw [← HW0.out]
  refine (HI.out _).mono ?_
  rintro e w1 ⟨rfl, hB⟩
  have hr := HRES.out.keep hB
  have HR := Lib.hid (hr.keep ((Below.refl _ _).alloc (Nat.le_refl _) (.cells #[.slice none 0 0] 31)))
  have hb1 : Below w.heap.size w (w1.alloc (.cells #[.slice none 0 0] 31)) := (below_two HB0.out hB).alloc (below_two HB0.out hB).size _
  have HB1 := Lib.hid hb1
  obtain ⟨r0, r1, r2, r3, r4⟩ := HR.out.cells
  have y0 := HR.out.frozen (j := 0)
  have y1 := HR.out.frozen (j := 1)
  have y2 := HR.out.frozen (j := 2)
  have y3 := HR.out.frozen (j := 3)
  have y4 := HR.out.frozen (j := 4)
  have hr5 := HR.out.set5 0 (.slice none 0 0) (.slice none 0 0) (.slice none 0 0) (.slice none 0 0)
  obtain ⟨q0, q1, q2, q3, q4⟩ := hr5.cells
  have HQ0 := Lib.hid q0
  have HQ1 := Lib.hid q1
  have HQ2 := Lib.hid q2
  have HQ3 := Lib.hid q3
  have HQ4 := Lib.hid q4
  have HBF := Lib.hid (hb1.trans ((only5 (w1.alloc (.cells #[.slice none 0 0] 31)) (w.heap.size + 1) (.int .u16 0) (.slice none 0 0) (.slice none 0 0) (.slice none 0 0) (.slice none 0 0)).below hb1.size (Nat.le_succ _)))
  clear hB hr hr5 hb1 q0 q1 q2 q3 q4
  go_wp2_with fail
  have q0 := HQ0.out
  have q1 := HQ1.out
  have q2 := HQ2.out
  have q3 := HQ3.out
  have q4 := HQ4.out
  exact bodyPost_ret (v := .tuple #[planV zeroP zeroL, .int .i64 70]) (by simp [results, Try.results24, go_sem, planV, zeroP, zeroL, q0, q1, q2, q3, q4]) rfl ⟨rfl, HBF.out⟩

def WoutP (P : PlanA) (t : Nat) (w : World) (e : Ending) (w' : World) : Prop :=
  ∃ L, e = .returned (.tuple #[planV (P.1, P.2.1, P.2.2.1, near P.2.2.1.length P.2.2.2.1 t, P.2.2.2.2) L, .int .i64 0]) ∧ PlanAt w' (P.1, P.2.1, P.2.2.1, near P.2.2.1.length P.2.2.2.1 t, P.2.2.2.2) L ∧ Below w.heap.size w w'
set_option maxHeartbeats 8000000 in
set_option maxRecDepth 100000 in
theorem without_yes (P : PlanA) (L : PlanL) (t : Nat) (w : World) (hP : PlanAt w P L) (hw : WfPlan P) (hF : Few P) (ht : t < P.2.2.1.length) :
    Calls Try.prog 24 #[planV P L, .int .i64 t] w fun e w' => WoutP P t w e w' := by
  have hl : P.2.2.1.length ≤ 140737488355328 := by have := hF.l2; omega
  have hl3 : P.2.2.2.1.length ≤ 140737488355328 := by have := hF.l3; omega
  have HI := Lib.hid (fun W hP => into_yes P L t W hP hw hl hl3 ht)
  have HCP := Lib.hid (fun W hP => copy_any P L W hP hF)
  have HC39 := Lib.hid (fun bp bi cI A f c W hb hi hf hfe hc => closure39 bp bi cI t P L A f P.2.2.2.1 c W hl hb hi hf hfe hc)
  have HP := Lib.hid hP
  have hc := hw.2.2.2.1
  have h3 := hF.l3
  obtain ⟨fr, cs, ps, hs, rs⟩ := P
  obtain ⟨A1, c1, A2, c2, A3, c3, A4, c4⟩ := L
  obtain ⟨w0, hw0⟩ : ∃ w0, w0 = (w.alloc (.cells #[.int .u16 fr, .slice A1 cs.length c1, .slice A2 ps.length c2, .slice A3 hs.length c3, .slice A4 rs.length c4] 28)).alloc (.cells #[.int .u16 0, .slice none 0 0, .slice none 0 0, .slice none 0 0, .slice none 0 0] 28) := ⟨_, rfl⟩
  have hb0 : Below w.heap.size w w0 := by rw [hw0]; exact ((Below.refl _ _).alloc (Nat.le_refl _) _).alloc (by simp) _
  have hs0 : (w.alloc (.cells #[.int .u16 fr, .slice A1 cs.length c1, .slice A2 ps.length c2, .slice A3 hs.length c3, .slice A4 rs.length c4] 28)).heap.size = w.heap.size + 1 := by simp
  have hs1 : w0.heap.size = w.heap.size + 1 + 1 := by rw [hw0]; simp
  have hres : QBox w0 (w.heap.size + 1) 0 (.slice none 0 0) (.slice none 0 0) (.slice none 0 0) (.slice none 0 0) := by
    rw [hw0, ← hs0]
    exact QBox.new _ 0 (.slice none 0 0) (.slice none 0 0) (.slice none 0 0) (.slice none 0 0)
  have hpb : PBn w0 w.heap.size fr A1 cs.length c1 A2 ps.length c2 A3 hs.length c3 A4 rs.length c4 := by rw [hw0]; exact (PBn.new w fr A1 cs.length c1 A2 ps.length c2 A3 hs.length c3 A4 rs.length c4).alloc _
  have HB0 := Lib.hid hb0
  have HRES := Lib.hid hres
  have HW0 := Lib.hid hw0
  have HPB := Lib.hid hpb
  have HS1 := Lib.hid hs1
  have HC := Lib.hid hc
  simp only [planV] at HI HCP HC39 ⊢
  clear hP hw hF hl hl3 hc hb0 hs0 hs1 hres hpb hw0
  go_enter Try.func24, Try.ntmps24
  go_wp2_with fail
  rw [← HW0.out]
  refine (HI.out _ (HP.out.keep HB0.out)).mono ?_
  rintro e w1 ⟨AI, cI, rfl, hbo, hB⟩
  have hba : Below w1.heap.size w1 (w1.alloc (.cells #[.slice AI ps.length cI] 31)) := (Below.refl _ _).alloc (Nat.le_refl _) _
  have hbi : (w1.alloc (.cells #[.slice AI ps.length cI] 31)).cell? ⟨w1.heap.size, 0, none⟩ = some (.slice AI ps.length cI) := by rw [World.cell?_alloc_at _ _ _ _ rfl]; rfl
  have hb1 := below_two hB hba
  obtain ⟨k0, k1, k2, k3, k4⟩ := HPB.out.keep hb1
  have HBO := Lib.hid (Arr.keep hbo hba)
  have HBI := Lib.hid hbi
  have HB1 := Lib.hid hb1
  clear hbo hB hba hbi hb1
  go_wp2_with fail
  refine (HCP.out _ (HP.out.keep (below_two HB0.out HB1.out))).mono ?_
  rintro e w2 ⟨⟨B1, d1, B2, d2, B3, d3, B4, d4⟩, rfl, hcp, hB⟩
  have HCPA := Lib.hid hcp
  have HB2 := Lib.hid hB
  simp only [planV]
  have hsb : (w1.alloc (.cells #[.slice AI ps.length cI] 31)).heap.size = w1.heap.size + 1 := by simp
  have hown := hcp.own
  rw [hsb] at hown
  dsimp only at hown
  have hw01 := HB1.out.size
  have hw12 := hB.size
  rw [hsb] at hw01 hw12
  have hs1 := HS1.out
  obtain ⟨W4, hW4⟩ : ∃ W4, W4 = w2.alloc (.cells #[.int .u16 fr, .slice B1 cs.length d1, .slice B2 ps.length d2, .slice B3 hs.length d3, .slice B4 rs.length d4] 28) := ⟨_, rfl⟩
  have hb4 : Below w2.heap.size w2 W4 := by rw [hW4]; exact (Below.refl _ _).alloc (Nat.le_refl _) _
  have hs4 : W4.heap.size = w2.heap.size + 1 := by rw [hW4]; simp
  have hq4 : QBox W4 w2.heap.size fr (.slice B1 cs.length d1) (.slice B2 ps.length d2) (.slice B3 hs.length d3) (.slice B4 rs.length d4) := by rw [hW4]; exact QBox.new _ _ _ _ _ _
  have hr4 := ((HRES.out.keep HB1.out).keep hB).keep hb4
  have hp4 := ((HPB.out.keep HB1.out).keep hB).keep hb4
  have hi4 := kept (kept HBI.out hB) hb4
  have hbo4 : Bools W4 AI ps.length fun i => pathB ps.length hs i t := Arr.keep (Arr.keep HBO.out hB) hb4
  have hoa := own_or hown
  have hdel := delete_any 39 #[.pointer (some ⟨w.heap.size, 0, none⟩), .pointer (some ⟨w1.heap.size, 0, none⟩)] (nearB ps.length hs t) B3 d3 hs (w1.heap.size + 1) W4 (own_below hown hb4) enters39 h3 fun v W hv ho => by
    have hl0 : 0 < hs.length := List.length_pos_of_mem hv
    obtain ⟨b, o, e⟩ := Arr.head (arr_flat (f := chanV) (d := dC) hown (fun _ => rfl)) hl0
    obtain ⟨e0, hg1, hg2⟩ := own_addr hown e
    subst e0
    have hO := ho b e
    refine HC39.out w.heap.size w1.heap.size cI AI (fun i => pathB ps.length hs i t) v W (hp4.only hO (by omega)) (hO.kept hi4 (by omega)) (Arr.only hbo4 hO fun b' o' e' => ?_) (fun _ => rfl) (HC.out v hv)
    have hbx := cell_lt (Bools.cell (by rw [← e']; exact HBO.out) ht)
    have hba : b' < w1.heap.size ∨ b' = w1.heap.size := by have := hsb; dsimp only at hbx; omega
    rcases hba with h | h
    · omega
    · omega
  have HDEL := Lib.hid hdel
  have HQ4 := Lib.hid hq4
  have HR4 := Lib.hid hr4
  have HOA := Lib.hid hoa
  have HW4 := Lib.hid hW4
  have HS4 := Lib.hid hs4
  have HB4 := Lib.hid hb4
  have HBW := Lib.hid (below_two HB0.out (below_two HB1.out hB))
  clear hcp hB k0 k1 k2 k3 k4 hsb hown hW4 hb4 hs4 hq4 hr4 hp4 hi4 hbo4 hoa hdel
  obtain ⟨k0, k1, k2, k3, k4⟩ := HQ4.out.cells
  go_wp2_with fail
  rw [← HW4.out]
  refine HDEL.out.mono ?_
  rintro e w5 ⟨rfl, hch, ho, -, hsz, hno⟩
  have hs4 := HS4.out
  have hsame : ∀ b, b < W4.heap.size → B3 ≠ some ⟨b, 0, none⟩ → w5.heap[b]? = W4.heap[b]? := fun b hb hn => by
    rcases HOA.out with h | ⟨g, h, _, _⟩
    · exact (hno h).block b hb
    · exact (ho g h).block b hb (fun e => hn (by rw [h, e]))
  have hne : ∀ b, (b ≤ w1.heap.size ∨ w2.heap.size ≤ b) → B3 ≠ some ⟨b, 0, none⟩ := fun b hb e => by
    rcases HOA.out with h | ⟨g, h, h1, h2⟩
    · rw [h] at e; cases e
    · rw [h] at e
      injection e with e
      injection e with e _ _
      omega
  have hq5 : QBox w5 w2.heap.size fr (.slice B1 cs.length d1) (.slice B2 ps.length d2) (.slice B3 hs.length d3) (.slice B4 rs.length d4) := (hsame _ (by omega) (hne _ (.inr (Nat.le_refl _)))).trans HQ4.out
  have hr5 : QBox w5 (w.heap.size + 1) 0 (.slice none 0 0) (.slice none 0 0) (.slice none 0 0) (.slice none 0 0) := (hsame _ (by omega) (hne _ (.inl (by omega)))).trans HR4.out
  obtain ⟨M, hM⟩ : ∃ M, M = (hs.filter (nearB ps.length hs t)).length := ⟨_, rfl⟩
  have hq6 := hq5.set3 (v := .slice B3 M d3)
  have hr6 : QBox (w5.setCell ⟨w2.heap.size, 3, none⟩ (.slice B3 M d3)) (w.heap.size + 1) 0 (.slice none 0 0) (.slice none 0 0) (.slice none 0 0) (.slice none 0 0) := (Below.heap_setCell _ _ _ _ (by show w.heap.size + 1 ≠ w2.heap.size; omega)).trans hr5
  clear k0 k1 k2 k3 k4
  obtain ⟨k0, k1, k2, k3, k4⟩ := hq5.cells
  have yq := hq5.frozen (j := 3)
  obtain ⟨m0, m1, m2, m3, m4⟩ := hq6.cells
  obtain ⟨r0, r1, r2, r3, r4⟩ := hr6.cells
  have y0 := hr6.frozen (j := 0)
  have y1 := hr6.frozen (j := 1)
  have y2 := hr6.frozen (j := 2)
  have y3 := hr6.frozen (j := 3)
  have y4 := hr6.frozen (j := 4)
  have hr7 := hr6.set5 fr (.slice B1 cs.length d1) (.slice B2 ps.length d2) (.slice B3 M d3) (.slice B4 rs.length d4)
  have ho7 := only5 (w5.setCell ⟨w2.heap.size, 3, none⟩ (.slice B3 M d3)) (w.heap.size + 1) (.int .u16 fr) (.slice B1 cs.length d1) (.slice B2 ps.length d2) (.slice B3 M d3) (.slice B4 rs.length d4)
  obtain ⟨W7, hW7⟩ : ∃ W7, W7 = (((((w5.setCell ⟨w2.heap.size, 3, none⟩ (.slice B3 M d3)).setCell ⟨w.heap.size + 1, 0, none⟩ (.int .u16 fr)).setCell ⟨w.heap.size + 1, 1, none⟩ (.slice B1 cs.length d1)).setCell ⟨w.heap.size + 1, 2, none⟩ (.slice B2 ps.length d2)).setCell ⟨w.heap.size + 1, 3, none⟩ (.slice B3 M d3)).setCell ⟨w.heap.size + 1, 4, none⟩ (.slice B4 rs.length d4) := ⟨_, rfl⟩
  rw [← hW7] at hr7 ho7
  simp only [World.size_setCell] at ho7
  have h75 : ∀ b, b < w5.heap.size → b ≠ w.heap.size + 1 → b ≠ w2.heap.size → W7.heap[b]? = w5.heap[b]? := fun b hb h1 h2 => (ho7.block b hb h1).trans (Below.heap_setCell _ _ _ _ h2)
  have hrest := HCPA.out.rest W7 fun b h1 h2 h3 => by
    simp only [World.size_alloc] at h1
    rw [h75 b (by omega) (by omega) (by omega), hsame b (by omega) h3, HB4.out.block b h2]
  dsimp only at hrest
  have hch7 : ChansAt W7 B3 (hs.filter (nearB ps.length hs t)) := Arr.move hch fun b o e => by
    rcases HOA.out with h | ⟨g, h, h1, h2⟩
    · rw [h] at e; cases e
    · rw [h] at e
      injection e with e
      injection e with e _ _
      exact h75 b (by omega) (by omega) (by omega)
  have hbel : Below w.heap.size w W7 := by
    refine HBW.out.trans ?_
    have h1 : Below w.heap.size w2 w5 := by
      rcases HOA.out with h | ⟨g, h, h1, h2⟩
      · exact (HB4.out.mono (by omega)).trans ((hno h).mono (by omega))
      · exact (HB4.out.mono (by omega)).trans ((ho g h).below (by omega) (by omega))
    refine h1.trans ?_
    have h2 : Below w.heap.size w5 (w5.setCell ⟨w2.heap.size, 3, none⟩ (.slice B3 M d3)) := (Below.refl _ _).setCell (by show w.heap.size ≤ w2.heap.size; omega) _
    exact h2.trans (by rw [hW7]; exact (((((Below.refl w.heap.size _).setCell (Nat.le_succ _) _).setCell (Nat.le_succ _) _).setCell (Nat.le_succ _) _).setCell (Nat.le_succ _) _).setCell (Nat.le_succ _) _)
  obtain ⟨q0, q1, q2, q3, q4⟩ := hr7.cells
  have HF : Hid (WoutP (fr, cs, ps, hs, rs) t w (.returned (.tuple #[planV (fr, cs, ps, near ps.length hs t, rs) ⟨B1, d1, B2, d2, B3, d3, B4, d4⟩, .int .i64 0])) W7) := ⟨_, rfl, ⟨hrest.1, hrest.2.1, hch7, hrest.2.2⟩, hbel⟩
  have HW7 := Lib.hid hW7
  have HQ0 := Lib.hid q0
  have HQ1 := Lib.hid q1
  have HQ2 := Lib.hid q2
  have HQ3 := Lib.hid q3
  have HQQ4 := Lib.hid q4
  have HM := Lib.hid hM
  clear hch ho hno hsame hne hq5 hr5 hq6 hr6 hr7 ho7 hW7 h75 hrest hch7 hbel q0 q1 q2 q3 q4 hsz hs4 hw01 hw12 hs1
  rw [← hM]
  clear hM
  go_wp2_with fail
  have q0 := HQ0.out
  have q1 := HQ1.out
  have q2 := HQ2.out
  have q3 := HQ3.out
  have q4 := HQQ4.out
  have hW7 := HW7.out
  rw [hW7] at q0 q1 q2 q3 q4
  have hv : planV (fr, cs, ps, near ps.length hs t, rs) ⟨B1, d1, B2, d2, B3, d3, B4, d4⟩ = .agg #[.int .u16 fr, .slice B1 cs.length d1, .slice B2 ps.length d2, .slice B3 M d3, .slice B4 rs.length d4] := by simp only [planV, near_eq, ← HM.out]
  refine bodyPost_ret (v := .tuple #[planV (fr, cs, ps, near ps.length hs t, rs) ⟨B1, d1, B2, d2, B3, d3, B4, d4⟩, .int .i64 0]) (by rw [hv]; simp [results, Try.results24, go_sem, q0, q1, q2, q3, q4]) rfl ?_
  rw [← hW7]
  exact HF.out
end Go.Proofs.Ytjiikhfeacgjjaa
