/-
  A window's place in the frame, and its partition.
-/
import Derived.Test.YtmfelkdcoihkpaaDoorEachW
namespace Go.Proofs.YtmfelkdcoihkpaaDoor
open Go.RowKit

/-- Where a core's header, and its windows, lie. -/
theorem win_at {w : World} {A : Option Addr} {cs : List (List WinA)} {c i : Nat} (G : CoresAt w A cs) (hc : c < cs.length) (hi : i < (cs.getD c []).length) :
    ∃ b1 o1 b2 o2 cap, A = some ⟨b1, o1, none⟩ ∧ (cs.getD c []).length ≤ cap ∧ w.cell? ⟨b1, o1 + c, none⟩ = some (.slice (some ⟨b2, o2, none⟩) (cs.getD c []).length cap) ∧
      ∀ k, k < (cs.getD c []).length → w.cell? ⟨b2, o2 + k * 4, none⟩ = some (.int .u16 (winAt cs c k).1) ∧ w.cell? ⟨b2, o2 + k * 4 + 1, none⟩ = some (.int .u16 (winAt cs c k).2.1) ∧ w.cell? ⟨b2, o2 + k * 4 + 2, none⟩ = some (.int .u8 (winAt cs c k).2.2.1) ∧ w.cell? ⟨b2, o2 + k * 4 + 3, none⟩ = some (.int .u8 (winAt cs c k).2.2.2) := by
  obtain ⟨Pf, q1, q2⟩ := G
  obtain ⟨b1, o1, rfl⟩ := Arr.head q1 hc
  obtain ⟨h, hcap⟩ := q2 c hc
  obtain ⟨b2, o2, he⟩ := Arr.head h hi
  have cc := Arr.at (j := 0) q1 hc rfl
  simp only [slV, he, Nat.mul_one, Nat.add_zero] at cc
  unfold WinsAt at h
  rw [he] at h
  refine ⟨b1, o1, b2, o2, _, rfl, hcap, cc, fun k hk => ⟨?_, ?_, ?_, ?_⟩⟩
  · exact Arr.at (j := 0) h hk rfl
  · exact Arr.at (j := 1) h hk rfl
  · exact Arr.at (j := 2) h hk rfl
  · exact Arr.at (j := 3) h hk rfl
theorem winAt_mem {cs : List (List WinA)} {c i : Nat} (hi : i < (cs.getD c []).length) : winAt cs c i ∈ cs.getD c [] := getD_mem dW hi
theorem winAt_wf {cs : List (List WinA)} {c i : Nat} (h : ∀ ws ∈ cs, ∀ w ∈ ws, WfWin w) (hc : c < cs.length) (hi : i < (cs.getD c []).length) : WfWin (winAt cs c i) := h _ (getD_mem [] hc) _ (winAt_mem hi)

/-- A plan in a block of its own. -/
def PB (W : World) (b : Nat) (P : PlanA) (L : PlanL) : Prop :=
  W.cell? ⟨b, 0, none⟩ = some (.int .u16 P.1) ∧ W.cell? ⟨b, 1, none⟩ = some (.slice L.a1 P.2.1.length L.c1) ∧ W.cell? ⟨b, 2, none⟩ = some (.slice L.a2 P.2.2.1.length L.c2) ∧ W.cell? ⟨b, 3, none⟩ = some (.slice L.a3 P.2.2.2.1.length L.c3) ∧ W.cell? ⟨b, 4, none⟩ = some (.slice L.a4 P.2.2.2.2.length L.c4)
theorem PB.keep {W W' : World} {b : Nat} {P : PlanA} {L : PlanL} (h : PB W b P L) (hB : Below W.heap.size W W') : PB W' b P L :=
  ⟨kept h.1 hB, kept h.2.1 hB, kept h.2.2.1 hB, kept h.2.2.2.1 hB, kept h.2.2.2.2 hB⟩
theorem PB.new (W : World) (fr : Int) (cs : List (List WinA)) (ps : List PartA) (hs : List ChanA) (rs : List PairA) (A1 : Option Addr) (c1 : Nat) (A2 : Option Addr) (c2 : Nat) (A3 : Option Addr) (c3 : Nat) (A4 : Option Addr) (c4 : Nat) :
    PB (W.alloc (.cells #[.int .u16 fr, .slice A1 cs.length c1, .slice A2 ps.length c2, .slice A3 hs.length c3, .slice A4 rs.length c4] 28)) W.heap.size (fr, cs, ps, hs, rs) ⟨A1, c1, A2, c2, A3, c3, A4, c4⟩ := ⟨by simp, by simp, by simp, by simp, by simp⟩
theorem PB.alloc {W : World} {b : Nat} {P : PlanA} {L : PlanL} (h : PB W b P L) (o : Obj) : PB (W.alloc o) b P L := h.keep ((Below.refl _ _).alloc (Nat.le_refl _) _)

/-- What is wrong with a window's place, told by its numbers. -/
def plE (fr free : Int) (parts : Nat) (x : WinA) : Int := if x.2.1 = 0 ∨ x.1 < free ∨ fr < x.1 + x.2.1 then 44 else if x.2.2.1 < parts then 0 else 45

set_option maxHeartbeats 4000000 in
set_option maxRecDepth 100000 in
theorem placed_any (P : PlanA) (L : PlanL) (c i : Nat) (w : World) (hP : PlanAt w P L) (hW : WfPlan P) (hc : c < P.2.1.length) (hi : i < (P.2.1.getD c []).length) (h8 : P.2.1.length ≤ 8) (h256 : (P.2.1.getD c []).length ≤ 256) (h64 : P.2.2.1.length ≤ 64) :
    Calls Tryd.prog 44 #[planV P L, .int .i64 c, .int .i64 i] w fun e w' => e = .returned (.int .i64 (placedE P (c, i))) ∧ Below w.heap.size w w' := by
  have hpl : placedE P (c, i) = plE P.1 (freeW P c i) P.2.2.1.length (winAt P.2.1 c i) := rfl
  rw [hpl]
  clear hpl
  obtain ⟨fr, cs, ps, hs, rs⟩ := P
  obtain ⟨A1, c1, A2, c2, A3, c3, A4, c4⟩ := L
  obtain ⟨g1, -, -, -⟩ := hP
  obtain ⟨hfr, hwf, -, -, -⟩ := hW
  have wi := winAt_wf hwf hc hi
  have hprev : ∃ f, f = freeW (fr, cs, ps, hs, rs) c i ∧ (i = 0 → f = 0) ∧ (∀ k, i = k + 1 → f = endW (winAt cs c k)) := ⟨_, rfl, fun h => by unfold freeW; rw [if_pos h], fun k h => by unfold freeW; rw [if_neg (by omega), h]; rfl⟩
  simp only [planV] at *
  have HB0 : Hid (Below w.heap.size w (w.alloc (.cells #[.int .u16 fr, .slice A1 cs.length c1, .slice A2 ps.length c2, .slice A3 hs.length c3, .slice A4 rs.length c4] 28))) := (Below.refl _ _).alloc (Nat.le_refl _) _
  obtain ⟨b1, o1, b2, o2, cap, rfl, -, k1, k2⟩ := win_at (g1.keep HB0.out) hc hi
  obtain ⟨d0, d1, d2, d3⟩ := k2 i hi
  obtain ⟨n, hn⟩ : ∃ n, n = (cs.getD c []).length := ⟨_, rfl⟩
  obtain ⟨⟨x0, x1, x2, x3⟩, hx⟩ : ∃ x, x = winAt cs c i := ⟨_, rfl⟩
  rw [← hn] at k1 k2 hi h256
  rw [← hx] at d0 d1 d2 d3 wi ⊢
  dsimp only at d0 d1 d2 d3 hc h8 h64
  unfold wide at hfr
  obtain ⟨w0, w1, w2, w3⟩ := wi
  unfold wide at w0 w1
  unfold byte at w2 w3
  obtain ⟨f, hf, hf0, hf1⟩ := hprev
  rw [← hf]
  have HX := Lib.hid hx
  have HN := Lib.hid hn
  have K2 := Lib.hid k2
  have HWF := Lib.hid hwf
  clear hx hn k2 g1 hwf hf
  have HP0 := Lib.hid ((PB.new w fr cs ps hs rs (some ⟨b1, o1, none⟩) c1 A2 c2 A3 c3 A4 c4).alloc (.cells #[.int .u16 x0, .int .u16 x1, .int .u8 x2, .int .u8 x3] 39))
  have hwb := WB.new (w.alloc (.cells #[.int .u16 fr, .slice (some ⟨b1, o1, none⟩) cs.length c1, .slice A2 ps.length c2, .slice A3 hs.length c3, .slice A4 rs.length c4] 28)) x0 x1 x2 x3
  rw [show (w.alloc (.cells #[.int .u16 fr, .slice (some ⟨b1, o1, none⟩) cs.length c1, .slice A2 ps.length c2, .slice A3 hs.length c3, .slice A4 rs.length c4] 28)).heap.size = w.heap.size + 1 by simp] at hwb
  have HW0 := Lib.hid hwb
  clear hwb
  by_cases h0 : i = 0
  · have hi0 : ¬ (0 : Int) < (i : Int) := by omega
    obtain rfl := hf0 h0
    clear h0 hf0 hf1
    by_cases hx1 : x1 = 0
    · subst hx1
      go_enter Tryd.func44, Tryd.ntmps44
      go_wp2_with fail
      refine (ticks_any x0 0 x2 x3 _ (by unfold wide; omega) (by unfold wide; omega)).mono ?_
      rintro e w1 ⟨rfl, hB⟩
      have HB1 := Lib.hid hB
      clear hB
      go_wp2_with fail
      go_ret
      exact ⟨ret_i (by simp [plE]), below_two (HB0.out.alloc (by simp) _) HB1.out⟩
    · have hxe : (x0 == x0 + x1) = false := by simp; omega
      have HX1 := Lib.hid hx1
      clear hx1
      by_cases h1 : x0 < 0
      · exact absurd h1 (by omega)
      · by_cases h2 : fr < x0 + x1
        · go_enter Tryd.func44, Tryd.ntmps44
          go_wp2_with fail
          refine (ticks_any x0 x1 x2 x3 _ (by unfold wide; omega) (by unfold wide; omega)).mono ?_
          rintro e w1 ⟨rfl, hB⟩
          have HB1 := Lib.hid hB
          obtain ⟨p0, p1, p2, p3, p4⟩ := HP0.out.keep hB
          obtain ⟨q0, q1, q2, q3⟩ := HW0.out.keep hB
          dsimp only at p0 p1 p2 p3 p4 q0 q1 q2 q3
          clear hB
          go_wp2_with fail
          go_ret
          exact ⟨ret_i (by unfold plE; rw [if_pos (.inr (.inr h2))]), below_two (HB0.out.alloc (by simp) _) HB1.out⟩
        · go_enter Tryd.func44, Tryd.ntmps44
          go_wp2_with fail
          refine (ticks_any x0 x1 x2 x3 _ (by unfold wide; omega) (by unfold wide; omega)).mono ?_
          rintro e w1 ⟨rfl, hB⟩
          have HB1 := Lib.hid hB
          obtain ⟨p0, p1, p2, p3, p4⟩ := HP0.out.keep hB
          obtain ⟨q0, q1, q2, q3⟩ := HW0.out.keep hB
          dsimp only at p0 p1 p2 p3 p4 q0 q1 q2 q3
          clear hB
          go_wp2_with fail
          refine (unless_any _ _ _).mono ?_
          rintro e w4 ⟨rfl, rfl⟩
          go_wp2_with fail
          all_goals
            go_ret
            exact ⟨ret_i (by unfold plE; rw [if_neg (by have hx := HX1.out; dsimp only; omega)]; dsimp only; split <;> omega), below_two (HB0.out.alloc (by simp) _) HB1.out⟩
  · obtain ⟨k, rfl⟩ : ∃ k, i = k + 1 := ⟨i - 1, by omega⟩
    obtain rfl := hf1 k rfl
    clear h0 hf0 hf1
    obtain ⟨m0, m1, m2, m3⟩ := K2.out k (by omega)
    have wy := winAt_wf HWF.out hc (i := k) (by rw [← HN.out]; omega)
    obtain ⟨⟨y0, y1, y2, y3⟩, hy⟩ : ∃ x, x = winAt cs c k := ⟨_, rfl⟩
    rw [← hy] at m0 m1 m2 m3 wy ⊢
    rw [show endW (y0, y1, y2, y3) = y0 + y1 from rfl]
    obtain ⟨v0, v1, -, -⟩ := wy
    unfold wide at v0 v1
    dsimp only at m0 m1 m2 m3 v0 v1
    have HY := Lib.hid hy
    clear hy
    have hk0 : (0 : Int) < ((k + 1 : Nat) : Int) := by omega
    replace m0 := kept m0 ((Below.refl _ _).alloc (Nat.le_refl _) (.cells #[.int .u16 x0, .int .u16 x1, .int .u8 x2, .int .u8 x3] 39))
    replace m1 := kept m1 ((Below.refl _ _).alloc (Nat.le_refl _) (.cells #[.int .u16 x0, .int .u16 x1, .int .u8 x2, .int .u8 x3] 39))
    replace m2 := kept m2 ((Below.refl _ _).alloc (Nat.le_refl _) (.cells #[.int .u16 x0, .int .u16 x1, .int .u8 x2, .int .u8 x3] 39))
    replace m3 := kept m3 ((Below.refl _ _).alloc (Nat.le_refl _) (.cells #[.int .u16 x0, .int .u16 x1, .int .u8 x2, .int .u8 x3] 39))
    have kk := kept k1 ((Below.refl _ _).alloc (Nat.le_refl _) (.cells #[.int .u16 x0, .int .u16 x1, .int .u8 x2, .int .u8 x3] 39))
    have ee : IntKind.i64.wrap (((k + 1 : Nat) : Int) - 1) = k := by rw [IntWalk.i64_in _ (by omega)]; omega
    by_cases hx1 : x1 = 0
    · subst hx1
      go_enter Tryd.func44, Tryd.ntmps44
      go_wp2_with fail
      refine (ticks_any y0 y1 y2 y3 _ (by unfold wide; omega) (by unfold wide; omega)).mono ?_
      rintro e w9 ⟨rfl, hB⟩
      have HB9 := Lib.hid hB
      have HP9 := Lib.hid (HP0.out.keep hB)
      have HW9 := Lib.hid (HW0.out.keep hB)
      obtain ⟨z0, z1, z2, z3⟩ := HW9.out
      dsimp only at z0 z1 z2 z3
      clear hB
      go_wp2_with fail
      refine (ticks_any x0 0 x2 x3 _ (by unfold wide; omega) (by unfold wide; omega)).mono ?_
      rintro e w1 ⟨rfl, hB⟩
      have HB1 := Lib.hid hB
      clear hB
      clear z0 z1 z2 z3
      go_wp2_with fail
      go_ret
      exact ⟨ret_i (by simp [plE]), below_two (HB0.out.alloc (by simp) _) (below_two HB9.out HB1.out)⟩
    · have hxe : (x0 == x0 + x1) = false := by simp; omega
      have HX1 := Lib.hid hx1
      clear hx1
      by_cases h1 : x0 < y0 + y1
      · go_enter Tryd.func44, Tryd.ntmps44
        go_wp2_with fail
        refine (ticks_any y0 y1 y2 y3 _ (by unfold wide; omega) (by unfold wide; omega)).mono ?_
        rintro e w9 ⟨rfl, hB⟩
        have HB9 := Lib.hid hB
        have HP9 := Lib.hid (HP0.out.keep hB)
        have HW9 := Lib.hid (HW0.out.keep hB)
        obtain ⟨z0, z1, z2, z3⟩ := HW9.out
        dsimp only at z0 z1 z2 z3
        clear hB
        go_wp2_with fail
        refine (ticks_any x0 x1 x2 x3 _ (by unfold wide; omega) (by unfold wide; omega)).mono ?_
        rintro e w1 ⟨rfl, hB⟩
        have HB1 := Lib.hid hB
        clear hB
        clear z0 z1 z2 z3
        go_wp2_with fail
        go_ret
        exact ⟨ret_i (by unfold plE; rw [if_pos (.inr (.inl h1))]), below_two (HB0.out.alloc (by simp) _) (below_two HB9.out HB1.out)⟩
      · by_cases h2 : fr < x0 + x1
        · go_enter Tryd.func44, Tryd.ntmps44
          go_wp2_with fail
          refine (ticks_any y0 y1 y2 y3 _ (by unfold wide; omega) (by unfold wide; omega)).mono ?_
          rintro e w9 ⟨rfl, hB⟩
          have HB9 := Lib.hid hB
          have HP9 := Lib.hid (HP0.out.keep hB)
          have HW9 := Lib.hid (HW0.out.keep hB)
          obtain ⟨z0, z1, z2, z3⟩ := HW9.out
          dsimp only at z0 z1 z2 z3
          clear hB
          go_wp2_with fail
          refine (ticks_any x0 x1 x2 x3 _ (by unfold wide; omega) (by unfold wide; omega)).mono ?_
          rintro e w1 ⟨rfl, hB⟩
          have HB1 := Lib.hid hB
          obtain ⟨p0, p1, p2, p3, p4⟩ := HP9.out.keep hB
          obtain ⟨q0, q1, q2, q3⟩ := HW9.out.keep hB
          dsimp only at p0 p1 p2 p3 p4 q0 q1 q2 q3
          clear hB
          clear z0 z1 z2 z3
          go_wp2_with fail
          go_ret
          exact ⟨ret_i (by unfold plE; rw [if_pos (.inr (.inr h2))]), below_two (HB0.out.alloc (by simp) _) (below_two HB9.out HB1.out)⟩
        · go_enter Tryd.func44, Tryd.ntmps44
          go_wp2_with fail
          refine (ticks_any y0 y1 y2 y3 _ (by unfold wide; omega) (by unfold wide; omega)).mono ?_
          rintro e w9 ⟨rfl, hB⟩
          have HB9 := Lib.hid hB
          have HP9 := Lib.hid (HP0.out.keep hB)
          have HW9 := Lib.hid (HW0.out.keep hB)
          obtain ⟨z0, z1, z2, z3⟩ := HW9.out
          dsimp only at z0 z1 z2 z3
          clear hB
          go_wp2_with fail
          refine (ticks_any x0 x1 x2 x3 _ (by unfold wide; omega) (by unfold wide; omega)).mono ?_
          rintro e w1 ⟨rfl, hB⟩
          have HB1 := Lib.hid hB
          obtain ⟨p0, p1, p2, p3, p4⟩ := HP9.out.keep hB
          obtain ⟨q0, q1, q2, q3⟩ := HW9.out.keep hB
          dsimp only at p0 p1 p2 p3 p4 q0 q1 q2 q3
          clear hB
          clear z0 z1 z2 z3
          go_wp2_with fail
          refine (unless_any _ _ _).mono ?_
          rintro e w4 ⟨rfl, rfl⟩
          go_wp2_with fail
          all_goals
            go_ret
            exact ⟨ret_i (by unfold plE; rw [if_neg (by have hx := HX1.out; dsimp only; omega)]; dsimp only; split <;> omega), below_two (HB0.out.alloc (by simp) _) (below_two HB9.out HB1.out)⟩
end Go.Proofs.YtmfelkdcoihkpaaDoor
