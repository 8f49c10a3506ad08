/-
  plan.Same.
-/
import Derived.Test.YtkgkjkghdllkhaaDoorSameC
namespace Go.Proofs.YtkgkjkghdllkhaaDoor
open Go.RowKit

theorem to_true {α : Type} {p : Program} {f : FuncId} {a : Array Value} {W : World} {R : World → Prop} {x y : α} (he : x = y) (h : Calls p f a W fun e w' => e = .returned (.bool (sameB x y)) ∧ R w') : Calls p f a W fun e w' => e = .returned (.bool true) ∧ R w' := by
  rw [same_yes he] at h; exact h
theorem to_false {α : Type} {p : Program} {f : FuncId} {a : Array Value} {W : World} {R : World → Prop} {x y : α} (he : x ≠ y) (h : Calls p f a W fun e w' => e = .returned (.bool (sameB x y)) ∧ R w') : Calls p f a W fun e w' => e = .returned (.bool false) ∧ R w' := by
  rw [same_no he] at h; exact h
set_option maxHeartbeats 8000000 in
set_option maxRecDepth 100000 in
theorem same_any (P Q : PlanA) (L M : PlanL) (w : World) (hP : PlanAt w P L) (hQ : PlanAt w Q M) (n1 : P.2.1.length ≤ 1000000) (n2 : P.2.2.1.length ≤ 1000000) (n3 : P.2.2.2.1.length ≤ 1000000) (n4 : P.2.2.2.2.length ≤ 1000000)
    (n5 : ∀ ws ∈ P.2.1, ws.length ≤ 1000000) (n6 : ∀ q ∈ P.2.2.1, q.1.length ≤ 1000000 ∧ q.2.2.1.length ≤ 1000000) :
    Calls Tryd.prog 19 #[planV P L, planV Q M] w fun e w' => e = .returned (.bool (sameB P Q)) ∧ Below w.heap.size w w' := by
  obtain ⟨fr, cs, ps, hs, rs⟩ := P
  obtain ⟨fr2, cs2, ps2, hs2, rs2⟩ := Q
  obtain ⟨A1, c1, A2, c2, A3, c3, A4, c4⟩ := L
  obtain ⟨B1, d1, B2, d2, B3, d3, B4, d4⟩ := M
  simp only [planV] at *
  obtain ⟨W, hW⟩ : ∃ W, W = (w.alloc (.cells #[.int .u16 fr, .slice A1 cs.length c1, .slice A2 ps.length c2, .slice A3 hs.length c3, .slice A4 rs.length c4] 28)).alloc (.cells #[.int .u16 fr2, .slice B1 cs2.length d1, .slice B2 ps2.length d2, .slice B3 hs2.length d3, .slice B4 rs2.length d4] 28) := ⟨_, rfl⟩
  have hB0 : Below w.heap.size w W := by rw [hW]; exact ((Below.refl _ _).alloc (Nat.le_refl _) _).alloc (by simp) _
  have r1 : W.heap[w.heap.size]? = some (.cells #[.int .u16 fr, .slice A1 cs.length c1, .slice A2 ps.length c2, .slice A3 hs.length c3, .slice A4 rs.length c4] 28 (0, 0)) := by rw [hW]; exact row_alloc (heap_alloc_new _ _) _
  have r2 : W.heap[w.heap.size + 1]? = some (.cells #[.int .u16 fr2, .slice B1 cs2.length d1, .slice B2 ps2.length d2, .slice B3 hs2.length d3, .slice B4 rs2.length d4] 28 (0, 0)) := by
    have := heap_alloc_new (w.alloc (.cells #[.int .u16 fr, .slice A1 cs.length c1, .slice A2 ps.length c2, .slice A3 hs.length c3, .slice A4 rs.length c4] 28)) (.cells #[.int .u16 fr2, .slice B1 cs2.length d1, .slice B2 ps2.length d2, .slice B3 hs2.length d3, .slice B4 rs2.length d4] 28)
    rw [show (w.alloc (.cells #[.int .u16 fr, .slice A1 cs.length c1, .slice A2 ps.length c2, .slice A3 hs.length c3, .slice A4 rs.length c4] 28)).heap.size = w.heap.size + 1 by simp] at this
    rw [hW]
    exact this
  have hP1 := hP.keep hB0
  have hQ1 := hQ.keep hB0
  have HE1 := Lib.hid (fun W2 (hB : Below W.heap.size W W2) => equal_core A1 B1 c1 d1 cs cs2 W2 (hP1.cores.keep hB) (hQ1.cores.keep hB) n1 n5)
  have HE2 := Lib.hid (fun W2 (hB : Below W.heap.size W W2) => equal_part A2 B2 c2 d2 ps ps2 W2 (hP1.parts.keep hB) (hQ1.parts.keep hB) n2 n6)
  have HE3 := Lib.hid (fun W2 (hB : Below W.heap.size W W2) => equal_chan A3 B3 c3 d3 hs hs2 W2 (Arr.keep hP1.chans hB) (Arr.keep hQ1.chans hB) n3)
  have HE4 := Lib.hid (fun W2 (hB : Below W.heap.size W W2) => equal_pair A4 B4 c4 d4 rs rs2 W2 (Arr.keep hP1.pairs hB) (Arr.keep hQ1.pairs hB) n4)
  have HR1 := Lib.hid r1
  have HR2 := Lib.hid r2
  have HB0 := Lib.hid hB0
  have HWW := Lib.hid hW
  have l1 := (Array.getElem?_eq_some_iff.1 r1).1
  have l2 := (Array.getElem?_eq_some_iff.1 r2).1
  obtain ⟨x0, x1, x2, x3, x4⟩ := box5 r1
  obtain ⟨y0, y1, y2, y3, y4⟩ := box5 r2
  have hne : w.heap.size < W.heap.size := l1
  clear hP hQ hP1 hQ1 r1 r2 hB0 n1 n2 n3 n4 n5 n6
  by_cases e0 : fr = fr2
  · by_cases e1 : cs = cs2
    · by_cases e2 : ps = ps2
      · by_cases e3 : hs = hs2
        · by_cases e4 : rs = rs2
          · have X1 := Lib.hid (fun W2 hB => to_true e1 (HE1.out W2 hB))
            have E1 := Lib.hid e1
            have X2 := Lib.hid (fun W2 hB => to_true e2 (HE2.out W2 hB))
            have E2 := Lib.hid e2
            have X3 := Lib.hid (fun W2 hB => to_true e3 (HE3.out W2 hB))
            have E3 := Lib.hid e3
            have X4 := Lib.hid (fun W2 hB => to_true e4 (HE4.out W2 hB))
            have E4 := Lib.hid e4
            have E0 := Lib.hid e0
            have hfr : (fr == fr2) = true := by simp [e0]
            clear e0 e1 e2 e3 e4 HE1 HE2 HE3 HE4
            clear hW
            go_enter Tryd.func19, Tryd.ntmps19
            go_wp2_with fail
            rw [← HWW.out]
            refine (X1.out _ (Below.refl _ _)).mono ?_
            rintro e w1 ⟨rfl, hB⟩
            have hB' := hB
            clear x0 x1 x2 x3 x4 y0 y1 y2 y3 y4
            obtain ⟨x0, x1, x2, x3, x4⟩ := box5 ((hB'.block _ l1).trans HR1.out)
            obtain ⟨y0, y1, y2, y3, y4⟩ := box5 ((hB'.block _ l2).trans HR2.out)
            have HB := Lib.hid hB'
            clear hB hB'
            go_wp2_with fail
            refine (X2.out _ HB.out).mono ?_
            rintro e w2 ⟨rfl, hB⟩
            have hB' := HB.out.trans (hB.mono HB.out.size)
            clear x0 x1 x2 x3 x4 y0 y1 y2 y3 y4
            obtain ⟨x0, x1, x2, x3, x4⟩ := box5 ((hB'.block _ l1).trans HR1.out)
            obtain ⟨y0, y1, y2, y3, y4⟩ := box5 ((hB'.block _ l2).trans HR2.out)
            clear HB
            have HB := Lib.hid hB'
            clear hB hB'
            go_wp2_with fail
            refine (X3.out _ HB.out).mono ?_
            rintro e w3 ⟨rfl, hB⟩
            have hB' := HB.out.trans (hB.mono HB.out.size)
            clear x0 x1 x2 x3 x4 y0 y1 y2 y3 y4
            obtain ⟨x0, x1, x2, x3, x4⟩ := box5 ((hB'.block _ l1).trans HR1.out)
            obtain ⟨y0, y1, y2, y3, y4⟩ := box5 ((hB'.block _ l2).trans HR2.out)
            clear HB
            have HB := Lib.hid hB'
            clear hB hB'
            go_wp2_with fail
            refine (X4.out _ HB.out).mono ?_
            rintro e w4 ⟨rfl, hB⟩
            have hB' := HB.out.trans (hB.mono HB.out.size)
            clear x0 x1 x2 x3 x4 y0 y1 y2 y3 y4
            obtain ⟨x0, x1, x2, x3, x4⟩ := box5 ((hB'.block _ l1).trans HR1.out)
            obtain ⟨y0, y1, y2, y3, y4⟩ := box5 ((hB'.block _ l2).trans HR2.out)
            clear HB
            have HB := Lib.hid hB'
            clear hB hB'
            go_wp2_with fail
            go_ret
            exact ⟨ret_same (same_yes (by rw [E0.out, E1.out, E2.out, E3.out, E4.out])), HB0.out.trans (HB.out.mono HB0.out.size)⟩
          · have X1 := Lib.hid (fun W2 hB => to_true e1 (HE1.out W2 hB))
            have E1 := Lib.hid e1
            have X2 := Lib.hid (fun W2 hB => to_true e2 (HE2.out W2 hB))
            have E2 := Lib.hid e2
            have X3 := Lib.hid (fun W2 hB => to_true e3 (HE3.out W2 hB))
            have E3 := Lib.hid e3
            have X4 := Lib.hid (fun W2 hB => to_false e4 (HE4.out W2 hB))
            have E4 := Lib.hid e4
            have E0 := Lib.hid e0
            have hfr : (fr == fr2) = true := by simp [e0]
            clear e0 e1 e2 e3 e4 HE1 HE2 HE3 HE4
            clear hW
            go_enter Tryd.func19, Tryd.ntmps19
            go_wp2_with fail
            rw [← HWW.out]
            refine (X1.out _ (Below.refl _ _)).mono ?_
            rintro e w1 ⟨rfl, hB⟩
            have hB' := hB
            clear x0 x1 x2 x3 x4 y0 y1 y2 y3 y4
            obtain ⟨x0, x1, x2, x3, x4⟩ := box5 ((hB'.block _ l1).trans HR1.out)
            obtain ⟨y0, y1, y2, y3, y4⟩ := box5 ((hB'.block _ l2).trans HR2.out)
            have HB := Lib.hid hB'
            clear hB hB'
            go_wp2_with fail
            refine (X2.out _ HB.out).mono ?_
            rintro e w2 ⟨rfl, hB⟩
            have hB' := HB.out.trans (hB.mono HB.out.size)
            clear x0 x1 x2 x3 x4 y0 y1 y2 y3 y4
            obtain ⟨x0, x1, x2, x3, x4⟩ := box5 ((hB'.block _ l1).trans HR1.out)
            obtain ⟨y0, y1, y2, y3, y4⟩ := box5 ((hB'.block _ l2).trans HR2.out)
            clear HB
            have HB := Lib.hid hB'
            clear hB hB'
            go_wp2_with fail
            refine (X3.out _ HB.out).mono ?_
            rintro e w3 ⟨rfl, hB⟩
            have hB' := HB.out.trans (hB.mono HB.out.size)
            clear x0 x1 x2 x3 x4 y0 y1 y2 y3 y4
            obtain ⟨x0, x1, x2, x3, x4⟩ := box5 ((hB'.block _ l1).trans HR1.out)
            obtain ⟨y0, y1, y2, y3, y4⟩ := box5 ((hB'.block _ l2).trans HR2.out)
            clear HB
            have HB := Lib.hid hB'
            clear hB hB'
            go_wp2_with fail
            refine (X4.out _ HB.out).mono ?_
            rintro e w4 ⟨rfl, hB⟩
            have hB' := HB.out.trans (hB.mono HB.out.size)
            clear x0 x1 x2 x3 x4 y0 y1 y2 y3 y4
            obtain ⟨x0, x1, x2, x3, x4⟩ := box5 ((hB'.block _ l1).trans HR1.out)
            obtain ⟨y0, y1, y2, y3, y4⟩ := box5 ((hB'.block _ l2).trans HR2.out)
            clear HB
            have HB := Lib.hid hB'
            clear hB hB'
            go_wp2_with fail
            go_ret
            exact ⟨ret_same (same_no (fun e => E4.out (by simp at e; exact e.2.2.2.2))), HB0.out.trans (HB.out.mono HB0.out.size)⟩
        · have X1 := Lib.hid (fun W2 hB => to_true e1 (HE1.out W2 hB))
          have E1 := Lib.hid e1
          have X2 := Lib.hid (fun W2 hB => to_true e2 (HE2.out W2 hB))
          have E2 := Lib.hid e2
          have X3 := Lib.hid (fun W2 hB => to_false e3 (HE3.out W2 hB))
          have E3 := Lib.hid e3
          have E0 := Lib.hid e0
          have hfr : (fr == fr2) = true := by simp [e0]
          clear e0 e1 e2 e3 HE1 HE2 HE3 HE4
          clear hW
          go_enter Tryd.func19, Tryd.ntmps19
          go_wp2_with fail
          rw [← HWW.out]
          refine (X1.out _ (Below.refl _ _)).mono ?_
          rintro e w1 ⟨rfl, hB⟩
          have hB' := hB
          clear x0 x1 x2 x3 x4 y0 y1 y2 y3 y4
          obtain ⟨x0, x1, x2, x3, x4⟩ := box5 ((hB'.block _ l1).trans HR1.out)
          obtain ⟨y0, y1, y2, y3, y4⟩ := box5 ((hB'.block _ l2).trans HR2.out)
          have HB := Lib.hid hB'
          clear hB hB'
          go_wp2_with fail
          refine (X2.out _ HB.out).mono ?_
          rintro e w2 ⟨rfl, hB⟩
          have hB' := HB.out.trans (hB.mono HB.out.size)
          clear x0 x1 x2 x3 x4 y0 y1 y2 y3 y4
          obtain ⟨x0, x1, x2, x3, x4⟩ := box5 ((hB'.block _ l1).trans HR1.out)
          obtain ⟨y0, y1, y2, y3, y4⟩ := box5 ((hB'.block _ l2).trans HR2.out)
          clear HB
          have HB := Lib.hid hB'
          clear hB hB'
          go_wp2_with fail
          refine (X3.out _ HB.out).mono ?_
          rintro e w3 ⟨rfl, hB⟩
          have hB' := HB.out.trans (hB.mono HB.out.size)
          clear x0 x1 x2 x3 x4 y0 y1 y2 y3 y4
          obtain ⟨x0, x1, x2, x3, x4⟩ := box5 ((hB'.block _ l1).trans HR1.out)
          obtain ⟨y0, y1, y2, y3, y4⟩ := box5 ((hB'.block _ l2).trans HR2.out)
          clear HB
          have HB := Lib.hid hB'
          clear hB hB'
          go_wp2_with fail
          go_ret
          exact ⟨ret_same (same_no (fun e => E3.out (by simp at e; exact e.2.2.2.1))), HB0.out.trans (HB.out.mono HB0.out.size)⟩
      · have X1 := Lib.hid (fun W2 hB => to_true e1 (HE1.out W2 hB))
        have E1 := Lib.hid e1
        have X2 := Lib.hid (fun W2 hB => to_false e2 (HE2.out W2 hB))
        have E2 := Lib.hid e2
        have E0 := Lib.hid e0
        have hfr : (fr == fr2) = true := by simp [e0]
        clear e0 e1 e2 HE1 HE2 HE3 HE4
        clear hW
        go_enter Tryd.func19, Tryd.ntmps19
        go_wp2_with fail
        rw [← HWW.out]
        refine (X1.out _ (Below.refl _ _)).mono ?_
        rintro e w1 ⟨rfl, hB⟩
        have hB' := hB
        clear x0 x1 x2 x3 x4 y0 y1 y2 y3 y4
        obtain ⟨x0, x1, x2, x3, x4⟩ := box5 ((hB'.block _ l1).trans HR1.out)
        obtain ⟨y0, y1, y2, y3, y4⟩ := box5 ((hB'.block _ l2).trans HR2.out)
        have HB := Lib.hid hB'
        clear hB hB'
        go_wp2_with fail
        refine (X2.out _ HB.out).mono ?_
        rintro e w2 ⟨rfl, hB⟩
        have hB' := HB.out.trans (hB.mono HB.out.size)
        clear x0 x1 x2 x3 x4 y0 y1 y2 y3 y4
        obtain ⟨x0, x1, x2, x3, x4⟩ := box5 ((hB'.block _ l1).trans HR1.out)
        obtain ⟨y0, y1, y2, y3, y4⟩ := box5 ((hB'.block _ l2).trans HR2.out)
        clear HB
        have HB := Lib.hid hB'
        clear hB hB'
        go_wp2_with fail
        go_ret
        exact ⟨ret_same (same_no (fun e => E2.out (by simp at e; exact e.2.2.1))), HB0.out.trans (HB.out.mono HB0.out.size)⟩
    · have X1 := Lib.hid (fun W2 hB => to_false e1 (HE1.out W2 hB))
      have E1 := Lib.hid e1
      have E0 := Lib.hid e0
      have hfr : (fr == fr2) = true := by simp [e0]
      clear e0 e1 HE1 HE2 HE3 HE4
      clear hW
      go_enter Tryd.func19, Tryd.ntmps19
      go_wp2_with fail
      rw [← HWW.out]
      refine (X1.out _ (Below.refl _ _)).mono ?_
      rintro e w1 ⟨rfl, hB⟩
      have hB' := hB
      clear x0 x1 x2 x3 x4 y0 y1 y2 y3 y4
      obtain ⟨x0, x1, x2, x3, x4⟩ := box5 ((hB'.block _ l1).trans HR1.out)
      obtain ⟨y0, y1, y2, y3, y4⟩ := box5 ((hB'.block _ l2).trans HR2.out)
      have HB := Lib.hid hB'
      clear hB hB'
      go_wp2_with fail
      go_ret
      exact ⟨ret_same (same_no (fun e => E1.out (by simp at e; exact e.2.1))), HB0.out.trans (HB.out.mono HB0.out.size)⟩
  · have E0 := Lib.hid e0
    have hfr : (fr == fr2) = false := by simp [e0]
    clear e0  HE1 HE2 HE3 HE4
    clear hW
    go_enter Tryd.func19, Tryd.ntmps19
    go_wp2_with fail
    go_ret
    refine ⟨ret_same (same_no (fun e => E0.out (by simp at e; exact e.1))), ?_⟩
    rw [← HWW.out]
    exact HB0.out
end Go.Proofs.YtkgkjkghdllkhaaDoor
