/-
  plan.Same: two plans are the same where all their fields are.
-/
import Derived.Test.YtkgkjkghdllkhaaDoorSames
import Derived.Stop.BytesEq
namespace Go.Proofs.YtkgkjkghdllkhaaDoor
open Go.RowKit

theorem eql54 (a b c a' b' c' : Int) (w : World) : (binOp .eql 54 (.agg #[.int .u8 a, .int .u8 b, .int .u8 c]) (.agg #[.int .u8 a', .int .u8 b', .int .u8 c'])).run Tryd.prog w = .ok (.bool (decide (a = a' ∧ b = b' ∧ c = c'))) w := by
  have ht := Tryd.underlying54
  have he := Tryd.underlying5
  have hsz : ∀ w, (sizeOf 5).run Tryd.prog w = .ok 1 w := fun w => by kernel_rfl
  rw [run_eql_struct, show (10000 : Nat) = 9998 + 1 + 1 from rfl, Op.equalIn]
  simp only [Sem.run_bind, run_underlying ht, Result.andThen_ok, hsz, Std.Legacy.Range.forIn_eq_forIn_range', Std.Legacy.Range.size, Nat.sub_zero, Nat.add_sub_cancel, Nat.div_one]
  rw [show List.range' 0 3 1 = [0, 1, 2] from rfl]
  have pe : ∀ x y : Int, (Op.equalIn 9999 5 (.int .u8 x) (.int .u8 y)).run Tryd.prog w = .ok (x == y) w := fun x y => run_equalIn_int w 9998 5 .u8 .u8 x y he
  have p0 : ∀ x y z : Int, (part 5 #[.int .u8 x, .int .u8 y, .int .u8 z] 0).run Tryd.prog w = .ok (.int .u8 x) w := fun x y z => by simp [part, isAgg, run_underlying he]
  have p1 : ∀ x y z : Int, (part 5 #[.int .u8 x, .int .u8 y, .int .u8 z] 1).run Tryd.prog w = .ok (.int .u8 y) w := fun x y z => by simp [part, isAgg, run_underlying he]
  have p2 : ∀ x y z : Int, (part 5 #[.int .u8 x, .int .u8 y, .int .u8 z] 2).run Tryd.prog w = .ok (.int .u8 z) w := fun x y z => by simp [part, isAgg, run_underlying he]
  simp only [List.forIn_cons, List.forIn_nil, Sem.run_bind, Nat.mul_one, p0, pe, Result.andThen_ok]
  by_cases h1 : a = a' <;> by_cases h2 : b = b' <;> by_cases h3 : c = c' <;> simp [h1, h2, h3, p1, p2, pe]

theorem PartsAt.at {w : World} {b o : Nat} {ps : List PartA} {S P : Nat → Option Addr × Nat} (h : Arr w (some ⟨b, o, none⟩) 6 ps.length (fun i => partV (ps.getD i dQ) (S i) (P i))) {k : Nat} (hk : k < ps.length) {q : PartA} (hq : q = ps.getD k dQ) {s p : Option Addr × Nat} (hs : s = S k) (hp : p = P k) :
    w.cell? ⟨b, o + k * 6, none⟩ = some (.slice s.1 q.1.length s.2) ∧ w.cell? ⟨b, o + k * 6 + 1, none⟩ = some (.int .u8 q.2.1) ∧ w.cell? ⟨b, o + k * 6 + 2, none⟩ = some (.slice p.1 q.2.2.1.length p.2) ∧ w.cell? ⟨b, o + k * 6 + 3, none⟩ = some (.int .u8 q.2.2.2.1) ∧
      w.cell? ⟨b, o + k * 6 + 4, none⟩ = some (.int .u8 q.2.2.2.2.1) ∧ w.cell? ⟨b, o + k * 6 + 5, none⟩ = some (.int .u8 q.2.2.2.2.2) := by
  subst hq hs hp
  exact ⟨Arr.at h (j := 0) hk rfl, Arr.at h (j := 1) hk rfl, Arr.at h (j := 2) hk rfl, Arr.at h (j := 3) hk rfl, Arr.at h (j := 4) hk rfl, Arr.at h (j := 5) hk rfl⟩

set_option maxHeartbeats 4000000 in
set_option maxRecDepth 100000 in
theorem samePart_any (S P S2 P2 : Option Addr × Nat) (q q2 : PartA) (w : World) (h1 : SemsAt w S.1 q.1) (h2 : BytesAt w P.1 q.2.2.1) (g1 : SemsAt w S2.1 q2.1) (g2 : BytesAt w P2.1 q2.2.2.1)
    (n1 : q.1.length ≤ 1000000) (n2 : q.2.2.1.length ≤ 1000000) :
    Calls Tryd.prog 47 #[.agg #[.slice S.1 q.1.length S.2, .int .u8 q.2.1, .slice P.1 q.2.2.1.length P.2, .int .u8 q.2.2.2.1, .int .u8 q.2.2.2.2.1, .int .u8 q.2.2.2.2.2],
        .agg #[.slice S2.1 q2.1.length S2.2, .int .u8 q2.2.1, .slice P2.1 q2.2.2.1.length P2.2, .int .u8 q2.2.2.2.1, .int .u8 q2.2.2.2.2.1, .int .u8 q2.2.2.2.2.2]] w fun e w' => e = .returned (.bool (sameB q q2)) ∧ Below w.heap.size w w' := by
  obtain ⟨ss, ev, pp, x, y, z⟩ := q
  obtain ⟨ss2, ev2, pp2, x2, y2, z2⟩ := q2
  obtain ⟨A, c⟩ := S
  obtain ⟨B, d⟩ := P
  obtain ⟨A2, c2⟩ := S2
  obtain ⟨B2, d2⟩ := P2
  simp only at h1 h2 g1 g2 n1 n2 ⊢
  obtain ⟨W, hW⟩ : ∃ W, W = (w.alloc (.cells #[.slice A ss.length c, .int .u8 ev, .slice B pp.length d, .int .u8 x, .int .u8 y, .int .u8 z] 56)).alloc (.cells #[.slice A2 ss2.length c2, .int .u8 ev2, .slice B2 pp2.length d2, .int .u8 x2, .int .u8 y2, .int .u8 z2] 56) := ⟨_, rfl⟩
  have hB0 : Below w.heap.size w W := by rw [hW]; exact ((Below.refl _ _).alloc (Nat.le_refl _) _).alloc (by simp) _
  have r1 : W.heap[w.heap.size]? = some (.cells #[.slice A ss.length c, .int .u8 ev, .slice B pp.length d, .int .u8 x, .int .u8 y, .int .u8 z] 56 (0, 0)) := by rw [hW]; exact row_alloc (heap_alloc_new _ _) _
  have r2 : W.heap[w.heap.size + 1]? = some (.cells #[.slice A2 ss2.length c2, .int .u8 ev2, .slice B2 pp2.length d2, .int .u8 x2, .int .u8 y2, .int .u8 z2] 56 (0, 0)) := by
    have := heap_alloc_new (w.alloc (.cells #[.slice A ss.length c, .int .u8 ev, .slice B pp.length d, .int .u8 x, .int .u8 y, .int .u8 z] 56)) (.cells #[.slice A2 ss2.length c2, .int .u8 ev2, .slice B2 pp2.length d2, .int .u8 x2, .int .u8 y2, .int .u8 z2] 56)
    rw [show (w.alloc (.cells #[.slice A ss.length c, .int .u8 ev, .slice B pp.length d, .int .u8 x, .int .u8 y, .int .u8 z] 56)).heap.size = w.heap.size + 1 by simp] at this
    rw [hW]
    exact this
  have HE1 := Lib.hid (equal_sem A A2 c c2 ss ss2 W (Arr.keep h1 hB0) (Arr.keep g1 hB0) n1)
  have HE2 := fun W2 (hB : Below W.heap.size W W2) => equal_byt B B2 d d2 pp pp2 W2 (Arr.keep (Arr.keep h2 hB0) hB) (Arr.keep (Arr.keep g2 hB0) hB) n2
  have HE2 := Lib.hid HE2
  have HR1 := Lib.hid r1
  have HR2 := Lib.hid r2
  have HB0 := Lib.hid hB0
  have HWW := Lib.hid hW
  have l1 := (Array.getElem?_eq_some_iff.1 r1).1
  have l2 := (Array.getElem?_eq_some_iff.1 r2).1
  have he := fun W => eql54 x y z x2 y2 z2 W
  clear h1 h2 g1 g2 r1 r2 hB0 hW
  by_cases e1 : ss = ss2
  · have E1 := Lib.hid e1
    have X1 := HE1.out
    rw [same_yes e1] at X1
    have X1 := Lib.hid X1
    by_cases e2 : ev = ev2
    · by_cases e3 : pp = pp2
      · have E3 := Lib.hid e3
        have X2 := fun W2 hB => (by have := HE2.out W2 hB; rw [same_yes e3] at this; exact this : Calls Tryd.prog 73 #[.slice B pp.length d, .slice B2 pp2.length d2] W2 fun e w' => e = .returned (.bool true) ∧ Below W2.heap.size W2 w')
        have X2 := Lib.hid X2
        have E2 := Lib.hid e2
        have hev : (ev == ev2) = true := by simp [e2]
        clear e1 e3 HE1 HE2 e2
        go_enter Tryd.func47, Tryd.ntmps47
        go_wp2_with fail
        rw [← HWW.out]
        refine X1.out.mono ?_
        rintro e w1 ⟨rfl, hB⟩
        obtain ⟨_, a0, a1, a2, a3, a4, a5⟩ := box6 ((hB.block _ l1).trans HR1.out)
        obtain ⟨_, b0, b1, b2, b3, b4, b5⟩ := box6 ((hB.block _ l2).trans HR2.out)
        have HB := Lib.hid hB
        clear hB
        go_wp2_with fail
        refine (X2.out _ HB.out).mono ?_
        rintro e w2 ⟨rfl, hB2⟩
        have hB3 := HB.out.trans (hB2.mono HB.out.size)
        clear a0 a1 a2 a3 a4 a5 b0 b1 b2 b3 b4 b5
        obtain ⟨_, a0, a1, a2, a3, a4, a5⟩ := box6 ((hB3.block _ l1).trans HR1.out)
        obtain ⟨_, b0, b1, b2, b3, b4, b5⟩ := box6 ((hB3.block _ l2).trans HR2.out)
        have HB3 := Lib.hid hB3
        clear hB2 hB3
        go_wp2_with fail
        go_ret
        refine ⟨?_, HB0.out.trans (HB3.out.mono HB0.out.size)⟩
        rw [E1.out, E2.out, E3.out]
        by_cases e4 : x = x2 ∧ y = y2 ∧ z = z2
        · obtain ⟨rfl, rfl, rfl⟩ := e4
          rw [same_yes rfl]
          simp
        · have hd : (decide (x = x2) && (decide (y = y2) && decide (z = z2))) = false := by
            rw [Bool.eq_false_iff]
            intro h
            simp at h
            exact e4 h
          show Ending.returned (.bool (decide (x = x2) && (decide (y = y2) && decide (z = z2)))) = _
          rw [hd, same_no (fun e => e4 (by simp at e; exact e))]
      · have E3 := Lib.hid e3
        have X2 := fun W2 hB => (by have := HE2.out W2 hB; rw [same_no e3] at this; exact this : Calls Tryd.prog 73 #[.slice B pp.length d, .slice B2 pp2.length d2] W2 fun e w' => e = .returned (.bool false) ∧ Below W2.heap.size W2 w')
        have X2 := Lib.hid X2
        have hev : (ev == ev2) = true := by simp [e2]
        clear e1 e3 HE1 HE2 e2
        go_enter Tryd.func47, Tryd.ntmps47
        go_wp2_with fail
        rw [← HWW.out]
        refine X1.out.mono ?_
        rintro e w1 ⟨rfl, hB⟩
        obtain ⟨_, a0, a1, a2, a3, a4, a5⟩ := box6 ((hB.block _ l1).trans HR1.out)
        obtain ⟨_, b0, b1, b2, b3, b4, b5⟩ := box6 ((hB.block _ l2).trans HR2.out)
        have HB := Lib.hid hB
        clear hB
        go_wp2_with fail
        refine (X2.out _ HB.out).mono ?_
        rintro e w2 ⟨rfl, hB2⟩
        have HB3 := Lib.hid (HB.out.trans (hB2.mono HB.out.size))
        clear hB2 a0 a1 a2 a3 a4 a5 b0 b1 b2 b3 b4 b5
        go_wp2_with fail
        go_ret
        exact ⟨ret_same (same_no (fun e => E3.out (by simp at e; exact e.2.2.1))), HB0.out.trans (HB3.out.mono HB0.out.size)⟩
    · have E2 := Lib.hid e2
      have hev : (ev == ev2) = false := by simp [e2]
      clear e1 HE1 HE2 e2
      go_enter Tryd.func47, Tryd.ntmps47
      go_wp2_with fail
      rw [← HWW.out]
      refine X1.out.mono ?_
      rintro e w1 ⟨rfl, hB⟩
      obtain ⟨_, a0, a1, a2, a3, a4, a5⟩ := box6 ((hB.block _ l1).trans HR1.out)
      obtain ⟨_, b0, b1, b2, b3, b4, b5⟩ := box6 ((hB.block _ l2).trans HR2.out)
      have HB := Lib.hid hB
      clear hB
      go_wp2_with fail
      go_ret
      exact ⟨ret_same (same_no (fun e => E2.out (by simp at e; exact e.2.1))), HB0.out.trans (HB.out.mono HB0.out.size)⟩
  · have E1 := Lib.hid e1
    have X1 := HE1.out
    rw [same_no e1] at X1
    have X1 := Lib.hid X1
    clear e1 HE1 HE2
    go_enter Tryd.func47, Tryd.ntmps47
    go_wp2_with fail
    rw [← HWW.out]
    refine X1.out.mono ?_
    rintro e w1 ⟨rfl, hB⟩
    have HB := Lib.hid hB
    clear hB
    go_wp2_with fail
    go_ret
    exact ⟨ret_same (same_no (fun e => E1.out (by simp at e; exact e.1))), HB0.out.trans (HB.out.mono HB0.out.size)⟩
end Go.Proofs.YtkgkjkghdllkhaaDoor
