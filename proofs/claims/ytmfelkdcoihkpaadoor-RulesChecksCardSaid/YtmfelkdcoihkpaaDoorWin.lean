/-
  Windows: their ticks, whether they overlap, whether they are of one gang, or together.
-/
import Derived.Test.YtmfelkdcoihkpaaDoorMem
namespace Go.Proofs.YtmfelkdcoihkpaaDoor
open Go.RowKit

set_option maxHeartbeats 1000000 in
theorem ticks_any (a b c d : Int) (w : World) (ha : wide a) (hb : wide b) :
    Calls Tryd.prog 26 #[.agg #[.int .u16 a, .int .u16 b, .int .u8 c, .int .u8 d]] w fun e w' => e = .returned (.tuple #[.int .i64 a, .int .i64 (a + b)]) ∧ Below w.heap.size w w' := by
  unfold wide at ha hb
  obtain ⟨a0, a1⟩ := ha
  obtain ⟨b0, b1⟩ := hb
  have e1 : IntKind.i64.wrap (a + b) = a + b := IntWalk.i64_in _ (by omega)
  have E1 := Lib.hid e1
  clear e1
  go_enter Tryd.func26, Tryd.ntmps26
  go_wp2_with fail
  have e1 := E1.out
  go_quiet (fail)
  clear e1
  go_wp2_with fail
  go_ret2
  exact ⟨rfl, below_drewN ((Below.refl _ _).alloc (Nat.le_refl _) _) _⟩

set_option maxHeartbeats 1000000 in
theorem overlap_any (v w : WinA) (W : World) (hv : WfWin v) (hw : WfWin w) :
    Calls Tryd.prog 14 #[wv v, wv w] W fun e w' => e = .returned (.bool (ovB v w)) ∧ Below W.heap.size W w' := by
  obtain ⟨a, b, c, d⟩ := v
  obtain ⟨a', b', c', d'⟩ := w
  obtain ⟨v1, v2, _⟩ := hv
  obtain ⟨w1, w2, _⟩ := hw
  have V1 := Lib.hid v1
  have V2 := Lib.hid v2
  have W1 := Lib.hid w1
  have W2 := Lib.hid w2
  clear v1 v2 w1 w2
  simp only [wv]
  go_enter Tryd.func14, Tryd.ntmps14
  go_wp2_with fail
  refine (ticks_any a b c d _ V1.out V2.out).mono ?_
  rintro e w1 ⟨rfl, hB⟩
  have HB := Lib.hid hB
  have hc : w1.cell? ⟨W.heap.size + 1, 0, none⟩ = some (.int .u16 a') := kept (by simp) hB
  have hc1 : w1.cell? ⟨W.heap.size + 1, 1, none⟩ = some (.int .u16 b') := kept (by simp) hB
  have hc2 : w1.cell? ⟨W.heap.size + 1, 2, none⟩ = some (.int .u8 c') := kept (by simp) hB
  have hc3 : w1.cell? ⟨W.heap.size + 1, 3, none⟩ = some (.int .u8 d') := kept (by simp) hB
  clear hB
  go_wp2_with fail
  refine (ticks_any a' b' c' d' _ W1.out W2.out).mono ?_
  rintro e w2 ⟨rfl, hB⟩
  have HB2 := Lib.hid hB
  clear hB hc hc1 hc2 hc3
  go_wp2_with fail
  all_goals
    go_ret
    exact ⟨ret_b (by unfold ovB endW; rw [decide_eq_decide]; dsimp only; (repeat' split) <;> omega), below_two (((Below.refl _ _).alloc (Nat.le_refl _) _).alloc (by simp) _) (below_two HB.out HB2.out)⟩

theorem eql39 (a0 a1 a2 a3 b0 b1 b2 b3 : Int) (w : World) : (binOp .eql 39 (.agg #[.int .u16 a0, .int .u16 a1, .int .u8 a2, .int .u8 a3]) (.agg #[.int .u16 b0, .int .u16 b1, .int .u8 b2, .int .u8 b3])).run Tryd.prog w = .ok (.bool (decide (((a0, a1, a2, a3) : WinA) = (b0, b1, b2, b3)))) w := by
  have hS : Tryd.prog.underlying 39 = some (.struct (Tryd.prog.fieldsOf 39)) := by kernel_rfl
  have hp : Tryd.prog.stoodInHeld 39 = false := by kernel_rfl
  have u1 := Tryd.underlying22
  have u2 := Tryd.underlying5
  rw [run_eql_struct, show (10000 : Nat) = 9999 + 1 from rfl, run_equalIn_agg w 9999 39 _ _ hS hp]
  simp only [Program.fieldsOf, Tryd.underlying39]
  go_simp
  by_cases h0 : a0 = b0 <;> by_cases h1 : a1 = b1 <;> by_cases h2 : a2 = b2 <;> by_cases h3 : a3 = b3 <;> simp [h0, h1, h2, h3]

set_option maxHeartbeats 1000000 in
theorem gang_any (v w : WinA) (W : World) :
    Calls Tryd.prog 28 #[wv v, wv w] W fun e w' => e = .returned (.bool (gangB v w)) ∧ Below W.heap.size W w' := by
  obtain ⟨a, b, c, d⟩ := v
  obtain ⟨a', b', c', d'⟩ := w
  simp only [wv]
  by_cases h : d = 0
  · subst h
    go_enter Tryd.func28, Tryd.ntmps28
    go_wp2_with fail
    go_ret
    exact ⟨ret_b (by simp [gangB]), ((Below.refl _ _).alloc (Nat.le_refl _) _).alloc (by simp) _⟩
  · have h1 : (d == 0) = false := by simpa using h
    have h2 : (d != 0) = true := by simpa using h
    go_enter Tryd.func28, Tryd.ntmps28
    go_wp2_with fail
    go_ret
    exact ⟨ret_b (by simp [gangB, h]), ((Below.refl _ _).alloc (Nat.le_refl _) _).alloc (by simp) _⟩

set_option maxHeartbeats 1000000 in
theorem together_any (v w : WinA) (W : World) :
    Calls Tryd.prog 16 #[wv v, wv w] W fun e w' => e = .returned (.bool (togB v w)) ∧ Below W.heap.size W w' := by
  obtain ⟨a, b, c, d⟩ := v
  obtain ⟨a', b', c', d'⟩ := w
  have G := fun W => gang_any (a, b, c, d) (a', b', c', d') W
  simp only [wv] at G ⊢
  have HG := Lib.hid G
  have heq := eql39 a b c d a' b' c' d'
  clear G
  cases hb : gangB (a, b, c, d) (a', b', c', d')
  · have HBG := Lib.hid hb
    rw [hb] at HG
    clear hb
    go_enter Tryd.func16, Tryd.ntmps16
    go_wp2_with fail
    refine (HG.out _).mono ?_
    rintro e w1 ⟨rfl, hB⟩
    have HB := Lib.hid hB
    clear hB
    go_wp2_with fail
    go_ret
    exact ⟨ret_b (by simp [togB, HBG.out]), below_two (((Below.refl _ _).alloc (Nat.le_refl _) _).alloc (by simp) _) HB.out⟩
  · have HBG := Lib.hid hb
    rw [hb] at HG
    clear hb
    go_enter Tryd.func16, Tryd.ntmps16
    go_wp2_with fail
    refine (HG.out _).mono ?_
    rintro e w1 ⟨rfl, hB⟩
    have HB := Lib.hid hB
    obtain ⟨q1, q2⟩ := bcell hB
    clear hB
    go_wp2_with fail
    go_ret
    exact ⟨ret_b (by simp [togB, HBG.out]), below_two (((Below.refl _ _).alloc (Nat.le_refl _) _).alloc (by simp) _) HB.out⟩

theorem from1_yes (n m : Int) (w : World) (h1 : 1 ≤ n) (h2 : n ≤ m) :
    Calls Tryd.prog 35 #[.int .i64 n, .int .i64 m] w fun e w' => e = .returned (.bool true) ∧ w = w' := by
  go_enter Tryd.func35, Tryd.ntmps35
  go_wp2_with fail
  go_ret
  exact ⟨ret_b (by simp <;> omega), rfl⟩
theorem from1_no (n m : Int) (w : World) (h : ¬ (1 ≤ n ∧ n ≤ m)) :
    Calls Tryd.prog 35 #[.int .i64 n, .int .i64 m] w fun e w' => e = .returned (.bool false) ∧ w = w' := by
  by_cases h1 : 1 ≤ n
  · have h2 : m < n := by omega
    clear h
    go_enter Tryd.func35, Tryd.ntmps35
    go_wp2_with fail
    go_ret
    exact ⟨ret_b (by simp <;> omega), rfl⟩
  · have h2 : n < 1 := by omega
    clear h
    go_enter Tryd.func35, Tryd.ntmps35
    go_wp2_with fail
    go_ret
    exact ⟨rfl, rfl⟩
theorem from1_any (n m : Int) (w : World) :
    Calls Tryd.prog 35 #[.int .i64 n, .int .i64 m] w fun e w' => e = .returned (.bool (decide (1 ≤ n ∧ n ≤ m))) ∧ w = w' := by
  by_cases h : 1 ≤ n ∧ n ≤ m
  · rw [decide_eq_true h]; exact from1_yes n m w h.1 h.2
  · rw [decide_eq_false h]; exact from1_no n m w h
theorem unless_any (b : Bool) (x : Int) (w : World) :
    Calls Tryd.prog 40 #[.bool b, .int .i64 x] w fun e w' => e = .returned (.int .i64 (if b then 0 else x)) ∧ w = w' := by
  cases b
  · go_enter Tryd.func40, Tryd.ntmps40
    go_wp2_with fail
    go_ret
    exact ⟨rfl, rfl⟩
  · go_enter Tryd.func40, Tryd.ntmps40
    go_wp2_with fail
    go_ret
    exact ⟨rfl, rfl⟩

/-- What a rule answers: OK, or a failure of memory of its own. -/
def Told (base : Nat) (r : Int × Int) (e : Ending) (w' : World) : Prop :=
  (r.1 = 0 ∧ e = .returned (.iface 31 (.int .i64 0))) ∨
  (r.1 ≠ 0 ∧ ∃ b, base ≤ b ∧ e = .returned (.iface 57 (.pointer (some ⟨b, 0, none⟩))) ∧ w'.cell? ⟨b, 0, none⟩ = some (.int .i64 r.2) ∧ w'.cell? ⟨b, 1, none⟩ = some (.int .i64 r.1))
set_option maxHeartbeats 1000000 in
theorem one_any (b : Bool) (at_ x : Int) (w : World) (hx : x ≠ 0) :
    Calls Tryd.prog 33 #[.bool b, .int .i64 at_, .int .i64 x] w fun e w' => Told w.heap.size (if b then (0, 0) else (x, at_)) e w' ∧ Below w.heap.size w w' := by
  have HX := Lib.hid hx
  clear hx
  cases b
  · go_enter Tryd.func33, Tryd.ntmps33
    go_wp2_with fail
    go_ret
    exact ⟨.inr ⟨HX.out, w.heap.size, Nat.le_refl _, rfl, by simp, by simp⟩, (Below.refl _ _).alloc (Nat.le_refl _) _⟩
  · go_enter Tryd.func33, Tryd.ntmps33
    go_wp2_with fail
    go_ret
    exact ⟨.inl ⟨rfl, rfl⟩, Below.refl _ _⟩

/-- A window in a block of its own. -/
def WB (W : World) (b : Nat) (v : WinA) : Prop :=
  W.cell? ⟨b, 0, none⟩ = some (.int .u16 v.1) ∧ W.cell? ⟨b, 1, none⟩ = some (.int .u16 v.2.1) ∧ W.cell? ⟨b, 2, none⟩ = some (.int .u8 v.2.2.1) ∧ W.cell? ⟨b, 3, none⟩ = some (.int .u8 v.2.2.2)
theorem WB.keep {W W' : World} {b : Nat} {v : WinA} (h : WB W b v) (hB : Below W.heap.size W W') : WB W' b v :=
  ⟨kept h.1 hB, kept h.2.1 hB, kept h.2.2.1 hB, kept h.2.2.2 hB⟩
theorem WB.new (W : World) (a b c d : Int) : WB (W.alloc (.cells #[.int .u16 a, .int .u16 b, .int .u8 c, .int .u8 d] 39)) W.heap.size (a, b, c, d) := ⟨by simp, by simp, by simp, by simp⟩
theorem WB.alloc {W : World} {b : Nat} {v : WinA} (h : WB W b v) (o : Obj) : WB (W.alloc o) b v := h.keep ((Below.refl _ _).alloc (Nat.le_refl _) _)

set_option maxHeartbeats 2000000 in
theorem two_any (v w : WinA) (W : World) (hv : WfWin v) (hw : WfWin w) :
    Calls Tryd.prog 66 #[wv v, wv w] W fun e w' => e = .returned (.int .i64 (twoE v w)) ∧ Below W.heap.size W w' := by
  obtain ⟨a, b, c, d⟩ := v
  obtain ⟨a', b', c', d'⟩ := w
  have G := fun W => gang_any (a, b, c, d) (a', b', c', d') W
  have T := fun W => together_any (a, b, c, d) (a', b', c', d') W
  have O := fun W => overlap_any (a, b, c, d) (a', b', c', d') W hv hw
  simp only [wv] at G T O ⊢
  have HG := Lib.hid G
  have HT := Lib.hid T
  have HO := Lib.hid O
  clear G T O
  have HB0 : Hid (Below W.heap.size W ((W.alloc (.cells #[.int .u16 a, .int .u16 b, .int .u8 c, .int .u8 d] 39)).alloc (.cells #[.int .u16 a', .int .u16 b', .int .u8 c', .int .u8 d'] 39))) := ((Below.refl _ _).alloc (Nat.le_refl _) _).alloc (by simp) _
  have HA1 := Lib.hid ((WB.new W a b c d).alloc (.cells #[.int .u16 a', .int .u16 b', .int .u8 c', .int .u8 d'] 39))
  have hA2 := WB.new (W.alloc (.cells #[.int .u16 a, .int .u16 b, .int .u8 c, .int .u8 d] 39)) a' b' c' d'
  rw [show (W.alloc (.cells #[.int .u16 a, .int .u16 b, .int .u8 c, .int .u8 d] 39)).heap.size = W.heap.size + 1 by simp] at hA2
  have HA2 := Lib.hid hA2
  clear hA2
  cases ht : togB (a, b, c, d) (a', b', c', d')
  · rw [ht] at HT
    have HTB := Lib.hid ht
    clear ht
    cases hg : gangB (a, b, c, d) (a', b', c', d')
    · rw [hg] at HG
      have HGB := Lib.hid hg
      clear hg
      obtain ⟨ob, hob⟩ : ∃ ob, ob = ovB (a, b, c, d) (a', b', c', d') := ⟨_, rfl⟩
      rw [← hob] at HO
      have HOB := Lib.hid hob
      clear hob
      by_cases hp : c = c'
      · subst hp
        have hpn : (c != c) = false := by simp
        cases ob
        all_goals
          go_enter Tryd.func66, Tryd.ntmps66
          go_wp2_with fail
          refine (HT.out _).mono ?_
          rintro e w1 ⟨rfl, hB⟩
          have HB := Lib.hid hB
          obtain ⟨a0, a1, a2, a3⟩ := HA1.out.keep hB
          obtain ⟨b0, b1, b2, b3⟩ := HA2.out.keep hB
          dsimp only at a0 a1 a2 a3 b0 b1 b2 b3
          clear hB
          go_wp2_with fail
          refine (HG.out _).mono ?_
          rintro e w2 ⟨rfl, hB⟩
          have HB2 := Lib.hid hB
          replace a0 := kept a0 hB
          replace a1 := kept a1 hB
          replace a2 := kept a2 hB
          replace a3 := kept a3 hB
          replace b0 := kept b0 hB
          replace b1 := kept b1 hB
          replace b2 := kept b2 hB
          replace b3 := kept b3 hB
          clear hB
          go_wp2_with fail
          refine (HO.out _).mono ?_
          rintro e w3 ⟨rfl, hB⟩
          have HB3 := Lib.hid hB
          clear hB a0 a1 a2 a3 b0 b1 b2 b3
          go_wp2_with fail
          refine (unless_any _ _ _).mono ?_
          rintro e w4 ⟨rfl, rfl⟩
          go_wp2_with fail
          go_ret
          refine ⟨ret_i ?_, below_two HB0.out (below_two HB.out (below_two HB2.out HB3.out))⟩
          unfold twoE
          rw [HTB.out, HGB.out, ← HOB.out]
          simp
      · have hpn : (c != c') = true := by simpa using hp
        have HP := Lib.hid hp
        clear hp
        go_enter Tryd.func66, Tryd.ntmps66
        go_wp2_with fail
        refine (HT.out _).mono ?_
        rintro e w1 ⟨rfl, hB⟩
        have HB := Lib.hid hB
        obtain ⟨a0, a1, a2, a3⟩ := HA1.out.keep hB
        obtain ⟨b0, b1, b2, b3⟩ := HA2.out.keep hB
        dsimp only at a0 a1 a2 a3 b0 b1 b2 b3
        clear hB
        go_wp2_with fail
        refine (HG.out _).mono ?_
        rintro e w2 ⟨rfl, hB⟩
        have HB2 := Lib.hid hB
        replace a2 := kept a2 hB
        replace b2 := kept b2 hB
        clear hB a0 a1 a3 b0 b1 b3
        go_wp2_with fail
        refine (unless_any _ _ _).mono ?_
        rintro e w4 ⟨rfl, rfl⟩
        go_wp2_with fail
        go_ret
        refine ⟨ret_i ?_, below_two HB0.out (below_two HB.out HB2.out)⟩
        unfold twoE
        rw [HTB.out, HGB.out]
        simp [HP.out]
    · rw [hg] at HG
      have HGB := Lib.hid hg
      clear hg
      go_enter Tryd.func66, Tryd.ntmps66
      go_wp2_with fail
      refine (HT.out _).mono ?_
      rintro e w1 ⟨rfl, hB⟩
      have HB := Lib.hid hB
      obtain ⟨a0, a1, a2, a3⟩ := HA1.out.keep hB
      obtain ⟨b0, b1, b2, b3⟩ := HA2.out.keep hB
      dsimp only at a0 a1 a2 a3 b0 b1 b2 b3
      clear hB
      go_wp2_with fail
      refine (HG.out _).mono ?_
      rintro e w2 ⟨rfl, hB⟩
      have HB2 := Lib.hid hB
      clear hB a0 a1 a2 a3 b0 b1 b2 b3
      go_wp2_with fail
      go_ret
      refine ⟨ret_i ?_, below_two HB0.out (below_two HB.out HB2.out)⟩
      unfold twoE
      rw [HTB.out, HGB.out]
      rfl
  · rw [ht] at HT
    have HTB := Lib.hid ht
    clear ht
    go_enter Tryd.func66, Tryd.ntmps66
    go_wp2_with fail
    refine (HT.out _).mono ?_
    rintro e w1 ⟨rfl, hB⟩
    have HB := Lib.hid hB
    clear hB
    go_wp2_with fail
    go_ret
    refine ⟨ret_i ?_, below_two HB0.out HB.out⟩
    unfold twoE
    rw [HTB.out]
    rfl
end Go.Proofs.YtmfelkdcoihkpaaDoor
