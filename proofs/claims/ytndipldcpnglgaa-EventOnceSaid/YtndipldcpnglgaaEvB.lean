/-
  An event of the call's own; what the chapter's examples fix.
-/
import Derived.Test.YtndipldcpnglgaaEvT
import Derived.Test.YtndipldcpnglgaaAwkW
namespace Go.Proofs.Ytndipldcpnglgaa
open Go.RowKit

/-- An event that was made behind H blocks, H's blocks as they were in w0. -/
structure EB (H : Nat) (w0 w : World) (s g b : Nat) (v : Value) (X : Ev) : Prop where
  sm : EvAt w s g b v X
  blk : ∀ k, SBlk s g b v k → H ≤ k
  bel : Below H w0 w
  sz : H ≤ w.heap.size
/-- Far from the event: an elder block that is none of its own. -/
def SFar (w : World) (s g b : Nat) (v : Value) (k : Nat) : Prop := k < w.heap.size ∧ ¬ SBlk s g b v k
section
variable {H : Nat} {w0 w w' : World} {s g b : Nat} {v v' : Value} {X X' : Ev}
theorem EB.step (h : EB H w0 w s g b v X) (hP : EvP s g b v X' w w') : ∃ v', EB H w0 w' s g b v' X' ∧ ∀ k, SFar w s g b v k → w'.heap[k]? = w.heap[k]? ∧ SFar w' s g b v' k := by
  obtain ⟨v', h1, h2, h3⟩ := hP
  refine ⟨v', ⟨h1, fun k hk => ?_, h.bel.trans (h2.below h.blk h.sz), Nat.le_trans h.sz h2.size⟩, fun k hk => ⟨h2.block k hk.1 hk.2, Nat.lt_of_lt_of_le hk.1 h2.size, fun hb => ?_⟩⟩
  · rcases hk with e | e | e | e
    · exact h.blk k (.inl e)
    · exact h.blk k (.inr (.inl e))
    · exact h.blk k (.inr (.inr (.inl e)))
    · rcases h3 with h3 | ⟨x, e1, e2⟩
      · exact h.blk k (.inr (.inr (.inr (by rw [← h3]; exact e))))
      · rw [e1] at e; injection e with e; have := h.sz; omega
  · rcases hb with e | e | e | e
    · exact hk.2 (.inl e)
    · exact hk.2 (.inr (.inl e))
    · exact hk.2 (.inr (.inr (.inl e)))
    · rcases h3 with h3 | ⟨x, e1, e2⟩
      · exact hk.2 (.inr (.inr (.inr (by rw [← h3]; exact e))))
      · rw [e1] at e; injection e with e; have := hk.1; omega
theorem EB.step' (h : EB H w0 w s g b v X) (h1 : EvAt w' s g b v' X') (h2 : Chg (SBlk s g b v) w w') (h3 : Slid v v' w) : EB H w0 w' s g b v' X' := by
  refine ⟨h1, fun k hk => ?_, h.bel.trans (h2.below h.blk h.sz), Nat.le_trans h.sz h2.size⟩
  rcases hk with e | e | e | e
  · exact h.blk k (.inl e)
  · exact h.blk k (.inr (.inl e))
  · exact h.blk k (.inr (.inr (.inl e)))
  · rcases h3 with h3 | ⟨x, e1, e2⟩
    · exact h.blk k (.inr (.inr (.inr (by rw [← h3]; exact e))))
    · rw [e1] at e; injection e with e; have := h.sz; omega
theorem EB.keep (h : EB H w0 w s g b v X) (hB : Below w.heap.size w w') : EB H w0 w' s g b v X :=
  ⟨h.sm.keep hB, h.blk, h.bel.trans (hB.mono h.sz), Nat.le_trans h.sz hB.size⟩
theorem EB.new (h : EvAt w' s g b v X) (hk : ∀ k, SBlk s g b v k → w.heap.size ≤ k) (hB : Below w.heap.size w w') : EB w.heap.size w w' s g b v X := ⟨h, hk, hB, hB.size⟩
end
def Ev.set (X : Ev) : Ev := ⟨X.S.clear, true⟩
def Ev.reset (X : Ev) : Ev := ⟨X.S, false⟩
theorem ints_new (w : World) (l : List Int) : Ints (w.alloc (.cells (l.map nV).toArray 3)) (some ⟨w.heap.size, 0, none⟩) l := fun i hi => ⟨_, 0, rfl, by
  rw [Nat.zero_add]
  refine al_new _ _ _ i _ rfl ?_
  rw [List.getElem?_toArray, List.getElem?_map, getD_of hi]
  rfl⟩
def X0 : Ev := ⟨Ln.new, false⟩
def X1 : Ev := X0.wait 1 5 (-1)
def X2 : Ev := X1.wait 2 9 (-1)
def X3 : Ev := X2.set
def X4 : Ev := X3.wait 3 1 0
def X5 : Ev := X4.reset
def X6 : Ev := X5.wait 3 1 0
theorem e1 : X0.waitE 1 5 (-1) = (false, 0) := by decide +kernel
theorem e2 : X1.waitE 2 9 (-1) = (false, 0) := by decide +kernel
theorem e3 : X2.S.nums = [2, 1] := by decide +kernel
theorem e4 : X3.waitE 3 1 0 = (true, 0) := by decide +kernel
theorem e5 : X4.up = true := by decide +kernel
theorem e6 : X5.waitE 3 1 0 = (false, 0) := by decide +kernel
theorem e7 : X5.up = false := by decide +kernel
theorem e7' : X6.up = false := by decide +kernel
theorem e8 : X6.S.nums = [] := by decide +kernel
def Few (X : Ev) : Prop := X.S.q.length ≤ 900 ∧ X.S.n ≤ 900
instance (X : Ev) : Decidable (Few X) := by unfold Few; infer_instance
theorem m0 : Few X0 := by decide +kernel
theorem m1 : Few X1 := by decide +kernel
theorem m2 : Few X2 := by decide +kernel
theorem m3 : Few X3 := by decide +kernel
theorem m4 : Few X4 := by decide +kernel
theorem m5 : Few X5 := by decide +kernel
theorem m6 : Few X6 := by decide +kernel
theorem wait_few {H : Nat} {w0 w : World} {s g b : Nat} {v : Value} {X : Ev} (id prio til : Int) (hid : I64 id) (h : EB H w0 w s g b v X) (hf : Few X) : Calls Try.prog 10 #[.pointer (some ⟨s, 0, none⟩), nV id, nV prio, nV til] w fun e w' => WaitP s g b v X id prio til w e w' := wait_any id prio til hid w h.sm hf.1 hf.2
theorem set_few {H : Nat} {w0 w : World} {s g b : Nat} {v : Value} {X : Ev} (h : EB H w0 w s g b v X) (hf : Few X) : Calls Try.prog 13 #[.pointer (some ⟨s, 0, none⟩)] w fun e w' => SetP s g b v X w e w' := set_any w h.sm (Nat.le_trans hf.1 (by omega))
/-- A list of the call's own, far from the event. -/
structure Dst (w : World) (s g b : Nat) (v d : Value) (l : List Int) : Prop where
  n : Nums w d l
  f : ∀ x, d.ownBlock = some x → ¬ SBlk s g b v x
theorem Dst.sfar {w w' : World} {s g b : Nat} {v v' d : Value} {l : List Int} (h : Dst w s g b v d l) (hf : ∀ k, SFar w s g b v k → w'.heap[k]? = w.heap[k]? ∧ SFar w' s g b v' k) : Dst w' s g b v' d l :=
  ⟨h.n.same fun x hx => (hf x ⟨h.n.lt hx, h.f x hx⟩).1, fun x hx => (hf x ⟨h.n.lt hx, h.f x hx⟩).2.2⟩
set_option maxRecDepth 100000 in
set_option maxHeartbeats 4000000 in
theorem awake_any (w : World) : Calls Try.prog 8 #[] w fun e w' => e = .returned (.bool true) ∧ Below w.heap.size w w' := by
  have hnew := Lib.hid (enew_any false w)
  go_enter Try.func8, Try.ntmps8
  go_wp2_with fail
  with_reducible refine hnew.out.mono ?_
  rintro e w1 ⟨s, g, b, rfl, hL, hk, hB⟩
  have L0 : Hid (EB w.heap.size w w1 s g b (.slice none 0 0) X0) := EB.new hL hk hB
  clear hL hB hk hnew
  have HC := Lib.hid (wait_few 1 5 (-1) (by unfold I64; omega) L0.out m0)
  go_wp2_with fail
  with_reducible refine HC.out.mono ?_
  rintro e w2 ⟨he, hP⟩
  rw [e1] at he
  obtain rfl := he
  obtain ⟨v1, hL, hF⟩ := L0.out.step hP
  have L1 : Hid (EB w.heap.size w w2 s g b v1 X1) := hL
  clear hP hL hF HC L0
  have HC := Lib.hid (wait_few 2 9 (-1) (by unfold I64; omega) L1.out m1)
  go_wp2_with fail
  with_reducible refine HC.out.mono ?_
  rintro e w3 ⟨he, hP⟩
  rw [e2] at he
  obtain rfl := he
  obtain ⟨v2, hL, hF⟩ := L1.out.step hP
  have L2 : Hid (EB w.heap.size w w3 s g b v2 X2) := hL
  clear hP hL hF HC L1
  have HC := Lib.hid (set_few L2.out m2)
  go_wp2_with fail
  with_reducible refine HC.out.mono ?_
  rintro e w4 ⟨d, v3, rfl, hN, h1, h2, h3, hfr⟩
  rw [e3] at hN
  obtain ⟨dA, dc, rfl, _⟩ := hN.len
  have L3 : Hid (EB w.heap.size w w4 s g b v3 X3) := L2.out.step' h1 h2 h3
  have D3 : Hid (Dst w4 s g b v3 (.slice dA [2, 1].length dc) [2, 1]) := ⟨hN, fun x hx => (hfr x hx).2⟩
  clear h1 h2 h3 hN hfr HC L2
  have HC := Lib.hid (wait_few 3 1 0 (by unfold I64; omega) L3.out m3)
  go_wp2_with fail
  with_reducible refine HC.out.mono ?_
  rintro e w5 ⟨he, hP⟩
  rw [e4] at he
  obtain rfl := he
  obtain ⟨v4, hL, hF⟩ := L3.out.step hP
  have L4 : Hid (EB w.heap.size w w5 s g b v4 X4) := hL
  have D4 := Lib.hid (D3.out.sfar hF)
  clear D3
  clear hP hL hF HC L3
  have HC := Lib.hid (up_any _ L4.out.sm)
  rw [e5] at HC
  go_wp2_with fail
  with_reducible refine HC.out.mono ?_
  rintro e w6 ⟨rfl, rfl⟩
  clear HC
  have HC := Lib.hid (reset_any _ L4.out.sm)
  go_wp2_with fail
  with_reducible refine HC.out.mono ?_
  rintro e w6 ⟨rfl, hP⟩
  obtain ⟨v5, hL, hF⟩ := L4.out.step hP
  have L5 : Hid (EB w.heap.size w w6 s g b v5 X5) := hL
  have D5 := Lib.hid (D4.out.sfar hF)
  clear hP hL hF HC L4 D4
  have HC := Lib.hid (wait_few 3 1 0 (by unfold I64; omega) L5.out m5)
  go_wp2_with fail
  with_reducible refine HC.out.mono ?_
  rintro e w7 ⟨he, hP⟩
  rw [e6] at he
  obtain rfl := he
  obtain ⟨v6, hL, hF⟩ := L5.out.step hP
  have L6 : Hid (EB w.heap.size w w7 s g b v6 X6) := hL
  have D6 := Lib.hid (D5.out.sfar hF)
  clear D5
  clear hP hL hF HC L5
  go_wp2_with fail
  have hB7 := (Below.refl w7.heap.size w7).alloc (Nat.le_refl _) (.cells #[.int .i64 2, .int .i64 1] 3)
  have hS := same_any dA (some ⟨w7.heap.size, 0, none⟩) dc 2 [2, 1] [2, 1] (w7.alloc (.cells #[.int .i64 2, .int .i64 1] 3)) (D6.out.n.keep hB7).ints (ints_new w7 [2, 1]) (by simp)
  have L7 := Lib.hid (L6.out.keep hB7)
  clear hB7 D6 L6
  rw [show ([2, 1] : List Int).length = 2 from rfl] at hS
  with_reducible refine hS.mono ?_
  rintro e w8 ⟨he, hB8⟩
  rw [decide_eq_true (show ([2, 1] : List Int) = [2, 1] from rfl)] at he
  obtain rfl := he
  have L8 := Lib.hid (L7.out.keep hB8)
  clear hB8 L7 hS
  have HU := Lib.hid (up_any _ L8.out.sm)
  rw [e7'] at HU
  go_wp2_with fail
  with_reducible refine HU.out.mono ?_
  rintro e w9 ⟨rfl, rfl⟩
  have k0 := L8.out.sm.c0
  have hml := meth_list g
  have HL := Lib.hid (list_any _ L8.out.sm.ln (Nat.le_trans m6.1 (by omega)))
  rw [e8] at HL
  clear HU
  go_wp2_with fail
  with_reducible refine HL.out.mono ?_
  rintro e w10 ⟨d2, rfl, hN, hB, _⟩
  obtain ⟨A2, c2, rfl, _⟩ := hN.len
  have HBB := Lib.hid (L8.out.keep hB).bel
  clear hN hB HL L8 k0 hml
  go_wp2_with fail
  go_ret
  exact ⟨rfl, HBB.out⟩
end Go.Proofs.Ytndipldcpnglgaa
