/-
  A semaphore of the call's own; what the chapter's examples fix.
-/
import Derived.Test.YtfinleobgmdebaaSemM
namespace Go.Proofs.Ytfinleobgmdebaa
open Go.RowKit

/-- A semaphore that was made behind H blocks, H's blocks as they were in w0. -/
structure SB (H : Nat) (w0 w : World) (s g b : Nat) (v : Value) (X : Sm) : Prop where
  sm : SmAt w s g b v X
  blk : ∀ k, SBlk s g b v k → H ≤ k
  bel : Below H w0 w
  sz : H ≤ w.heap.size
/-- Far from the semaphore: an elder block that is none of its own. -/
def SFar (w : World) (s g b : Nat) (v : Value) (k : Nat) : Prop := k < w.heap.size ∧ ¬ SBlk s g b v k
section
variable {H : Nat} {w0 w w' : World} {s g b : Nat} {v v' : Value} {X X' : Sm}
theorem SB.step (h : SB H w0 w s g b v X) (hP : SmP s g b v X' w w') : ∃ v', SB H w0 w' s g b v' X' ∧ ∀ k, SFar w s g b v k → w'.heap[k]? = w.heap[k]? ∧ SFar w' s g b v' k := by
  obtain ⟨v', h1, h2, h3⟩ := hP
  refine ⟨v', ⟨h1, fun k hk => ?_, h.bel.trans (h2.below h.blk h.sz), Nat.le_trans h.sz h2.size⟩, fun k hk => ⟨h2.block k hk.1 hk.2, Nat.lt_of_lt_of_le hk.1 h2.size, fun hb => ?_⟩⟩
  · rcases hk with e | e | e | e
    · exact h.blk k (.inl e)
    · exact h.blk k (.inr (.inl e))
    · exact h.blk k (.inr (.inr (.inl e)))
    · rcases h3 with h3 | ⟨x, e1, e2⟩
      · exact h.blk k (.inr (.inr (.inr (by rw [← h3]; exact e))))
      · rw [e1] at e; injection e with e; have := h.sz; omega
  · rcases hb with e | e | e | e
    · exact hk.2 (.inl e)
    · exact hk.2 (.inr (.inl e))
    · exact hk.2 (.inr (.inr (.inl e)))
    · rcases h3 with h3 | ⟨x, e1, e2⟩
      · exact hk.2 (.inr (.inr (.inr (by rw [← h3]; exact e))))
      · rw [e1] at e; injection e with e; have := hk.1; omega
theorem SB.keep (h : SB H w0 w s g b v X) (hB : Below w.heap.size w w') : SB H w0 w' s g b v X :=
  ⟨h.sm.keep hB, h.blk, h.bel.trans (hB.mono h.sz), Nat.le_trans h.sz hB.size⟩
theorem SB.new (h : SmAt w' s g b v X) (hk : ∀ k, SBlk s g b v k → w.heap.size ≤ k) (hB : Below w.heap.size w w') : SB w.heap.size w w' s g b v X := ⟨h, hk, hB, hB.size⟩
end
def X0 : Sm := ⟨Ln.new, 1, 2⟩
def X1 : Sm := X0.wait 7 5 (-1)
def X2 : Sm := X1.wait 8 5 0
def X3 : Sm := X2.wait 8 5 (-1)
def X4 : Sm := X3.wait 9 6 10
def X5 : Sm := X4.sig
def X6 : Sm := X5.sig
def X7 : Sm := X6.sig
def X8 : Sm := X7.sig
def X9 : Sm := X8.sig
theorem e1 : X0.waitE 7 5 (-1) = (true, 0) := by decide +kernel
theorem e2 : X1.waitE 8 5 0 = (false, 0) := by decide +kernel
theorem e3 : X2.waitE 8 5 (-1) = (false, 0) := by decide +kernel
theorem e4 : X3.waitE 9 6 10 = (false, 0) := by decide +kernel
theorem e5 : X4.sigE = (9, true, 0) := by decide +kernel
theorem e6 : X5.sigE = (8, true, 0) := by decide +kernel
theorem e7 : X6.sigE = (0, false, 0) := by decide +kernel
theorem e8 : X7.sigE = (0, false, 0) := by decide +kernel
theorem e9 : X8.sigE = (0, false, 151) := by decide +kernel
theorem e10 : X9.c = 2 := by decide +kernel
def Few (X : Sm) : Prop := X.S.q.length ≤ 900 ∧ X.S.n ≤ 900 ∧ X.c ≤ 255
instance (X : Sm) : Decidable (Few X) := by unfold Few; infer_instance
theorem m0 : Few X0 := by decide +kernel
theorem m1 : Few X1 := by decide +kernel
theorem m2 : Few X2 := by decide +kernel
theorem m3 : Few X3 := by decide +kernel
theorem m4 : Few X4 := by decide +kernel
theorem m5 : Few X5 := by decide +kernel
theorem m6 : Few X6 := by decide +kernel
theorem m7 : Few X7 := by decide +kernel
theorem m8 : Few X8 := by decide +kernel
theorem wait_few {H : Nat} {w0 w : World} {s g b : Nat} {v : Value} {X : Sm} (id prio til : Int) (hid : I64 id) (h : SB H w0 w s g b v X) (hf : Few X) : Calls Try.prog 11 #[.pointer (some ⟨s, 0, none⟩), nV id, nV prio, nV til] w fun e w' => WaitP s g b v X id prio til w e w' := wait_any id prio til hid w h.sm hf.1 hf.2.1 hf.2.2
theorem signal_few {H : Nat} {w0 w : World} {s g b : Nat} {v : Value} {X : Sm} (h : SB H w0 w s g b v X) (hf : Few X) : Calls Try.prog 13 #[.pointer (some ⟨s, 0, none⟩)] w fun e w' => SigP s g b v X w e w' := signal_any w h.sm (Nat.le_trans hf.1 (by omega)) hf.2.2
set_option maxRecDepth 100000 in
set_option maxHeartbeats 4000000 in
theorem awake_any (w : World) : Calls Try.prog 9 #[] w fun e w' => e = .returned (.bool true) ∧ Below w.heap.size w w' := by
  have hnew := Lib.hid (show Calls Try.prog 7 #[nV 1, nV 2] w (fun e w' => NewP 1 2 w e w') from snew_ok 1 2 w (by omega) (by omega) (by omega))
  go_enter Try.func9, Try.ntmps9
  go_wp2_with fail
  with_reducible refine hnew.out.mono ?_
  rintro e w1 ⟨s, g, b, rfl, hL, hk, hB⟩
  have L0 : Hid (SB w.heap.size w w1 s g b (.slice none 0 0) X0) := SB.new hL hk hB
  clear hL hB hk hnew
  have HC1 := Lib.hid (wait_few 7 5 (-1) (by unfold I64; omega) L0.out m0)
  go_wp2_with fail
  with_reducible refine HC1.out.mono ?_
  rintro e w2 ⟨he, hP⟩
  rw [e1] at he
  obtain rfl := he
  obtain ⟨v1, hL, _⟩ := L0.out.step hP
  have L1 : Hid (SB w.heap.size w w2 s g b v1 X1) := hL
  clear hP hL HC1 L0
  have HC2 := Lib.hid (wait_few 8 5 0 (by unfold I64; omega) L1.out m1)
  go_wp2_with fail
  with_reducible refine HC2.out.mono ?_
  rintro e w3 ⟨he, hP⟩
  rw [e2] at he
  obtain rfl := he
  obtain ⟨v2, hL, _⟩ := L1.out.step hP
  have L2 : Hid (SB w.heap.size w w3 s g b v2 X2) := hL
  clear hP hL HC2 L1
  have HC3 := Lib.hid (wait_few 8 5 (-1) (by unfold I64; omega) L2.out m2)
  go_wp2_with fail
  with_reducible refine HC3.out.mono ?_
  rintro e w4 ⟨he, hP⟩
  rw [e3] at he
  obtain rfl := he
  obtain ⟨v3, hL, _⟩ := L2.out.step hP
  have L3 : Hid (SB w.heap.size w w4 s g b v3 X3) := hL
  clear hP hL HC3 L2
  have HC4 := Lib.hid (wait_few 9 6 10 (by unfold I64; omega) L3.out m3)
  go_wp2_with fail
  with_reducible refine HC4.out.mono ?_
  rintro e w5 ⟨he, hP⟩
  rw [e4] at he
  obtain rfl := he
  obtain ⟨v4, hL, _⟩ := L3.out.step hP
  have L4 : Hid (SB w.heap.size w w5 s g b v4 X4) := hL
  clear hP hL HC4 L3
  have HC5 := Lib.hid (signal_few L4.out m4)
  go_wp2_with fail
  with_reducible refine HC5.out.mono ?_
  rintro e w6 ⟨he, hP⟩
  rw [e5] at he
  obtain rfl := he
  obtain ⟨v5, hL, _⟩ := L4.out.step hP
  have L5 : Hid (SB w.heap.size w w6 s g b v5 X5) := hL
  clear hP hL HC5 L4
  have HC6 := Lib.hid (signal_few L5.out m5)
  go_wp2_with fail
  with_reducible refine HC6.out.mono ?_
  rintro e w7 ⟨he, hP⟩
  rw [e6] at he
  obtain rfl := he
  obtain ⟨v6, hL, _⟩ := L5.out.step hP
  have L6 : Hid (SB w.heap.size w w7 s g b v6 X6) := hL
  clear hP hL HC6 L5
  have HC7 := Lib.hid (signal_few L6.out m6)
  go_wp2_with fail
  with_reducible refine HC7.out.mono ?_
  rintro e w8 ⟨he, hP⟩
  rw [e7] at he
  obtain rfl := he
  obtain ⟨v7, hL, _⟩ := L6.out.step hP
  have L7 : Hid (SB w.heap.size w w8 s g b v7 X7) := hL
  clear hP hL HC7 L6
  have HC8 := Lib.hid (signal_few L7.out m7)
  go_wp2_with fail
  with_reducible refine HC8.out.mono ?_
  rintro e w9 ⟨he, hP⟩
  rw [e8] at he
  obtain rfl := he
  obtain ⟨v8, hL, _⟩ := L7.out.step hP
  have L8 : Hid (SB w.heap.size w w9 s g b v8 X8) := hL
  clear hP hL HC8 L7
  have HC9 := Lib.hid (signal_few L8.out m8)
  go_wp2_with fail
  with_reducible refine HC9.out.mono ?_
  rintro e w10 ⟨he, hP⟩
  rw [e9] at he
  obtain rfl := he
  obtain ⟨v9, hL, _⟩ := L8.out.step hP
  have L9 : Hid (SB w.heap.size w w10 s g b v9 X9) := hL
  clear hP hL HC9 L8
  have HN := Lib.hid (count_any _ L9.out.sm)
  rw [e10] at HN
  have HBB := Lib.hid L9.out.bel
  clear L9
  go_wp2_with fail
  trace_state
  with_reducible refine HN.out.mono ?_
  rintro e w15 ⟨rfl, rfl⟩
  go_wp2_with fail
  go_ret
  exact ⟨rfl, HBB.out⟩
end Go.Proofs.Ytfinleobgmdebaa
