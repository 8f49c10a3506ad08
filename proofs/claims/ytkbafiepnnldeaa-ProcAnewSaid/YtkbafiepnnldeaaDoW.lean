/-
  A table of the call's own; a call of a known kind; who runs.
-/
import Derived.Test.YtkbafiepnnldeaaNewW
namespace Go.Proofs.Ytkbafiepnnldeaa
open Go.RowKit

/-- A table that was made behind H blocks, H's blocks as they were in w0. -/
structure TB (H : Nat) (w0 w : World) (g bi ba ci : Nat) (v : Value) (T : Tb) : Prop where
  tb : TbAt w g bi ba ci v T
  ok : TOk T
  blk : ∀ k, Blk g bi ba v k → H ≤ k
  bel : Below H w0 w
  sz : H ≤ w.heap.size
/-- Far from the table: an elder block that is none of its own. -/
def Far (w : World) (g bi ba : Nat) (v : Value) (k : Nat) : Prop := k < w.heap.size ∧ ¬ Blk g bi ba v k
theorem TB.step {H : Nat} {w0 w w' : World} {g bi ba ci : Nat} {v : Value} {T T' : Tb} (h : TB H w0 w g bi ba ci v T) (ok : TOk T') (hP : TbP g bi ba ci v T' w w') : ∃ v', TB H w0 w' g bi ba ci v' T' ∧ w.heap.size ≤ w'.heap.size ∧ ∀ k, Far w g bi ba v k → w'.heap[k]? = w.heap[k]? ∧ Far w' g bi ba v' k := by
  obtain ⟨v', h1, h2, h3⟩ := hP
  refine ⟨v', ⟨h1, ok, fun k hk => ?_, h.bel.trans (h2.below h.blk h.sz), Nat.le_trans h.sz h2.size⟩, h2.size, fun k hk => ⟨h2.block k hk.1 hk.2, Nat.lt_of_lt_of_le hk.1 h2.size, fun hb => ?_⟩⟩
  · have hs := h.sz
    rcases hk with e | e | e | e
    · exact h.blk k (.inl e)
    · exact h.blk k (.inr (.inl e))
    · exact h.blk k (.inr (.inr (.inl e)))
    · rcases h3 k e with e2 | e2
      · exact h.blk k (.inr (.inr (.inr e2)))
      · omega
  · have hl := hk.1
    rcases hb with e | e | e | e
    · exact hk.2 (.inl e)
    · exact hk.2 (.inr (.inl e))
    · exact hk.2 (.inr (.inr (.inl e)))
    · rcases h3 k e with e2 | e2
      · exact hk.2 (.inr (.inr (.inr e2)))
      · omega
theorem TB.keep {H : Nat} {w0 w w' : World} {g bi ba ci : Nat} {v : Value} {T : Tb} (h : TB H w0 w g bi ba ci v T) (hB : Below w.heap.size w w') : TB H w0 w' g bi ba ci v T :=
  ⟨h.tb.keep hB, h.ok, h.blk, h.bel.trans (hB.mono h.sz), Nat.le_trans h.sz hB.size⟩

theorem stepE_pr {T : Tb} {k i : Int} (h : k ≠ 6) (pr : Int) : T.stepE k i 0 = T.stepE k i pr := by
  unfold Tb.stepE
  rw [if_neg (c := k = 6 ∧ ((0 : Int) < 0 ∨ (63 : Int) < 0)) (fun c => h c.1), if_neg (c := k = 6 ∧ (pr < 0 ∨ 63 < pr)) (fun c => h c.1)]
theorem bec_pr {k f : Int} {p : Pr} (h : k ≠ 6) (pr : Int) : bec k f 0 p = bec k f pr p := by
  unfold bec
  rw [if_neg h, if_neg h]
theorem step_pr {T : Tb} {k i : Int} (h : k ≠ 6) (pr : Int) : T.step k i 0 = T.step k i pr := by
  unfold Tb.step
  rw [stepE_pr h pr, bec_pr h pr]
theorem StepP.pr {g bi ba ci : Nat} {v : Value} {T : Tb} {k i : Int} {w w' : World} {e : Ending} (h : StepP g bi ba ci v T k i 0 w e w') (hk : k ≠ 6) (pr : Int) : StepP g bi ba ci v T k i pr w e w' := by
  unfold StepP at h ⊢
  rw [← stepE_pr hk pr, ← step_pr hk pr]
  exact h
/-- A call of a known kind. -/
def nk (k : Int) : Int := if k < 0 ∨ 7 < k then 8 else k
theorem nk_range (k : Int) : 0 ≤ nk k ∧ nk k ≤ 8 := by unfold nk; split <;> omega
def cV (k i pr : Int) : Value := .agg #[nV k, nV i, nV pr]
theorem two_boxes (w : World) (a b c : Int) : ((w.alloc (.cells #[nV a, nV b, nV c] 36)).alloc (.cells #[nV a, nV b, nV c] 36)).cell? ⟨w.heap.size + 1, 0, none⟩ = some (nV a) ∧ ((w.alloc (.cells #[nV a, nV b, nV c] 36)).alloc (.cells #[nV a, nV b, nV c] 36)).cell? ⟨w.heap.size + 1, 1, none⟩ = some (nV b) ∧ ((w.alloc (.cells #[nV a, nV b, nV c] 36)).alloc (.cells #[nV a, nV b, nV c] 36)).cell? ⟨w.heap.size + 1, 2, none⟩ = some (nV c) ∧ Below w.heap.size w ((w.alloc (.cells #[nV a, nV b, nV c] 36)).alloc (.cells #[nV a, nV b, nV c] 36)) :=
  ⟨al_new _ _ _ 0 _ (by simp) rfl, al_new _ _ _ 1 _ (by simp) rfl, al_new _ _ _ 2 _ (by simp) rfl, ((Below.refl _ _).alloc (Nat.le_refl _) _).alloc (by simp) _⟩
theorem call_any (k i pr : Int) (w : World) : Calls Try.prog 11 #[cV k i pr] w fun e w' => e = .returned (cV (nk k) i pr) ∧ Below w.heap.size w w' := by
  unfold cV
  by_cases h : k < 0 ∨ 7 < k
  · have hn : nk k = 8 := if_pos h
    rw [hn]
    rcases h with h | h
    · go_enter Try.func11, Try.ntmps11
      go_wp2_with fail
      obtain ⟨t0, t1, t2, hB⟩ := two_boxes w 8 i pr
      refine bodyPost_ret (by simp [results, Try.results11, go_sem, t0, t1, t2]; try rfl) rfl ?_
      exact ⟨rfl, hB⟩
    · have h2 : ¬ k < 0 := by omega
      go_enter Try.func11, Try.ntmps11
      go_wp2_with fail
      obtain ⟨t0, t1, t2, hB⟩ := two_boxes w 8 i pr
      refine bodyPost_ret (by simp [results, Try.results11, go_sem, t0, t1, t2]; try rfl) rfl ?_
      exact ⟨rfl, hB⟩
  · have hn : nk k = k := if_neg h
    rw [hn]
    have h1 : ¬ k < 0 := fun c => h (.inl c)
    have h2 : ¬ 7 < k := fun c => h (.inr c)
    clear h
    go_enter Try.func11, Try.ntmps11
    go_wp2_with fail
    obtain ⟨t0, t1, t2, hB⟩ := two_boxes w k i pr
    refine bodyPost_ret (by simp [results, Try.results11, go_sem, t0, t1, t2]; try rfl) rfl ?_
    exact ⟨rfl, hB⟩
theorem do_any {g bi ba ci : Nat} {v : Value} {T : Tb} (k i pr : Int) (w : World) (h : TbAt w g bi ba ci v T) (ok : TOk T) (h0 : 0 ≤ k) (h8 : k ≤ 8) : Calls Try.prog 13 #[.pointer (some ⟨g, 0, none⟩), cV k i pr] w fun e w' => StepP g bi ba ci v T k i pr w e w' := by
  have hB : Below w.heap.size w (w.alloc (.cells #[nV k, nV i, nV pr] 36)) := (Below.refl _ _).alloc (Nat.le_refl _) _
  have HB := Lib.hid hB
  have h1 := h.keep hB
  have HOK := Lib.hid ok
  have H1 := Lib.hid h1
  have HF : Hid (∀ e w', StepP g bi ba ci v T k i pr (w.alloc (.cells #[nV k, nV i, nV pr] 36)) e w' → StepP g bi ba ci v T k i pr w e w') := fun e w' h => ⟨h.1, TbP.bel HB.out h.2⟩
  unfold cV
  clear hB h h1 ok HB
  rcases (by omega : k = 0 ∨ k = 1 ∨ k = 2 ∨ k = 3 ∨ k = 4 ∨ k = 5 ∨ k = 6 ∨ k = 7 ∨ k = 8) with rfl | rfl | rfl | rfl | rfl | rfl | rfl | rfl | rfl
  · have HC := Lib.hid (start_any i _ H1.out HOK.out)
    go_enter Try.func13, Try.ntmps13
    go_wp2_with fail
    with_reducible refine HC.out.mono ?_
    rintro e w1 ⟨rfl, hP⟩
    have HP := Lib.hid (HF.out _ _ (StepP.pr ⟨rfl, hP⟩ (by decide) pr))
    clear hP
    go_wp2_with fail
    go_ret
    exact HP.out
  · have HC := Lib.hid (stop_any i _ H1.out HOK.out)
    go_enter Try.func13, Try.ntmps13
    go_wp2_with fail
    with_reducible refine HC.out.mono ?_
    rintro e w1 ⟨rfl, hP⟩
    have HP := Lib.hid (HF.out _ _ (StepP.pr ⟨rfl, hP⟩ (by decide) pr))
    clear hP
    go_wp2_with fail
    go_ret
    exact HP.out
  · have HC := Lib.hid (block_any i _ H1.out HOK.out)
    go_enter Try.func13, Try.ntmps13
    go_wp2_with fail
    with_reducible refine HC.out.mono ?_
    rintro e w1 ⟨rfl, hP⟩
    have HP := Lib.hid (HF.out _ _ (StepP.pr ⟨rfl, hP⟩ (by decide) pr))
    clear hP
    go_wp2_with fail
    go_ret
    exact HP.out
  · have HC := Lib.hid (wake_any i _ H1.out HOK.out)
    go_enter Try.func13, Try.ntmps13
    go_wp2_with fail
    with_reducible refine HC.out.mono ?_
    rintro e w1 ⟨rfl, hP⟩
    have HP := Lib.hid (HF.out _ _ (StepP.pr ⟨rfl, hP⟩ (by decide) pr))
    clear hP
    go_wp2_with fail
    go_ret
    exact HP.out
  · have HC := Lib.hid (suspend_any i _ H1.out HOK.out)
    go_enter Try.func13, Try.ntmps13
    go_wp2_with fail
    with_reducible refine HC.out.mono ?_
    rintro e w1 ⟨rfl, hP⟩
    have HP := Lib.hid (HF.out _ _ (StepP.pr ⟨rfl, hP⟩ (by decide) pr))
    clear hP
    go_wp2_with fail
    go_ret
    exact HP.out
  · have HC := Lib.hid (resume_any i _ H1.out HOK.out)
    go_enter Try.func13, Try.ntmps13
    go_wp2_with fail
    with_reducible refine HC.out.mono ?_
    rintro e w1 ⟨rfl, hP⟩
    have HP := Lib.hid (HF.out _ _ (StepP.pr ⟨rfl, hP⟩ (by decide) pr))
    clear hP
    go_wp2_with fail
    go_ret
    exact HP.out
  · have HC := Lib.hid (raise_any i pr _ H1.out HOK.out)
    go_enter Try.func13, Try.ntmps13
    go_wp2_with fail
    with_reducible refine HC.out.mono ?_
    rintro e w1 ⟨rfl, hP⟩
    have HP := Lib.hid (HF.out _ _ ⟨rfl, hP⟩)
    clear hP
    go_wp2_with fail
    go_ret
    exact HP.out
  · have HC := Lib.hid (yield_any i _ H1.out HOK.out)
    go_enter Try.func13, Try.ntmps13
    go_wp2_with fail
    with_reducible refine HC.out.mono ?_
    rintro e w1 ⟨rfl, hP⟩
    have HP := Lib.hid (HF.out _ _ (StepP.pr ⟨rfl, hP⟩ (by decide) pr))
    clear hP
    go_wp2_with fail
    go_ret
    exact HP.out
  · have HC := Lib.hid (reset_any _ H1.out HOK.out.len HOK.out.most (fun x hx => Nat.le_trans (HOK.out.fst x hx) (by decide)))
    go_enter Try.func13, Try.ntmps13
    go_wp2_with fail
    with_reducible refine HC.out.mono ?_
    rintro e w1 ⟨rfl, hP⟩
    have HP : Hid (StepP g bi ba ci v T 8 i pr w (.returned (nV 0)) w1) := HF.out _ _ ⟨rfl, hP⟩
    clear hP
    go_wp2_with fail
    go_ret
    exact HP.out
/-- Who runs, or -1. -/
def whoOf (q : List Int) : Int := match q with | [] => -1 | a :: _ => a
theorem who_any {g bi ba ci : Nat} {v : Value} {T : Tb} (w : World) (h : TbAt w g bi ba ci v T) : Calls Try.prog 26 #[.pointer (some ⟨g, 0, none⟩)] w fun e w' => e = .returned (nV (whoOf T.q)) ∧ w = w' := by
  have HR := Lib.hid (running_any w h)
  clear h
  cases hq : T.q with
  | nil =>
    rw [hq] at HR
    go_enter Try.func26, Try.ntmps26
    go_wp2_with fail
    with_reducible refine HR.out.mono ?_
    rintro e w1 ⟨rfl, rfl⟩
    unfold headOf
    go_wp2_with fail
    go_ret
    exact ⟨rfl, rfl⟩
  | cons a r =>
    rw [hq] at HR
    go_enter Try.func26, Try.ntmps26
    go_wp2_with fail
    with_reducible refine HR.out.mono ?_
    rintro e w1 ⟨rfl, rfl⟩
    unfold headOf
    go_wp2_with fail
    go_ret
    exact ⟨rfl, rfl⟩
end Go.Proofs.Ytkbafiepnnldeaa
