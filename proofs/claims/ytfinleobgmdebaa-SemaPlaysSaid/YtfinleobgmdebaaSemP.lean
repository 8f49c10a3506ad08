/-
  What holds of a semaphore behind any calls, pure.
-/
import Derived.Test.YtfinleobgmdebaaSemB
namespace Go.Proofs.Ytfinleobgmdebaa

theorem put_len (S : Ln) (id prio til : Int) : (S.put id prio til).q.length ≤ S.q.length + 1 ∧ (S.put id prio til).n ≤ S.n + 1 := by
  unfold Ln.put
  split
  · exact ⟨by show (ins _ S.q).length ≤ _; rw [(ins_perm _ _).length_eq, List.length_cons]; exact Nat.le_refl _, Nat.le_refl _⟩
  · exact ⟨Nat.le_succ _, Nat.le_succ _⟩
theorem without_len (S : Ln) (i : Id) : (S.without i).q.length ≤ S.q.length ∧ (S.without i).n = S.n := ⟨List.length_filter_le _ _, rfl⟩
theorem take_len (S : Ln) : S.take.q.length ≤ S.q.length ∧ S.take.n = S.n := by
  unfold Ln.take; split
  · exact ⟨Nat.le_refl _, rfl⟩
  · exact without_len _ _
theorem drop_len (S : Ln) (id : Int) : (S.drop id).q.length ≤ S.q.length ∧ (S.drop id).n = S.n := by
  unfold Ln.drop; split
  · exact without_len _ _
  · exact ⟨Nat.le_refl _, rfl⟩
theorem expire_len (S : Ln) (t : Int) : (S.expire t).q.length ≤ S.q.length ∧ (S.expire t).n = S.n := by
  unfold Ln.expire; split
  · exact ⟨List.length_filter_le _ _, rfl⟩
  · exact ⟨Nat.le_refl _, rfl⟩
theorem any_len {S : Ln} (h : S.any = true) : 0 < S.q.length := by
  unfold Ln.any at h
  cases hq : S.q with
  | nil => rw [hq] at h; cases h
  | cons a r => simp
theorem any_not {S : Ln} (h : ¬ S.any = true) : S.q.length = 0 := by
  unfold Ln.any at h
  cases hq : S.q with
  | nil => rfl
  | cons a r => rw [hq] at h; exact absurd rfl h

/-- Behind k calls: who was let in, how many signals; while one waits the count is 0. -/
structure SumOk (n first i m k : Nat) (X : Sm) : Prop where
  mx : X.m = n
  c : X.c ≤ n
  z : 0 < X.S.q.length → X.c = 0
  e : i + X.c = first + m
  N : X.S.n ≤ 2 * k
  L : X.S.q.length ≤ 2 * k
  b : i ≤ k ∧ m ≤ k
theorem SumOk.new {n first : Nat} (h : first ≤ n) : SumOk n first 0 0 0 ⟨Ln.new, first, n⟩ := ⟨rfl, h, fun h => absurd h (by simp [Ln.new]), by show 0 + first = first + 0; omega, Nat.le_refl _, Nat.le_refl _, Nat.le_refl _, Nat.le_refl _⟩
def one (b : Bool) : Nat := if b = true then 1 else 0
theorem one_le (b : Bool) : one b ≤ 1 := by cases b <;> decide
theorem SumOk.line {n first i m k : Nat} {X : Sm} (h : SumOk n first i m k X) {S' : Ln} (h1 : S'.q.length ≤ X.S.q.length) (h2 : S'.n = X.S.n) : SumOk n first i m (k + 1) ⟨S', X.c, X.m⟩ := by
  have hN := h.N
  have hL := h.L
  have hb := h.b
  exact ⟨h.mx, h.c, fun h' => h.z (by show 0 < X.S.q.length; have : 0 < S'.q.length := h'; omega), h.e, by show S'.n ≤ _; omega, by show S'.q.length ≤ _; omega, by omega, by omega⟩
theorem SumOk.wait {n first i m k : Nat} {X : Sm} (h : SumOk n first i m k X) (id prio til : Int) : SumOk n first (i + one (X.waitE id prio til).1) m (k + 1) (X.wait id prio til) ∧ ((X.waitE id prio til).1 = true → (X.waitE id prio til).2 = 0) := by
  obtain ⟨hm, hc, hz, he, hN, hL, hi, hmk⟩ := h
  unfold Sm.wait Sm.waitE
  by_cases h1 : X.S.putE id prio (-1) ≠ 0
  · rw [if_pos h1, if_pos h1]
    exact ⟨⟨hm, hc, hz, by simpa [one] using he, by omega, by omega, by simp [one]; omega, by omega⟩, by simp⟩
  · rw [if_neg h1, if_neg h1]
    by_cases h2 : 0 < X.c
    · rw [if_pos h2, if_pos h2]
      have hq : ¬ 0 < X.S.q.length := fun c => by have := hz c; omega
      exact ⟨⟨hm, by show X.c - 1 ≤ n; omega, fun c => absurd c hq, by show i + 1 + (X.c - 1) = first + m; omega, by show X.S.n + 1 ≤ _; omega, by show X.S.q.length ≤ _; omega, by show i + 1 ≤ _; omega, by omega⟩, fun _ => rfl⟩
    · rw [if_neg h2, if_neg h2]
      by_cases h3 : til = 0
      · rw [if_pos h3, if_pos h3]
        exact ⟨⟨hm, hc, hz, by simpa [one] using he, by show X.S.n + 1 ≤ _; omega, by show X.S.q.length ≤ _; omega, by simp [one]; omega, by omega⟩, by simp⟩
      · rw [if_neg h3, if_neg h3]
        obtain ⟨l1, l2⟩ := put_len X.S.bump id prio til
        have l1 : (X.S.bump.put id prio til).q.length ≤ X.S.q.length + 1 := l1
        have l2 : (X.S.bump.put id prio til).n ≤ X.S.n + 1 + 1 := l2
        exact ⟨⟨hm, hc, fun _ => by show X.c = 0; omega, by simpa [one] using he, by show (X.S.bump.put id prio til).n ≤ _; omega, by show (X.S.bump.put id prio til).q.length ≤ _; omega, by simp [one]; omega, by omega⟩, by simp⟩
theorem SumOk.sig {n first i m k : Nat} {X : Sm} (h : SumOk n first i m k X) : SumOk n first (i + one X.sigE.2.1) (m + one (decide (X.sigE.2.2 = 0))) (k + 1) X.sig := by
  obtain ⟨hm, hc, hz, he, hN, hL, hi, hmk⟩ := h
  unfold Sm.sig Sm.sigE
  by_cases h1 : X.S.any = true
  · rw [if_pos h1, if_pos h1]
    have := hz (any_len h1)
    obtain ⟨l1, l2⟩ := take_len X.S
    exact ⟨hm, hc, fun _ => this, by show i + 1 + X.c = first + (m + 1); omega, by show X.S.take.n ≤ _; omega, by show X.S.take.q.length ≤ _; omega, by show i + 1 ≤ _; omega, by show m + 1 ≤ _; omega⟩
  · rw [if_neg h1, if_neg h1]
    have hq := any_not h1
    by_cases h2 : X.c = X.m
    · rw [if_pos h2, if_pos h2]
      exact ⟨hm, hc, hz, by simpa [one] using he, by omega, by omega, by simp [one]; omega, by simp [one]; omega⟩
    · rw [if_neg h2, if_neg h2]
      exact ⟨hm, by show X.c + 1 ≤ n; omega, fun c => by have c : 0 < X.S.q.length := c; omega, by show i + 0 + (X.c + 1) = first + (m + 1); omega, by show X.S.n ≤ _; omega, by show X.S.q.length ≤ _; omega, by show i + 0 ≤ _; omega, by show m + 1 ≤ _; omega⟩
end Go.Proofs.Ytfinleobgmdebaa
