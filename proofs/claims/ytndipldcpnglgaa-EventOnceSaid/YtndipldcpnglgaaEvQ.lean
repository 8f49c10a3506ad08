/-
  What holds of an event behind any calls, pure.
-/
import Derived.Test.YtndipldcpnglgaaEvB
import Derived.Test.YtndipldcpnglgaaExpW
namespace Go.Proofs.Ytndipldcpnglgaa

theorem put_len (S : Ln) (id prio til : Int) : (S.put id prio til).q.length ≤ S.q.length + 1 ∧ (S.put id prio til).n ≤ S.n + 1 := by
  unfold Ln.put
  split
  · exact ⟨by show (ins _ S.q).length ≤ _; rw [(ins_perm _ _).length_eq, List.length_cons]; exact Nat.le_refl _, Nat.le_refl _⟩
  · exact ⟨Nat.le_succ _, Nat.le_succ _⟩
theorem without_len (S : Ln) (i : Id) : (S.without i).q.length ≤ S.q.length ∧ (S.without i).n = S.n := ⟨List.length_filter_le _ _, rfl⟩
theorem drop_len (S : Ln) (id : Int) : (S.drop id).q.length ≤ S.q.length ∧ (S.drop id).n = S.n := by
  unfold Ln.drop; split
  · exact without_len _ _
  · exact ⟨Nat.le_refl _, rfl⟩
theorem expire_len (S : Ln) (t : Int) : (S.expire t).q.length ≤ S.q.length ∧ (S.expire t).n = S.n := by
  unfold Ln.expire; split
  · exact ⟨List.length_filter_le _ _, rfl⟩
  · exact ⟨Nat.le_refl _, rfl⟩
/-- Behind k calls: while it is up nobody waits. -/
structure UpOk (k : Nat) (X : Ev) : Prop where
  N : X.S.n ≤ 2 * k
  L : X.S.q.length ≤ 2 * k
  u : X.up = true → X.S.q.length = 0
theorem UpOk.new (up : Bool) : UpOk 0 ⟨Ln.new, up⟩ := ⟨Nat.le_refl _, Nat.le_refl _, fun _ => rfl⟩
theorem UpOk.few {k : Nat} {X : Ev} (h : UpOk k X) (hk : k ≤ 60) : Few X := by
  have h1 := h.N
  have h2 := h.L
  exact ⟨by omega, by omega⟩
theorem UpOk.line {k : Nat} {X : Ev} (h : UpOk k X) {S' : Ln} (h1 : S'.q.length ≤ X.S.q.length) (h2 : S'.n = X.S.n) : UpOk (k + 1) ⟨S', X.up⟩ := by
  have hN := h.N
  have hL := h.L
  exact ⟨by show S'.n ≤ _; omega, by show S'.q.length ≤ _; omega, fun hu => by have := h.u hu; show S'.q.length = 0; omega⟩
theorem UpOk.set {k : Nat} {X : Ev} (h : UpOk k X) : UpOk (k + 1) X.set := by
  have hN := h.N
  exact ⟨by show X.S.n ≤ _; omega, Nat.zero_le _, fun _ => rfl⟩
theorem UpOk.reset {k : Nat} {X : Ev} (h : UpOk k X) : UpOk (k + 1) X.reset := by
  have hN := h.N
  have hL := h.L
  exact ⟨by show X.S.n ≤ _; omega, by show X.S.q.length ≤ _; omega, fun hu => by cases hu⟩
theorem wait_up (X : Ev) (id prio til : Int) : (X.wait id prio til).up = X.up := by
  unfold Ev.wait
  repeat' split
  all_goals rfl
theorem waitE_up (X : Ev) (id prio til : Int) : (X.waitE id prio til).1 = true → X.up = true := by
  unfold Ev.waitE
  split
  · intro h; cases h
  · split
    · rename_i h; exact fun _ => h
    · split <;> (intro h; cases h)
theorem UpOk.wait {k : Nat} {X : Ev} (h : UpOk k X) (id prio til : Int) : UpOk (k + 1) (X.wait id prio til) := by
  have hN := h.N
  have hL := h.L
  unfold Ev.wait
  split
  · exact ⟨by omega, by omega, h.u⟩
  · split
    · exact ⟨by show X.S.n + 1 ≤ _; omega, by show X.S.q.length ≤ _; omega, h.u⟩
    · rename_i hu
      split
      · exact ⟨by show X.S.n + 1 ≤ _; omega, by show X.S.q.length ≤ _; omega, h.u⟩
      · obtain ⟨l1, l2⟩ := put_len X.S.bump id prio til
        have l1 : (X.S.bump.put id prio til).q.length ≤ X.S.q.length + 1 := l1
        have l2 : (X.S.bump.put id prio til).n ≤ X.S.n + 1 + 1 := l2
        exact ⟨by show (X.S.bump.put id prio til).n ≤ _; omega, by show (X.S.bump.put id prio til).q.length ≤ _; omega, fun h => absurd h hu⟩
end Go.Proofs.Ytndipldcpnglgaa
