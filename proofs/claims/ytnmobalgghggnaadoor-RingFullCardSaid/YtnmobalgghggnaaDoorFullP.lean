/-
  When a message is refused and when there is nothing to receive.
-/
import Derived.Test.YtnmobalgghggnaaDoorLaw
namespace Go.Proofs.YtnmobalgghggnaaDoor

/-- What is noted of a sender: at a first step, that it begins; else whether the ring was full. -/
def NotedS (L : List ByteArray) (pl : Nat) (a : Ab) (b f : Bool) : Prop := a.sp ≤ 4 → (a.sp = 0 → b = true) ∧ (1 ≤ a.sp → b = false ∧ f = decide (a.T L = a.hd + pl))
/-- What is noted of a receiver: at a first step, that it starts; else whether the ring was empty. -/
def NotedR (a : Ab) (b f : Bool) : Prop := a.rp ≤ 4 → (a.rp = 0 → b = true) ∧ (1 ≤ a.rp → b = false ∧ f = decide (a.tl = a.H))
/-- The bounds of what has been seen. -/
def Seen (L : List ByteArray) (pl : Nat) (a : Ab) : Prop := (1 ≤ a.sp → a.sp ≤ 4 → a.hd ≤ a.H ∧ a.T L ≤ a.hd + pl) ∧ (2 ≤ a.sp → a.sp ≤ 4 → a.T L < a.hd + pl) ∧ (1 ≤ a.rp → a.rp ≤ 4 → a.H ≤ a.tl ∧ a.tl ≤ a.T L) ∧ (2 ≤ a.rp → a.rp ≤ 4 → a.H < a.tl) ∧ (a.H ≤ a.T L ∧ a.T L ≤ a.H + pl) ∧ (∀ i, i < a.T L → 1 ≤ ((a.out L).getD i ByteArray.empty).size)
theorem text_none {x : ByteArray} (hx : x.size = 0) : (x.toList == []) = true := by
  rw [ByteArray.toList_eq]
  have : x.data.toList = [] := List.length_eq_zero_iff.1 (by rw [Array.length_toList]; exact hx)
  rw [this]; rfl
theorem text_some {x : ByteArray} (hx : ¬ x.size = 0) : (x.toList == []) = false := by
  rw [ByteArray.toList_eq, beq_eq_false_iff_ne]
  intro h
  exact hx (by have := congrArg List.length h; rw [Array.length_toList] at this; exact this)
section
variable {wl w w' : World} {g B C : Nat} {h : Int} {pl sz : Nat} {L : List ByteArray} {a : Ab} {K : Int} {b f : Bool}
theorem RunA.seen (hF : Fix h pl sz L) (hR : RunA wl g B C h pl sz L a K w) : Seen L pl a := by
  obtain ⟨S, R, f, h1, h2⟩ := hR
  refine ⟨fun x y => (h2.s1 x y).2, fun x y => (h2.s2 x y).2, fun x y => (h2.r1 x y).2, fun x y => (h2.r2 x y).2, h2.ht, fun i hi => (hF.ms _ (h2.out_mem h1.SW hi)).1⟩
/-- A sender's step, noted. -/
theorem noted_s (hS : Seen L pl a) (hN : NotedS L pl a b f) {f' : Bool} (h1 : b = true → f' = decide (((a.T L : Nat) : Int) - a.H = pl)) (h2 : b = false → f' = f) :
    ((a.stepS L pl).sent = a.sent ∧ NotedS L pl (a.stepS L pl) false f') ∨ ((a.stepS L pl).sent = a.sent ++ [!f'] ∧ NotedS L pl (a.stepS L pl) true f') := by
  obtain ⟨s1, s2, s3, s4, s5, s6⟩ := hS
  have h6 : a.sp = 0 ∨ a.sp = 1 ∨ a.sp = 2 ∨ a.sp = 3 ∨ a.sp = 4 ∨ 5 ≤ a.sp := by omega
  rcases h6 with e | e | e | e | e | e
  · have hb := (hN (by omega)).1 e
    have hf := h1 hb
    rw [Ab.stepS0 e]
    refine .inl ⟨rfl, fun _ => ⟨fun h => absurd h (by show ¬ (1 : Nat) = 0; omega), fun _ => ⟨rfl, ?_⟩⟩⟩
    rw [hf]
    refine decide_eq_decide.2 ?_
    show ((a.T L : Nat) : Int) - a.H = pl ↔ a.T L = a.H + pl
    omega
  · obtain ⟨hb, hf⟩ := (hN (by omega)).2 (by omega)
    have hf' := (h2 hb).trans hf
    have q1 := s1 (by omega) (by omega)
    rw [Ab.stepS1 e]
    by_cases hx : pl ≤ a.T L - a.hd
    · rw [if_pos hx]
      have e1 : f' = true := by rw [hf']; simp; omega
      subst e1
      refine .inr ⟨rfl, fun hsp => ⟨fun _ => rfl, fun hs1 => ?_⟩⟩
      have esp : (a.closeS L false).sp = 5 ∨ (a.closeS L false).sp = 0 := by
        show (if a.sent.length + 1 = L.length then 5 else 0) = 5 ∨ (if a.sent.length + 1 = L.length then 5 else 0) = 0
        split
        · exact .inl rfl
        · exact .inr rfl
      omega
    · rw [if_neg hx]
      exact .inl ⟨rfl, fun _ => ⟨fun h => absurd h (by show ¬ (2 : Nat) = 0; omega), fun _ => ⟨rfl, hf'⟩⟩⟩
  · obtain ⟨hb, hf⟩ := (hN (by omega)).2 (by omega)
    rw [Ab.stepS2 e]
    exact .inl ⟨rfl, fun _ => ⟨fun h => absurd h (by show ¬ (3 : Nat) = 0; omega), fun _ => ⟨rfl, (h2 hb).trans hf⟩⟩⟩
  · obtain ⟨hb, hf⟩ := (hN (by omega)).2 (by omega)
    rw [Ab.stepS3 e]
    split
    · exact .inl ⟨rfl, fun _ => ⟨fun h => absurd h (by show ¬ a.sp = 0; omega), fun _ => ⟨rfl, (h2 hb).trans hf⟩⟩⟩
    · exact .inl ⟨rfl, fun _ => ⟨fun h => absurd h (by show ¬ (4 : Nat) = 0; omega), fun _ => ⟨rfl, (h2 hb).trans hf⟩⟩⟩
  · obtain ⟨hb, hf⟩ := (hN (by omega)).2 (by omega)
    have hf' := (h2 hb).trans hf
    have q1 := s2 (by omega) (by omega)
    rw [Ab.stepS4 e]
    have e1 : f' = false := by rw [hf']; simp; omega
    subst e1
    refine .inr ⟨rfl, fun hsp => ⟨fun _ => rfl, fun hs1 => ?_⟩⟩
    have esp : (a.closeS L true).sp = 5 ∨ (a.closeS L true).sp = 0 := by
      show (if a.sent.length + 1 = L.length then 5 else 0) = 5 ∨ (if a.sent.length + 1 = L.length then 5 else 0) = 0
      split
      · exact .inl rfl
      · exact .inr rfl
    omega
  · rw [Ab.stepS5 e]
    exact .inl ⟨rfl, fun h => by omega⟩
/-- A receiver's step, noted. -/
theorem noted_r (hS : Seen L pl a) (hN : NotedR a b f) {f' : Bool} (h1 : b = true → f' = decide (((a.T L : Nat) : Int) = a.H)) (h2 : b = false → f' = f) :
    ((a.stepR L).got = a.got ∧ NotedR (a.stepR L) false f') ∨ (∃ m, (a.stepR L).got = a.got ++ [m] ∧ (m.toList == []) = f' ∧ NotedR (a.stepR L) true f') := by
  obtain ⟨s1, s2, s3, s4, s5, s6⟩ := hS
  have h6 : a.rp = 0 ∨ a.rp = 1 ∨ a.rp = 2 ∨ a.rp = 3 ∨ a.rp = 4 ∨ 5 ≤ a.rp := by omega
  have ecl : ∀ m, (a.closeR m).rp = 5 ∨ (a.closeR m).rp = 0 := fun m => by
    show (if a.got.length + 1 = 40 then 5 else 0) = 5 ∨ (if a.got.length + 1 = 40 then 5 else 0) = 0
    split
    · exact .inl rfl
    · exact .inr rfl
  rcases h6 with e | e | e | e | e | e
  · have hb := (hN (by omega)).1 e
    have hf := h1 hb
    rw [Ab.stepR0 e]
    refine .inl ⟨rfl, fun _ => ⟨fun h => absurd h (by show ¬ (1 : Nat) = 0; omega), fun _ => ⟨rfl, ?_⟩⟩⟩
    rw [hf]
    refine decide_eq_decide.2 ?_
    show ((a.T L : Nat) : Int) = a.H ↔ a.T L = a.H
    omega
  · obtain ⟨hb, hf⟩ := (hN (by omega)).2 (by omega)
    have hf' := (h2 hb).trans hf
    rw [Ab.stepR1 e]
    by_cases hx : a.H = a.tl
    · rw [if_pos hx]
      have e1 : f' = true := by rw [hf']; simp; omega
      subst e1
      refine .inr ⟨_, rfl, text_none rfl, fun hsp => ⟨fun _ => rfl, fun hs1 => ?_⟩⟩
      have := ecl ByteArray.empty
      omega
    · rw [if_neg hx]
      exact .inl ⟨rfl, fun _ => ⟨fun h => absurd h (by show ¬ (2 : Nat) = 0; omega), fun _ => ⟨rfl, hf'⟩⟩⟩
  · obtain ⟨hb, hf⟩ := (hN (by omega)).2 (by omega)
    rw [Ab.stepR2 e]
    exact .inl ⟨rfl, fun _ => ⟨fun h => absurd h (by show ¬ (3 : Nat) = 0; omega), fun _ => ⟨rfl, (h2 hb).trans hf⟩⟩⟩
  · obtain ⟨hb, hf⟩ := (hN (by omega)).2 (by omega)
    rw [Ab.stepR3 e]
    split
    · exact .inl ⟨rfl, fun _ => ⟨fun h => absurd h (by show ¬ a.rp = 0; omega), fun _ => ⟨rfl, (h2 hb).trans hf⟩⟩⟩
    · exact .inl ⟨rfl, fun _ => ⟨fun h => absurd h (by show ¬ (4 : Nat) = 0; omega), fun _ => ⟨rfl, (h2 hb).trans hf⟩⟩⟩
  · obtain ⟨hb, hf⟩ := (hN (by omega)).2 (by omega)
    have hf' := (h2 hb).trans hf
    have q1 := s3 (by omega) (by omega)
    have q2 := s4 (by omega) (by omega)
    rw [Ab.stepR4 e]
    have e1 : f' = false := by rw [hf']; simp; omega
    subst e1
    have hsz : 1 ≤ (a.nxt L).size := s6 a.H (by omega)
    refine .inr ⟨_, rfl, ?_, fun hsp => ⟨fun _ => rfl, fun hs1 => ?_⟩⟩
    · exact text_some (by omega)
    · have := ecl (a.nxt L)
      omega
  · rw [Ab.stepR5 e]
    exact .inl ⟨rfl, fun h => by omega⟩
/-- What is noted of the one isn't touched by the other's step. -/
theorem NotedR.other (h : NotedR a b f) : NotedR (a.stepS L pl) b f := by
  have h6 : a.sp = 0 ∨ a.sp = 1 ∨ a.sp = 2 ∨ a.sp = 3 ∨ a.sp = 4 ∨ 5 ≤ a.sp := by omega
  rcases h6 with e | e | e | e | e | e
  · rw [Ab.stepS0 e]; exact h
  · rw [Ab.stepS1 e]; split <;> exact h
  · rw [Ab.stepS2 e]; exact h
  · rw [Ab.stepS3 e]; split <;> exact h
  · rw [Ab.stepS4 e]; exact h
  · rw [Ab.stepS5 e]; exact h
theorem NotedS.other (h : NotedS L pl a b f) : NotedS L pl (a.stepR L) b f := by
  have h6 : a.rp = 0 ∨ a.rp = 1 ∨ a.rp = 2 ∨ a.rp = 3 ∨ a.rp = 4 ∨ 5 ≤ a.rp := by omega
  rcases h6 with e | e | e | e | e | e
  · rw [Ab.stepR0 e]; exact h
  · rw [Ab.stepR1 e]; split <;> exact h
  · rw [Ab.stepR2 e]; exact h
  · rw [Ab.stepR3 e]; split <;> exact h
  · rw [Ab.stepR4 e]; exact h
  · rw [Ab.stepR5 e]; exact h
theorem noted_s0 : NotedS L pl (ab0 L) true false := fun h => by
  refine ⟨fun _ => rfl, fun h1 => ?_⟩
  have esp : (ab0 L).sp = 5 ∨ (ab0 L).sp = 0 := by
    show (if L.length = 0 then 5 else 0) = 5 ∨ (if L.length = 0 then 5 else 0) = 0
    split
    · exact .inl rfl
    · exact .inr rfl
  omega
theorem noted_r0 : NotedR (ab0 L) true false := fun h => ⟨fun _ => rfl, fun h1 => absurd h1 (by show ¬ 1 ≤ (0 : Nat); omega)⟩
end
end Go.Proofs.YtnmobalgghggnaaDoor
