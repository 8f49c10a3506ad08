/-
  Elements of plans compared as wholes.
-/
import Derived.Test.YtjiikhfeacgjjaaMoreA
import Derived.Stop.BytesEq
namespace Go.Proofs.Ytjiikhfeacgjjaa
open Go.RowKit

noncomputable def sameB {α : Type} (a b : α) : Bool := @decide (a = b) (Classical.propDecidable _)
theorem sameB_yes {α : Type} {a b : α} (h : a = b) : sameB a b = true := by unfold sameB; simp [h]
theorem sameB_no {α : Type} {a b : α} (h : a ≠ b) : sameB a b = false := by unfold sameB; simp [h]
theorem ret_same {α : Type} {a b : α} {x : Bool} (h : sameB a b = x) : Ending.returned (.bool x) = .returned (.bool (sameB a b)) := by rw [h]

theorem neq75 (a0 a1 a2 a3 b0 b1 b2 b3 : Int) (w : World) : (binOp .neq 75 (.agg #[.int .u16 a0, .int .u16 a1, .int .u8 a2, .int .u8 a3]) (.agg #[.int .u16 b0, .int .u16 b1, .int .u8 b2, .int .u8 b3])).run Try.prog w = .ok (.bool (!sameB (a0, a1, a2, a3) (b0, b1, b2, b3))) w := by
  have hS : Try.prog.underlying 75 = some (.struct (Try.prog.fieldsOf 75)) := by kernel_rfl
  have hp : Try.prog.stoodInHeld 75 = false := by kernel_rfl
  have u1 := Try.underlying22
  have u2 := Try.underlying5
  rw [run_neq_struct, show (10000 : Nat) = 9999 + 1 from rfl, run_equalIn_agg w 9999 75 _ _ hS hp]
  simp only [Program.fieldsOf, Try.underlying75]
  go_simp
  unfold sameB
  by_cases h0 : a0 = b0 <;> by_cases h1 : a1 = b1 <;> by_cases h2 : a2 = b2 <;> by_cases h3 : a3 = b3 <;> simp [h0, h1, h2, h3]
theorem neq77 (a0 a1 b0 b1 : Int) (w : World) : (binOp .neq 77 (.agg #[.int .u8 a0, .int .u8 a1]) (.agg #[.int .u8 b0, .int .u8 b1])).run Try.prog w = .ok (.bool (!sameB (a0, a1) (b0, b1))) w := by
  have hS : Try.prog.underlying 77 = some (.struct (Try.prog.fieldsOf 77)) := by kernel_rfl
  have hp : Try.prog.stoodInHeld 77 = false := by kernel_rfl
  have u2 := Try.underlying5
  rw [run_neq_struct, show (10000 : Nat) = 9999 + 1 from rfl, run_equalIn_agg w 9999 77 _ _ hS hp]
  simp only [Program.fieldsOf, Try.underlying77]
  go_simp
  unfold sameB
  by_cases h0 : a0 = b0 <;> by_cases h1 : a1 = b1 <;> simp [h0, h1]
theorem neq44 (a0 a1 a2 a3 a4 a5 b0 b1 b2 b3 b4 b5 : Int) (w : World) : (binOp .neq 44 (.agg #[.int .u8 a0, .int .u8 a1, .int .u8 a2, .int .u8 a3, .int .u8 a4, .int .u16 a5]) (.agg #[.int .u8 b0, .int .u8 b1, .int .u8 b2, .int .u8 b3, .int .u8 b4, .int .u16 b5])).run Try.prog w = .ok (.bool (!sameB (a0, a1, a2, a3, a4, a5) (b0, b1, b2, b3, b4, b5))) w := by
  have hS : Try.prog.underlying 44 = some (.struct (Try.prog.fieldsOf 44)) := by kernel_rfl
  have hp : Try.prog.stoodInHeld 44 = false := by kernel_rfl
  have u1 := Try.underlying22
  have u2 := Try.underlying5
  rw [run_neq_struct, show (10000 : Nat) = 9999 + 1 from rfl, run_equalIn_agg w 9999 44 _ _ hS hp]
  simp only [Program.fieldsOf, Try.underlying44]
  go_simp
  unfold sameB
  by_cases h0 : a0 = b0 <;> by_cases h1 : a1 = b1 <;> by_cases h2 : a2 = b2 <;> by_cases h3 : a3 = b3 <;> by_cases h4 : a4 = b4 <;> by_cases h5 : a5 = b5 <;> simp [h0, h1, h2, h3, h4, h5]
theorem neq70 (a0 a1 b0 b1 : Int) (w : World) : (binOp .neq 70 (.agg #[.int .u8 a0, .int .u8 a1]) (.agg #[.int .u8 b0, .int .u8 b1])).run Try.prog w = .ok (.bool (!sameB (a0, a1) (b0, b1))) w := by
  have hS : Try.prog.underlying 70 = some (.struct (Try.prog.fieldsOf 70)) := by kernel_rfl
  have hp : Try.prog.stoodInHeld 70 = false := by kernel_rfl
  have u2 := Try.underlying5
  rw [run_neq_struct, show (10000 : Nat) = 9999 + 1 from rfl, run_equalIn_agg w 9999 70 _ _ hS hp]
  simp only [Program.fieldsOf, Try.underlying70]
  go_simp
  unfold sameB
  by_cases h0 : a0 = b0 <;> by_cases h1 : a1 = b1 <;> simp [h0, h1]
theorem eql58 (a b c a' b' c' : Int) (w : World) : (binOp .eql 58 (.agg #[.int .u8 a, .int .u8 b, .int .u8 c]) (.agg #[.int .u8 a', .int .u8 b', .int .u8 c'])).run Try.prog w = .ok (.bool (decide (a = a' ∧ b = b' ∧ c = c'))) w := by
  have ht := Try.underlying58
  have he := Try.underlying5
  have hsz : ∀ w, (sizeOf 5).run Try.prog w = .ok 1 w := fun w => by kernel_rfl
  rw [run_eql_struct, show (10000 : Nat) = 9998 + 1 + 1 from rfl, Op.equalIn]
  simp only [Sem.run_bind, run_underlying ht, Result.andThen_ok, hsz, Std.Legacy.Range.forIn_eq_forIn_range', Std.Legacy.Range.size, Nat.sub_zero, Nat.add_sub_cancel, Nat.div_one]
  rw [show List.range' 0 3 1 = [0, 1, 2] from rfl]
  have pe : ∀ x y : Int, (Op.equalIn 9999 5 (.int .u8 x) (.int .u8 y)).run Try.prog w = .ok (x == y) w := fun x y => run_equalIn_int w 9998 5 .u8 .u8 x y he
  have p0 : ∀ x y z : Int, (part 5 #[.int .u8 x, .int .u8 y, .int .u8 z] 0).run Try.prog w = .ok (.int .u8 x) w := fun x y z => by simp [part, isAgg, run_underlying he]
  have p1 : ∀ x y z : Int, (part 5 #[.int .u8 x, .int .u8 y, .int .u8 z] 1).run Try.prog w = .ok (.int .u8 y) w := fun x y z => by simp [part, isAgg, run_underlying he]
  have p2 : ∀ x y z : Int, (part 5 #[.int .u8 x, .int .u8 y, .int .u8 z] 2).run Try.prog w = .ok (.int .u8 z) w := fun x y z => by simp [part, isAgg, run_underlying he]
  simp only [List.forIn_cons, List.forIn_nil, Sem.run_bind, Nat.mul_one, p0, pe, Result.andThen_ok]
  by_cases h1 : a = a' <;> by_cases h2 : b = b' <;> by_cases h3 : c = c' <;> simp [h1, h2, h3, p1, p2, pe]

theorem PartsAt.at {w : World} {b o : Nat} {ps : List PartA} {S P : Nat → Option Addr × Nat} (h : Arr w (some ⟨b, o, none⟩) 6 ps.length (fun i => partV (ps.getD i dQ) (S i) (P i))) {k : Nat} (hk : k < ps.length) {q : PartA} (hq : q = ps.getD k dQ) {s p : Option Addr × Nat} (hs : s = S k) (hp : p = P k) :
    w.cell? ⟨b, o + k * 6, none⟩ = some (.slice s.1 q.1.length s.2) ∧ w.cell? ⟨b, o + k * 6 + 1, none⟩ = some (.int .u8 q.2.1) ∧ w.cell? ⟨b, o + k * 6 + 2, none⟩ = some (.slice p.1 q.2.2.1.length p.2) ∧ w.cell? ⟨b, o + k * 6 + 3, none⟩ = some (.int .u8 q.2.2.2.1) ∧
      w.cell? ⟨b, o + k * 6 + 4, none⟩ = some (.int .u8 q.2.2.2.2.1) ∧ w.cell? ⟨b, o + k * 6 + 5, none⟩ = some (.int .u8 q.2.2.2.2.2) := by
  subst hq hs hp
  exact ⟨Arr.at h (j := 0) hk rfl, Arr.at h (j := 1) hk rfl, Arr.at h (j := 2) hk rfl, Arr.at h (j := 3) hk rfl, Arr.at h (j := 4) hk rfl, Arr.at h (j := 5) hk rfl⟩
end Go.Proofs.Ytjiikhfeacgjjaa
