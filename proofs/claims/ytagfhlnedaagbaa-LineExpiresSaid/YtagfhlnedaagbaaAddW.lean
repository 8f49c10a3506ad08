/-
  Put.
-/
import Derived.Test.YtagfhlnedaagbaaDropW
namespace Go.Proofs.Ytagfhlnedaagbaa
open Go.RowKit

def AddP (g b : Nat) (v : Value) (S : Ln) (id prio til : Int) (w : World) (e : Ending) (w' : World) : Prop := e = .returned (.int .i64 (S.putE id prio til)) ∧ LnP g b v (S.put id prio til) w w'
theorem add_no {g b : Nat} {v : Value} {S : Ln} {id prio til E : Int} {w w' : World} (h : LnAt w g b v S) (hB : Below w.heap.size w w') (he : S.putE id prio til = E) (h0 : E ≠ 0) : AddP g b v S id prio til w (.returned (.int .i64 E)) w' :=
  ⟨by rw [he], by unfold Ln.put; rw [he, if_neg h0]; exact LnP.below h hB⟩
set_option maxHeartbeats 1000000 in
theorem add_id {g b : Nat} {v : Value} {S : Ln} (id prio til : Int) (w : World) (h : LnAt w g b v S) (h1 : id < 0 ∨ 65535 < id) :
    Calls Try.prog 19 #[.pointer (some ⟨g, 0, none⟩), nV id, nV prio, nV til] w fun e w' => AddP g b v S id prio til w e w' := by
  have HF : Hid (AddP g b v S id prio til w (.returned (.int .i64 140)) w) := add_no h (Below.refl _ _) (by unfold Ln.putE; rw [if_pos h1]) (by decide)
  clear h
  by_cases h0 : id < 0
  · clear h1
    go_enter Try.func19, Try.ntmps19
    go_wp2_with fail
    go_ret
    exact HF.out
  · have h2 : 65535 < id := h1.resolve_left h0
    clear h1
    go_enter Try.func19, Try.ntmps19
    go_wp2_with fail
    go_ret
    exact HF.out
set_option maxHeartbeats 1000000 in
theorem add_prio {g b : Nat} {v : Value} {S : Ln} (id prio til : Int) (w : World) (h : LnAt w g b v S) (h1 : ¬ (id < 0 ∨ 65535 < id)) (h2 : prio < 0 ∨ 63 < prio) :
    Calls Try.prog 19 #[.pointer (some ⟨g, 0, none⟩), nV id, nV prio, nV til] w fun e w' => AddP g b v S id prio til w e w' := by
  have HF : Hid (AddP g b v S id prio til w (.returned (.int .i64 143)) w) := add_no h (Below.refl _ _) (by unfold Ln.putE; rw [if_neg h1, if_pos h2]) (by decide)
  have a1 : ¬ id < 0 := fun c => h1 (.inl c)
  have a2 : ¬ 65535 < id := fun c => h1 (.inr c)
  clear h h1
  by_cases h0 : prio < 0
  · clear h2
    go_enter Try.func19, Try.ntmps19
    go_wp2_with fail
    go_ret
    exact HF.out
  · have h2 : 63 < prio := h2.resolve_left h0
    go_enter Try.func19, Try.ntmps19
    go_wp2_with fail
    go_ret
    exact HF.out
set_option maxHeartbeats 1000000 in
theorem add_til {g b : Nat} {v : Value} {S : Ln} (id prio til : Int) (w : World) (h : LnAt w g b v S) (h1 : ¬ (id < 0 ∨ 65535 < id)) (h2 : ¬ (prio < 0 ∨ 63 < prio)) (h3 : til ≠ -1 ∧ (til ≤ S.now ∨ 1099511627776 < til)) :
    Calls Try.prog 19 #[.pointer (some ⟨g, 0, none⟩), nV id, nV prio, nV til] w fun e w' => AddP g b v S id prio til w e w' := by
  have HF : Hid (AddP g b v S id prio til w (.returned (.int .i64 144)) w) := add_no h (Below.refl _ _) (by unfold Ln.putE; rw [if_neg h1, if_neg h2, if_pos h3]) (by decide)
  have a1 : ¬ id < 0 := fun c => h1 (.inl c)
  have a2 : ¬ 65535 < id := fun c => h1 (.inr c)
  have a3 : ¬ prio < 0 := fun c => h2 (.inl c)
  have a4 : ¬ 63 < prio := fun c => h2 (.inr c)
  have c3 := h.c3
  obtain ⟨b1, b2⟩ := h3
  clear h h1 h2
  by_cases h0 : til ≤ S.now
  · clear b2
    go_enter Try.func19, Try.ntmps19
    go_wp2_with fail
    go_ret
    exact HF.out
  · have h2 : 1099511627776 < til := b2.resolve_left h0
    clear b2
    go_enter Try.func19, Try.ntmps19
    go_wp2_with fail
    go_ret
    exact HF.out
set_option maxHeartbeats 1000000 in
theorem add_here {g b : Nat} {v : Value} {S : Ln} (id prio til : Int) (w : World) (h : LnAt w g b v S) (h1 : ¬ (id < 0 ∨ 65535 < id)) (h2 : ¬ (prio < 0 ∨ 63 < prio)) (h3 : ¬ (til ≠ -1 ∧ (til ≤ S.now ∨ 1099511627776 < til))) (h4 : S.has id = true) :
    Calls Try.prog 19 #[.pointer (some ⟨g, 0, none⟩), nV id, nV prio, nV til] w fun e w' => AddP g b v S id prio til w e w' := by
  have HFF := Lib.hid fun w' (hB : Below w.heap.size w w') => add_no h hB (show S.putE id prio til = 141 by unfold Ln.putE; rw [if_neg h1, if_neg h2, if_neg h3, if_pos h4]) (by decide)
  have a1 : ¬ id < 0 := fun c => h1 (.inl c)
  have a2 : ¬ 65535 < id := fun c => h1 (.inr c)
  have a3 : ¬ prio < 0 := fun c => h2 (.inl c)
  have a4 : ¬ 63 < prio := fun c => h2 (.inr c)
  have c3 := h.c3
  have hw := waits_any id (by unfold I64; omega) w h
  rw [h4] at hw
  have HW := Lib.hid hw
  clear h h1 h2 h4 hw
  by_cases h0 : til = -1
  · subst h0
    clear h3
    go_enter Try.func19, Try.ntmps19
    go_wp2_with fail
    refine HW.out.mono ?_
    rintro e w1 ⟨rfl, hB, _⟩
    have HF := Lib.hid (HFF.out w1 hB)
    clear hB
    go_wp2_with fail
    go_ret
    exact HF.out
  · have b1 : ¬ til ≤ S.now := fun c => h3 ⟨h0, .inl c⟩
    have b2 : ¬ 1099511627776 < til := fun c => h3 ⟨h0, .inr c⟩
    clear h3
    go_enter Try.func19, Try.ntmps19
    go_wp2_with fail
    refine HW.out.mono ?_
    rintro e w1 ⟨rfl, hB, _⟩
    have HF := Lib.hid (HFF.out w1 hB)
    clear hB
    go_wp2_with fail
    go_ret
    exact HF.out
end Go.Proofs.Ytagfhlnedaagbaa
