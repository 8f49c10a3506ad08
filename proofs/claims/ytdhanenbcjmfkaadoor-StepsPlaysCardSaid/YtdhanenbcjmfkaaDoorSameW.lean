/-
  The given comparison of words.
-/
import Derived.Test.YtdhanenbcjmfkaaDoorTks2
namespace Go.Proofs.YtdhanenbcjmfkaaDoor
open Go.RowKit

/-- From address A on lie the words f. -/
def Us (w : World) (A : Option Addr) (n : Nat) (f : Nat → Int) : Prop := ∀ i, i < n → ∃ b o, A = some ⟨b, o, none⟩ ∧ w.cell? ⟨b, o + i, none⟩ = some (.int .u32 (f i))
theorem Us.keep {w w' : World} {A : Option Addr} {n : Nat} {f : Nat → Int} (h : Us w A n f) (hb : Below w.heap.size w w') : Us w' A n f := fun i hi => by
  obtain ⟨b, o, e, hc⟩ := h i hi
  exact ⟨b, o, e, kept hc hb⟩
theorem Us.cell {w : World} {b o n : Nat} {f : Nat → Int} (h : Us w (some ⟨b, o, none⟩) n f) {i : Nat} (hi : i < n) : w.cell? ⟨b, o + i, none⟩ = some (.int .u32 (f i)) := by
  obtain ⟨b', o', e, hc⟩ := h i hi
  injection e with e
  injection e with e1 e2
  subst e1 e2
  exact hc
theorem Us.head {w : World} {A : Option Addr} {n : Nat} {f : Nat → Int} (h : Us w A n f) {i : Nat} (hi : i < n) : ∃ b o, A = some ⟨b, o, none⟩ := by
  obtain ⟨b, o, e, _⟩ := h i hi
  exact ⟨b, o, e⟩
theorem Us.of_row {w : World} {b n : Nat} {f : Nat → Int} (h : OwnU w b n f) : Us w (some ⟨b, 0, none⟩) n f := fun i hi => ⟨b, 0, rfl, by rw [Nat.zero_add]; exact h.cell hi⟩
theorem Us.congr {w : World} {A : Option Addr} {n : Nat} {f g : Nat → Int} (h : Us w A n f) (e : ∀ i, i < n → f i = g i) : Us w A n g := fun i hi => by
  obtain ⟨b, o, e1, hc⟩ := h i hi
  exact ⟨b, o, e1, by rw [← e i hi]; exact hc⟩

set_option maxHeartbeats 2000000 in
theorem same_yes (A B : Option Addr) (c d n : Nat) (f : Nat → Int) (w : World) (hA : Us w A n f) (hB : Us w B n f) (hn : n ≤ 4096) :
    Calls Tryd.prog 15 #[.slice A n c, .slice B n d] w fun e w' => e = .returned (.bool true) ∧ Below w.heap.size w w' := by
  have HA := Lib.hid hA
  have HB := Lib.hid hB
  clear hA hB
  go_enter Tryd.func15, Tryd.ntmps15
  go_wp2_with fail
  go_loopw [5] (fun i wr => ∃ k : Nat, k ≤ n ∧ i = .int .i64 k ∧ Below w.heap.size w wr) (fun i _ => n - (intOf i).toNat)
  case atStart => exact ⟨0, by omega, rfl, Below.refl _ _⟩
  case round =>
    obtain ⟨k, hk, rfl, hB⟩ := hrel
    have HBr := Lib.hid hB
    by_cases hlt : k < n
    · obtain ⟨b, o, rfl⟩ := HA.out.head hlt
      obtain ⟨b2, o2, rfl⟩ := HB.out.head hlt
      have c1 := kept (HA.out.cell hlt) hB
      have c2 := kept (HB.out.cell hlt) hB
      clear hB
      go_wp2_with fail
      go_quiet (fail)
      go_wp2_with fail
      all_goals
        go_roundw
        case rel => exact ⟨k + 1, by omega, by go_num, below_drewN HBr.out _⟩
        case measure => simp [intOf]; omega
    · clear hB
      go_wp2_with fail
      go_ret
      exact ⟨rfl, HBr.out⟩
end Go.Proofs.YtdhanenbcjmfkaaDoor
