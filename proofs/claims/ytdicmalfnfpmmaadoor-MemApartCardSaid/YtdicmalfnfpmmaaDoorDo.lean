/-
  The given memory: words in a list; a new one; a use of it; the comparison of words.
-/
import Derived.Test.YtdicmalfnfpmmaaDoorDoes
import Derived.Laws.AppendOwnNone
namespace Go.Proofs.YtdicmalfnfpmmaaDoor
open Go.RowKit

/-- From address A on lie the words f. -/
def Us (w : World) (A : Option Addr) (n : Nat) (f : Nat → Int) : Prop := ∀ i, i < n → ∃ b o, A = some ⟨b, o, none⟩ ∧ w.cell? ⟨b, o + i, none⟩ = some (.int .u32 (f i))
theorem Us.keep {w w' : World} {A : Option Addr} {n : Nat} {f : Nat → Int} (h : Us w A n f) (hb : Below w.heap.size w w') : Us w' A n f := fun i hi => by
  obtain ⟨b, o, e, hc⟩ := h i hi
  exact ⟨b, o, e, kept hc hb⟩
theorem Us.cell {w : World} {b o n : Nat} {f : Nat → Int} (h : Us w (some ⟨b, o, none⟩) n f) {i : Nat} (hi : i < n) : w.cell? ⟨b, o + i, none⟩ = some (.int .u32 (f i)) := by
  obtain ⟨b', o', e, hc⟩ := h i hi
  injection e with e
  injection e with e1 e2
  subst e1 e2
  exact hc
theorem Us.head {w : World} {A : Option Addr} {n : Nat} {f : Nat → Int} (h : Us w A n f) {i : Nat} (hi : i < n) : ∃ b o, A = some ⟨b, o, none⟩ := by
  obtain ⟨b, o, e, _⟩ := h i hi
  exact ⟨b, o, e⟩
theorem Us.of_row {w : World} {b n : Nat} {f : Nat → Int} (h : OwnU w b n f) : Us w (some ⟨b, 0, none⟩) n f := fun i hi => ⟨b, 0, rfl, by rw [Nat.zero_add]; exact h.cell hi⟩
theorem Us.congr {w : World} {A : Option Addr} {n : Nat} {f g : Nat → Int} (h : Us w A n f) (e : ∀ i, i < n → f i = g i) : Us w A n g := fun i hi => by
  obtain ⟨b, o, e1, hc⟩ := h i hi
  exact ⟨b, o, e1, by rw [← e i hi]; exact hc⟩

theorem Us.set {w : World} {b o n : Nat} {f : Nat → Int} (h : Us w (some ⟨b, o, none⟩) n f) {i : Nat} (hi : i < n) (v : Int) : Us (w.setCell ⟨b, o + i, none⟩ (.int .u32 v)) (some ⟨b, o, none⟩) n (setF f i v) := fun j hj => by
  refine ⟨b, o, rfl, ?_⟩
  unfold setF
  by_cases e : j = i
  · subst e
    rw [if_pos rfl]
    exact World.cell?_setCell_same _ _ _ (h.cell hj)
  · rw [if_neg e, World.cell?_setCell_other _ _ _ _ (by simp only [ne_eq, Addr.mk.injEq, not_and]; omega)]
    exact h.cell hj
theorem below_drewN {B : Nat} {w0 w : World} (h : Below B w0 w) (n : Nat) : Below B w0 (w.drewN n) := by
  induction n with
  | zero => exact h
  | succ n ih => exact ih.drew
set_option maxHeartbeats 2000000 in
theorem same_yes (A B : Option Addr) (c d n : Nat) (f : Nat → Int) (w : World) (hA : Us w A n f) (hB : Us w B n f) (hn : n ≤ 4096) :
    Calls Tryd.prog 15 #[.slice A n c, .slice B n d] w fun e w' => e = .returned (.bool true) ∧ Below w.heap.size w w' := by
  have HA := Lib.hid hA
  have HB := Lib.hid hB
  clear hA hB
  go_enter Tryd.func15, Tryd.ntmps15
  go_wp2_with fail
  go_loopw [5] (fun i wr => ∃ k : Nat, k ≤ n ∧ i = .int .i64 k ∧ Below w.heap.size w wr) (fun i _ => n - (intOf i).toNat)
  case atStart => exact ⟨0, by omega, rfl, Below.refl _ _⟩
  case round =>
    obtain ⟨k, hk, rfl, hB⟩ := hrel
    have HBr := Lib.hid hB
    by_cases hlt : k < n
    · obtain ⟨b, o, rfl⟩ := HA.out.head hlt
      obtain ⟨b2, o2, rfl⟩ := HB.out.head hlt
      have c1 := kept (HA.out.cell hlt) hB
      have c2 := kept (HB.out.cell hlt) hB
      clear hB
      go_wp2_with fail
      go_quiet (fail)
      go_wp2_with fail
      all_goals
        go_roundw
        case rel => exact ⟨k + 1, by omega, by go_num, below_drewN HBr.out _⟩
        case measure => simp [intOf]; omega
    · clear hB
      go_wp2_with fail
      go_ret
      exact ⟨rfl, HBr.out⟩
set_option maxHeartbeats 2000000 in
theorem rnew_no (n : Int) (w : World) (h : ¬ (1 ≤ n ∧ n ≤ 4096)) :
    Calls Tryd.prog 9 #[.int .i64 n] w fun e w' => e = .returned (.tuple #[.agg #[.slice none 0 0, .int .i64 0], .int .i64 80]) ∧ Below w.heap.size w w' := by
  by_cases h1 : n < 1
  · clear h
    go_enter Tryd.func9, Tryd.ntmps9
    go_wp2_with fail
    all_goals refine bodyPost_ret (v := .tuple #[.agg #[.slice none 0 0, .int .i64 0], .int .i64 80]) (by simp [results, Tryd.results9, go_sem]) rfl ⟨rfl, (Below.refl _ _).alloc (Nat.le_refl _) _⟩
  · have h2 : 4096 < n := by omega
    clear h
    go_enter Tryd.func9, Tryd.ntmps9
    go_wp2_with fail
    all_goals refine bodyPost_ret (v := .tuple #[.agg #[.slice none 0 0, .int .i64 0], .int .i64 80]) (by simp [results, Tryd.results9, go_sem]) rfl ⟨rfl, (Below.refl _ _).alloc (Nat.le_refl _) _⟩
set_option maxHeartbeats 2000000 in
theorem rnew_yes (n : Nat) (w : World) (h1 : 1 ≤ n) (h2 : n ≤ 4096) :
    Calls Tryd.prog 9 #[.int .i64 n] w fun e w' => ∃ A, e = .returned (.tuple #[.agg #[.slice A n n, .int .i64 0], .int .i64 0]) ∧ Us w' A n (fun _ => 0) ∧ Below w.heap.size w w' := by
  have hmk := fun W => run_make_row' (P := Tryd.prog) 27 33 (.int .u32 0) 4 Tryd.underlying27 info33 rfl .i64 .i64 n (by omega) (by omega) W
  go_enter Tryd.func9, Tryd.ntmps9
  go_wp2_with fail
  refine bodyPost_ret (v := .tuple #[.agg #[.slice (some ⟨w.heap.size + 1, 0, none⟩) n n, .int .i64 0], .int .i64 0]) (by simp [results, Tryd.results9, go_sem]) rfl ⟨_, rfl, Us.of_row ?_, ((Below.refl _ _).alloc (Nat.le_refl _) _).alloc (by simp) _⟩
  have := World.rowIs_made (w.alloc (.cells #[.slice (some ⟨w.heap.size + 1, 0, none⟩) n n, .int .i64 0] 29)) (.int .u32 0) n 33
  rw [show (w.alloc (.cells #[.slice (some ⟨w.heap.size + 1, 0, none⟩) n n, .int .i64 0] 29)).heap.size = w.heap.size + 1 by simp] at this
  exact this
end Go.Proofs.YtdicmalfnfpmmaaDoor
