/-
  slices.Clone of channels, pairs, windows, semaphores and numbers: the same elements in a row of its own.
-/
import Derived.Test.YtjiikhfeacgjjaaExclW
import Derived.Deep.AppendLies
import Derived.Laws.IdiomStrings
import Derived.Lib.SliceRun
namespace Go.Proofs.Ytjiikhfeacgjjaa
open Go.RowKit

theorem flat_get {α : Type} (f : α → List Value) (C : Nat) (d : α) (l : List α) (hl : ∀ x ∈ l, (f x).length = C) (i j : Nat) (hi : i < l.length) (hj : j < C) : (l.flatMap f)[i * C + j]? = (f (l.getD i d))[j]? := by
  induction l generalizing i with
  | nil => simp at hi
  | cons x r ih =>
    have hx := hl x List.mem_cons_self
    cases i with
    | zero =>
      rw [List.flatMap_cons, List.getElem?_append_left (by omega)]
      simp
    | succ i =>
      rw [List.flatMap_cons, List.getElem?_append_right (by rw [hx]; simp [Nat.succ_mul]; omega), hx, show (i + 1) * C + j - C = i * C + j by rw [Nat.succ_mul]; omega]
      rw [ih (fun y hy => hl y (List.mem_cons_of_mem _ hy)) i (by simpa using hi)]
      simp
theorem flat_len {α : Type} (f : α → List Value) (C : Nat) (l : List α) (hl : ∀ x, (f x).length = C) : (l.flatMap f).length = l.length * C := by
  induction l with
  | nil => simp
  | cons x r ih => rw [List.flatMap_cons, List.length_append, ih, List.length_cons, hl, Nat.succ_mul]; omega
theorem arr_flat {α : Type} {w : World} {base E C c : Nat} {A : Option Addr} {l : List α} {f : α → List Value} {d : α} (h : w.ownsRow base E C (.slice A l.length c) l.length (l.flatMap f)) (hf : ∀ x, (f x).length = C) : Arr w A C l.length fun i => f (l.getD i d) :=
  arr_own h _ fun i j u hi hu => by
    have hj : j < C := by
      have := (List.getElem?_eq_some_iff.1 hu).1
      rw [hf] at this
      exact this
    rw [flat_get f C d l (fun x _ => hf x) i j hi hj]
    exact hu
theorem add_off (b o j : Nat) : (⟨b, o, none⟩ : Addr).add j = ⟨b, o + j, none⟩ := by cases j <;> simp [Addr.add]
/-- The cells of some elements. -/
theorem arr_news {α : Type} {w : World} {b o C : Nat} {l : List α} {f : α → List Value} {d : α} (hC : 0 < C) (hf : ∀ x, (f x).length = C) (h : Arr w (some ⟨b, o, none⟩) C l.length fun i => f (l.getD i d)) : ∀ j u, (l.flatMap f)[j]? = some u → w.cell? ((⟨b, o, none⟩ : Addr).add j) = some u := by
  intro j u hu
  have hj : j < l.length * C := by rw [← flat_len f C l hf]; exact (List.getElem?_eq_some_iff.1 hu).1
  have hdm := Nat.div_add_mod j C
  have hm := Nat.mod_lt j hC
  have hd : j / C < l.length := (Nat.div_lt_iff_lt_mul hC).2 hj
  have e : j = (j / C) * C + j % C := by rw [Nat.mul_comm]; exact hdm.symm
  rw [e, flat_get f C d l (fun x _ => hf x) (j / C) (j % C) hd hm] at hu
  rw [add_off, e, ← Nat.add_assoc]
  exact Arr.at h hd hu
/-- A list of its own, in cells. -/
def CloneP (E C : Nat) (xs : List Value) (n : Nat) (w : World) (e : Ending) (w' : World) : Prop := ∃ v, e = .returned v ∧ w'.ownsRow w.heap.size E C v n xs ∧ Below w.heap.size w w'

theorem info44 : (Try.prog.info? 44).map (fun i => (i.zero, i.size, i.bytes)) = some (some (.agg #[.int .u8 0, .int .u8 0, .int .u8 0, .int .u8 0, .int .u8 0, .int .u16 0]), 6, 8) := by kernel_rfl
set_option maxHeartbeats 1000000 in
theorem clone44 (A : Option Addr) (c : Nat) (l : List ChanA) (w : World) (hA : Arr w A 6 l.length fun i => chanV (l.getD i dC)) (hn : l.length ≤ 1000000) :
    Calls Try.prog 45 #[.slice A l.length c] w fun e w' => CloneP 44 6 (l.flatMap chanV) l.length w e w' := by
  have q23 := fun (w : World) (a : Option Addr) (n c n' c' : Nat) => Lib.run_eql_slice_nil (P := Try.prog) w 25 44 a n c n' c' Try.underlying25
  cases A with
  | none =>
    have h0 : l = [] := by
      cases l with
      | nil => rfl
      | cons x r => obtain ⟨_, _, e⟩ := Arr.head hA (i := 0) (by simp); cases e
    subst h0
    clear hA
    go_enter Try.func45, Try.ntmps45
    go_wp2_with fail
    go_ret
    exact ⟨_, rfl, World.ownsRow_nil _ _ _ _, Below.refl _ _⟩
  | some a =>
    obtain ⟨i0, hi, hz0, hz1, hz2⟩ := info_parts info44
    have hown : (w.alloc (.cells #[] 44)).ownsRow w.heap.size 44 6 (.slice (some ⟨w.heap.size, 0, none⟩) 0 0) 0 [] := World.ownsRow_lit w #[] 0 (Nat.le_refl _) (by decide) rfl
    have hB : Below w.heap.size w (w.alloc (.cells #[] 44)) := (Below.refl _ _).alloc (Nat.le_refl _) _
    have hnews : ∀ j u, (l.flatMap chanV)[j]? = some u → (w.alloc (.cells #[] 44)).cell? (a.add j) = some u := by
      intro j u hu
      have hl0 : 0 < l.length := by
        cases l with
        | nil => simp at hu
        | cons x r => simp
      obtain ⟨b, o, e⟩ := Arr.head hA hl0
      injection e with e
      subst e
      exact arr_news (by omega : 0 < 6) (fun _ => rfl) (Arr.keep hA hB) j u hu
    have hlen := flat_len chanV 6 l (fun _ => rfl)
    obtain ⟨n, hnn⟩ : ∃ n, n = l.length := ⟨_, rfl⟩
    obtain ⟨xs, hxs⟩ : ∃ xs, xs = l.flatMap chanV := ⟨_, rfl⟩
    have hone : ∀ u ∈ xs, u.oneCell' = true := by
      intro u hu
      rw [hxs] at hu
      obtain ⟨x, _, hu⟩ := List.mem_flatMap.1 hu
      simp [chanV] at hu
      rcases hu with rfl | rfl | rfl | rfl | rfl | rfl <;> rfl
    rw [← hxs] at hnews hlen ⊢
    rw [← hnn] at hn hlen ⊢
    have HNW := Lib.hid hnews
    have HB := Lib.hid hB
    have HLN := Lib.hid hlen
    have HON := Lib.hid hone
    clear hA hB hnews hlen hone hnn hxs
    go_enter Try.func45, Try.ntmps45
    go_wp2_with (at_builtin; refine wpList_append_own _ rfl _ _ 25 rfl w.heap.size 44 i0 (.agg #[.int .u8 0, .int .u8 0, .int .u8 0, .int .u8 0, .int .u8 0, .int .u16 0]) 6 8 Try.underlying25 hi hz0 hz1 hz2 rfl (by decide) _ _ _ rfl hown a n c xs rfl ?c0 ?c1 ?c2 ?c3 ?c4 ?c5 ?_)
    case c0 => exact HLN.out
    case c1 => exact HNW.out
    case c2 => exact HON.out
    case c3 => unfold maxLen; simp; omega
    case c4 => simp; omega
    case c5 => simp
    intro v' w1 hown' hgrow _
    have hO : w1.ownsRow w.heap.size 44 6 v' n xs := by simpa using hown'
    have HO := Lib.hid hO
    have HB1 := Lib.hid (HB.out.grown hgrow (by simp) (fun k hk => (World.ownsRow.lt hown k hk).1))
    clear hown' hgrow hown hO
    go_wp2
    go_ret
    exact ⟨_, rfl, HO.out, HB1.out⟩

theorem info70 : (Try.prog.info? 70).map (fun i => (i.zero, i.size, i.bytes)) = some (some (.agg #[.int .u8 0, .int .u8 0]), 2, 2) := by kernel_rfl
set_option maxHeartbeats 1000000 in
theorem clone70 (A : Option Addr) (c : Nat) (l : List PairA) (w : World) (hA : Arr w A 2 l.length fun i => semV (l.getD i dS)) (hn : l.length ≤ 1000000) :
    Calls Try.prog 46 #[.slice A l.length c] w fun e w' => CloneP 70 2 (l.flatMap semV) l.length w e w' := by
  have q23 := fun (w : World) (a : Option Addr) (n c n' c' : Nat) => Lib.run_eql_slice_nil (P := Try.prog) w 26 70 a n c n' c' Try.underlying26
  cases A with
  | none =>
    have h0 : l = [] := by
      cases l with
      | nil => rfl
      | cons x r => obtain ⟨_, _, e⟩ := Arr.head hA (i := 0) (by simp); cases e
    subst h0
    clear hA
    go_enter Try.func46, Try.ntmps46
    go_wp2_with fail
    go_ret
    exact ⟨_, rfl, World.ownsRow_nil _ _ _ _, Below.refl _ _⟩
  | some a =>
    obtain ⟨i0, hi, hz0, hz1, hz2⟩ := info_parts info70
    have hown : (w.alloc (.cells #[] 70)).ownsRow w.heap.size 70 2 (.slice (some ⟨w.heap.size, 0, none⟩) 0 0) 0 [] := World.ownsRow_lit w #[] 0 (Nat.le_refl _) (by decide) rfl
    have hB : Below w.heap.size w (w.alloc (.cells #[] 70)) := (Below.refl _ _).alloc (Nat.le_refl _) _
    have hnews : ∀ j u, (l.flatMap semV)[j]? = some u → (w.alloc (.cells #[] 70)).cell? (a.add j) = some u := by
      intro j u hu
      have hl0 : 0 < l.length := by
        cases l with
        | nil => simp at hu
        | cons x r => simp
      obtain ⟨b, o, e⟩ := Arr.head hA hl0
      injection e with e
      subst e
      exact arr_news (by omega : 0 < 2) (fun _ => rfl) (Arr.keep hA hB) j u hu
    have hlen := flat_len semV 2 l (fun _ => rfl)
    obtain ⟨n, hnn⟩ : ∃ n, n = l.length := ⟨_, rfl⟩
    obtain ⟨xs, hxs⟩ : ∃ xs, xs = l.flatMap semV := ⟨_, rfl⟩
    have hone : ∀ u ∈ xs, u.oneCell' = true := by
      intro u hu
      rw [hxs] at hu
      obtain ⟨x, _, hu⟩ := List.mem_flatMap.1 hu
      simp [semV] at hu
      rcases hu with rfl | rfl <;> rfl
    rw [← hxs] at hnews hlen ⊢
    rw [← hnn] at hn hlen ⊢
    have HNW := Lib.hid hnews
    have HB := Lib.hid hB
    have HLN := Lib.hid hlen
    have HON := Lib.hid hone
    clear hA hB hnews hlen hone hnn hxs
    go_enter Try.func46, Try.ntmps46
    go_wp2_with (at_builtin; refine wpList_append_own _ rfl _ _ 26 rfl w.heap.size 70 i0 (.agg #[.int .u8 0, .int .u8 0]) 2 2 Try.underlying26 hi hz0 hz1 hz2 rfl (by decide) _ _ _ rfl hown a n c xs rfl ?c0 ?c1 ?c2 ?c3 ?c4 ?c5 ?_)
    case c0 => exact HLN.out
    case c1 => exact HNW.out
    case c2 => exact HON.out
    case c3 => unfold maxLen; simp; omega
    case c4 => simp; omega
    case c5 => simp
    intro v' w1 hown' hgrow _
    have hO : w1.ownsRow w.heap.size 70 2 v' n xs := by simpa using hown'
    have HO := Lib.hid hO
    have HB1 := Lib.hid (HB.out.grown hgrow (by simp) (fun k hk => (World.ownsRow.lt hown k hk).1))
    clear hown' hgrow hown hO
    go_wp2
    go_ret
    exact ⟨_, rfl, HO.out, HB1.out⟩

theorem info75 : (Try.prog.info? 75).map (fun i => (i.zero, i.size, i.bytes)) = some (some (.agg #[.int .u16 0, .int .u16 0, .int .u8 0, .int .u8 0]), 4, 6) := by kernel_rfl
set_option maxHeartbeats 1000000 in
theorem clone75 (A : Option Addr) (c : Nat) (l : List WinA) (w : World) (hA : Arr w A 4 l.length fun i => winV (l.getD i dW)) (hn : l.length ≤ 1000000) :
    Calls Try.prog 47 #[.slice A l.length c] w fun e w' => CloneP 75 4 (l.flatMap winV) l.length w e w' := by
  have q23 := fun (w : World) (a : Option Addr) (n c n' c' : Nat) => Lib.run_eql_slice_nil (P := Try.prog) w 54 75 a n c n' c' Try.underlying54
  cases A with
  | none =>
    have h0 : l = [] := by
      cases l with
      | nil => rfl
      | cons x r => obtain ⟨_, _, e⟩ := Arr.head hA (i := 0) (by simp); cases e
    subst h0
    clear hA
    go_enter Try.func47, Try.ntmps47
    go_wp2_with fail
    go_ret
    exact ⟨_, rfl, World.ownsRow_nil _ _ _ _, Below.refl _ _⟩
  | some a =>
    obtain ⟨i0, hi, hz0, hz1, hz2⟩ := info_parts info75
    have hown : (w.alloc (.cells #[] 75)).ownsRow w.heap.size 75 4 (.slice (some ⟨w.heap.size, 0, none⟩) 0 0) 0 [] := World.ownsRow_lit w #[] 0 (Nat.le_refl _) (by decide) rfl
    have hB : Below w.heap.size w (w.alloc (.cells #[] 75)) := (Below.refl _ _).alloc (Nat.le_refl _) _
    have hnews : ∀ j u, (l.flatMap winV)[j]? = some u → (w.alloc (.cells #[] 75)).cell? (a.add j) = some u := by
      intro j u hu
      have hl0 : 0 < l.length := by
        cases l with
        | nil => simp at hu
        | cons x r => simp
      obtain ⟨b, o, e⟩ := Arr.head hA hl0
      injection e with e
      subst e
      exact arr_news (by omega : 0 < 4) (fun _ => rfl) (Arr.keep hA hB) j u hu
    have hlen := flat_len winV 4 l (fun _ => rfl)
    obtain ⟨n, hnn⟩ : ∃ n, n = l.length := ⟨_, rfl⟩
    obtain ⟨xs, hxs⟩ : ∃ xs, xs = l.flatMap winV := ⟨_, rfl⟩
    have hone : ∀ u ∈ xs, u.oneCell' = true := by
      intro u hu
      rw [hxs] at hu
      obtain ⟨x, _, hu⟩ := List.mem_flatMap.1 hu
      simp [winV] at hu
      rcases hu with rfl | rfl | rfl | rfl <;> rfl
    rw [← hxs] at hnews hlen ⊢
    rw [← hnn] at hn hlen ⊢
    have HNW := Lib.hid hnews
    have HB := Lib.hid hB
    have HLN := Lib.hid hlen
    have HON := Lib.hid hone
    clear hA hB hnews hlen hone hnn hxs
    go_enter Try.func47, Try.ntmps47
    go_wp2_with (at_builtin; refine wpList_append_own _ rfl _ _ 54 rfl w.heap.size 75 i0 (.agg #[.int .u16 0, .int .u16 0, .int .u8 0, .int .u8 0]) 4 6 Try.underlying54 hi hz0 hz1 hz2 rfl (by decide) _ _ _ rfl hown a n c xs rfl ?c0 ?c1 ?c2 ?c3 ?c4 ?c5 ?_)
    case c0 => exact HLN.out
    case c1 => exact HNW.out
    case c2 => exact HON.out
    case c3 => unfold maxLen; simp; omega
    case c4 => simp; omega
    case c5 => simp
    intro v' w1 hown' hgrow _
    have hO : w1.ownsRow w.heap.size 75 4 v' n xs := by simpa using hown'
    have HO := Lib.hid hO
    have HB1 := Lib.hid (HB.out.grown hgrow (by simp) (fun k hk => (World.ownsRow.lt hown k hk).1))
    clear hown' hgrow hown hO
    go_wp2
    go_ret
    exact ⟨_, rfl, HO.out, HB1.out⟩

theorem info77 : (Try.prog.info? 77).map (fun i => (i.zero, i.size, i.bytes)) = some (some (.agg #[.int .u8 0, .int .u8 0]), 2, 2) := by kernel_rfl
set_option maxHeartbeats 1000000 in
theorem clone77 (A : Option Addr) (c : Nat) (l : List SemA) (w : World) (hA : Arr w A 2 l.length fun i => semV (l.getD i dS)) (hn : l.length ≤ 1000000) :
    Calls Try.prog 48 #[.slice A l.length c] w fun e w' => CloneP 77 2 (l.flatMap semV) l.length w e w' := by
  have q23 := fun (w : World) (a : Option Addr) (n c n' c' : Nat) => Lib.run_eql_slice_nil (P := Try.prog) w 55 77 a n c n' c' Try.underlying55
  cases A with
  | none =>
    have h0 : l = [] := by
      cases l with
      | nil => rfl
      | cons x r => obtain ⟨_, _, e⟩ := Arr.head hA (i := 0) (by simp); cases e
    subst h0
    clear hA
    go_enter Try.func48, Try.ntmps48
    go_wp2_with fail
    go_ret
    exact ⟨_, rfl, World.ownsRow_nil _ _ _ _, Below.refl _ _⟩
  | some a =>
    obtain ⟨i0, hi, hz0, hz1, hz2⟩ := info_parts info77
    have hown : (w.alloc (.cells #[] 77)).ownsRow w.heap.size 77 2 (.slice (some ⟨w.heap.size, 0, none⟩) 0 0) 0 [] := World.ownsRow_lit w #[] 0 (Nat.le_refl _) (by decide) rfl
    have hB : Below w.heap.size w (w.alloc (.cells #[] 77)) := (Below.refl _ _).alloc (Nat.le_refl _) _
    have hnews : ∀ j u, (l.flatMap semV)[j]? = some u → (w.alloc (.cells #[] 77)).cell? (a.add j) = some u := by
      intro j u hu
      have hl0 : 0 < l.length := by
        cases l with
        | nil => simp at hu
        | cons x r => simp
      obtain ⟨b, o, e⟩ := Arr.head hA hl0
      injection e with e
      subst e
      exact arr_news (by omega : 0 < 2) (fun _ => rfl) (Arr.keep hA hB) j u hu
    have hlen := flat_len semV 2 l (fun _ => rfl)
    obtain ⟨n, hnn⟩ : ∃ n, n = l.length := ⟨_, rfl⟩
    obtain ⟨xs, hxs⟩ : ∃ xs, xs = l.flatMap semV := ⟨_, rfl⟩
    have hone : ∀ u ∈ xs, u.oneCell' = true := by
      intro u hu
      rw [hxs] at hu
      obtain ⟨x, _, hu⟩ := List.mem_flatMap.1 hu
      simp [semV] at hu
      rcases hu with rfl | rfl <;> rfl
    rw [← hxs] at hnews hlen ⊢
    rw [← hnn] at hn hlen ⊢
    have HNW := Lib.hid hnews
    have HB := Lib.hid hB
    have HLN := Lib.hid hlen
    have HON := Lib.hid hone
    clear hA hB hnews hlen hone hnn hxs
    go_enter Try.func48, Try.ntmps48
    go_wp2_with (at_builtin; refine wpList_append_own _ rfl _ _ 55 rfl w.heap.size 77 i0 (.agg #[.int .u8 0, .int .u8 0]) 2 2 Try.underlying55 hi hz0 hz1 hz2 rfl (by decide) _ _ _ rfl hown a n c xs rfl ?c0 ?c1 ?c2 ?c3 ?c4 ?c5 ?_)
    case c0 => exact HLN.out
    case c1 => exact HNW.out
    case c2 => exact HON.out
    case c3 => unfold maxLen; simp; omega
    case c4 => simp; omega
    case c5 => simp
    intro v' w1 hown' hgrow _
    have hO : w1.ownsRow w.heap.size 77 2 v' n xs := by simpa using hown'
    have HO := Lib.hid hO
    have HB1 := Lib.hid (HB.out.grown hgrow (by simp) (fun k hk => (World.ownsRow.lt hown k hk).1))
    clear hown' hgrow hown hO
    go_wp2
    go_ret
    exact ⟨_, rfl, HO.out, HB1.out⟩

def byV (z : Int) : List Value := [bV z]

theorem info5 : (Try.prog.info? 5).map (fun i => (i.zero, i.size, i.bytes)) = some (some (.int .u8 0), 1, 1) := by kernel_rfl
set_option maxHeartbeats 1000000 in
theorem clone5 (A : Option Addr) (c : Nat) (l : List Int) (w : World) (hA : Arr w A 1 l.length fun i => byV (l.getD i (0 : Int))) (hn : l.length ≤ 1000000) :
    Calls Try.prog 49 #[.slice A l.length c] w fun e w' => CloneP 5 1 (l.flatMap byV) l.length w e w' := by
  have q23 := fun (w : World) (a : Option Addr) (n c n' c' : Nat) => Lib.run_eql_slice_nil (P := Try.prog) w 56 5 a n c n' c' Try.underlying56
  cases A with
  | none =>
    have h0 : l = [] := by
      cases l with
      | nil => rfl
      | cons x r => obtain ⟨_, _, e⟩ := Arr.head hA (i := 0) (by simp); cases e
    subst h0
    clear hA
    go_enter Try.func49, Try.ntmps49
    go_wp2_with fail
    go_ret
    exact ⟨_, rfl, World.ownsRow_nil _ _ _ _, Below.refl _ _⟩
  | some a =>
    obtain ⟨i0, hi, hz0, hz1, hz2⟩ := info_parts info5
    have hown : (w.alloc (.cells #[] 5)).ownsRow w.heap.size 5 1 (.slice (some ⟨w.heap.size, 0, none⟩) 0 0) 0 [] := World.ownsRow_lit w #[] 0 (Nat.le_refl _) (by decide) rfl
    have hB : Below w.heap.size w (w.alloc (.cells #[] 5)) := (Below.refl _ _).alloc (Nat.le_refl _) _
    have hnews : ∀ j u, (l.flatMap byV)[j]? = some u → (w.alloc (.cells #[] 5)).cell? (a.add j) = some u := by
      intro j u hu
      have hl0 : 0 < l.length := by
        cases l with
        | nil => simp at hu
        | cons x r => simp
      obtain ⟨b, o, e⟩ := Arr.head hA hl0
      injection e with e
      subst e
      exact arr_news (by omega : 0 < 1) (fun _ => rfl) (Arr.keep hA hB) j u hu
    have hlen := flat_len byV 1 l (fun _ => rfl)
    obtain ⟨n, hnn⟩ : ∃ n, n = l.length := ⟨_, rfl⟩
    obtain ⟨xs, hxs⟩ : ∃ xs, xs = l.flatMap byV := ⟨_, rfl⟩
    have hone : ∀ u ∈ xs, u.oneCell' = true := by
      intro u hu
      rw [hxs] at hu
      obtain ⟨x, _, hu⟩ := List.mem_flatMap.1 hu
      simp [byV] at hu
      subst hu; rfl
    rw [← hxs] at hnews hlen ⊢
    rw [← hnn] at hn hlen ⊢
    have HNW := Lib.hid hnews
    have HB := Lib.hid hB
    have HLN := Lib.hid hlen
    have HON := Lib.hid hone
    clear hA hB hnews hlen hone hnn hxs
    go_enter Try.func49, Try.ntmps49
    go_wp2_with (at_builtin; refine wpList_append_own _ rfl _ _ 56 rfl w.heap.size 5 i0 (.int .u8 0) 1 1 Try.underlying56 hi hz0 hz1 hz2 rfl (by decide) _ _ _ rfl hown a n c xs rfl ?c0 ?c1 ?c2 ?c3 ?c4 ?c5 ?_)
    case c0 => exact HLN.out
    case c1 => exact HNW.out
    case c2 => exact HON.out
    case c3 => unfold maxLen; simp; omega
    case c4 => simp; omega
    case c5 => simp
    intro v' w1 hown' hgrow _
    have hO : w1.ownsRow w.heap.size 5 1 v' n xs := by simpa using hown'
    have HO := Lib.hid hO
    have HB1 := Lib.hid (HB.out.grown hgrow (by simp) (fun k hk => (World.ownsRow.lt hown k hk).1))
    clear hown' hgrow hown hO
    go_wp2
    go_ret
    exact ⟨_, rfl, HO.out, HB1.out⟩
end Go.Proofs.Ytjiikhfeacgjjaa
