/-
  A use as the law names it, done to a memory.
-/
import Derived.Test.YtdicmalfnfpmmaaDoorNew
import Derived.Test.YtdicmalfnfpmmaaDoorOrW
namespace Go.Proofs.YtdicmalfnfpmmaaDoor
open Go.RowKit

/-- A use as a value: its kind, its word, the word that it expects, the value that it brings. -/
def xV (K at' old v : Int) : Value := .agg #[.int .i64 K, .int .i64 at', .int .u32 old, .int .u32 v]
/-- The kind that is meant by a number. -/
def kindN (K : Int) : Nat := if 0 ≤ K ∧ K ≤ 4 then K.toNat else 5
theorem kindN_le (K : Int) : kindN K ≤ 5 := by unfold kindN; split <;> omega
def inN (n : Nat) (at' : Int) : Bool := decide (0 ≤ at' ∧ at' < n)
/-- What a use answers of the word that it finds. -/
def ansK (K : Nat) (old was : Int) : Int :=
  match K with
  | 1 => 0
  | 2 => if was = old then 1 else 0
  | _ => was
def ansS (K : Nat) (at' old : Int) (n : Nat) (f : Nat → Int) : Int := if inN n at' then ansK K old (f at'.toNat) else 0
def errS (n : Nat) (at' : Int) : Int := if inN n at' then 0 else 81
def stepF (K : Nat) (at' old v : Int) (n : Nat) (f : Nat → Int) : Nat → Int := if inN n at' then setF f at'.toNat (afterS K old v (f at'.toNat)) else f
def stepC (n : Nat) (at' c : Int) : Int := if inN n at' then c + 1 else c

set_option maxHeartbeats 1000000 in
theorem use_any (K at' old v : Int) (w : World) :
    Calls Tryd.prog 11 #[xV K at' old v] w fun e w' => e = .returned (xV (kindN K : Int) at' old v) ∧ Below w.heap.size w w' := by
  unfold kindN xV
  by_cases h : 0 ≤ K ∧ K ≤ 4
  · rw [if_pos h]
    obtain ⟨h0, h1⟩ := h
    rw [show ((K.toNat : Nat) : Int) = K by omega]
    go_enter Tryd.func11, Tryd.ntmps11
    go_wp2_with fail
    refine bodyPost_ret (v := .agg #[.int .i64 K, .int .i64 at', .int .u32 old, .int .u32 v]) (by simp [results, Tryd.results11, go_sem]) rfl ⟨rfl, ((Below.refl _ _).alloc (Nat.le_refl _) _).alloc (by simp) _⟩
  · rw [if_neg h]
    by_cases h0 : K < 0
    · clear h
      go_enter Tryd.func11, Tryd.ntmps11
      go_wp2_with fail
      all_goals refine bodyPost_ret (v := .agg #[.int .i64 5, .int .i64 at', .int .u32 old, .int .u32 v]) (by simp [results, Tryd.results11, go_sem]) rfl ⟨rfl, ((Below.refl _ _).alloc (Nat.le_refl _) _).alloc (by simp) _⟩
    · have h1 : 4 < K := by omega
      clear h
      go_enter Tryd.func11, Tryd.ntmps11
      go_wp2_with fail
      all_goals refine bodyPost_ret (v := .agg #[.int .i64 5, .int .i64 at', .int .u32 old, .int .u32 v]) (by simp [results, Tryd.results11, go_sem]) rfl ⟨rfl, ((Below.refl _ _).alloc (Nat.le_refl _) _).alloc (by simp) _⟩

set_option maxHeartbeats 2000000 in
set_option maxRecDepth 100000 in
theorem does0_yes (old v : Int) (i g b n : Nat) (f : Nat → Int) (c : Int) (w : World) (hG : GOk w) (hM : MemAt w g b n f c) (hn : n ≤ 4096) (ha : i < n) (hc : 0 ≤ c ∧ c ≤ 1000) :
    Calls Tryd.prog 12 #[.pointer (some ⟨g, 0, none⟩), xV 0 i old v] w fun e w' => e = .returned (.tuple #[.int .u32 (ansK 0 old (f i)), .int .i64 0]) ∧ MemAt w' g b n (setF f i (afterS 0 old v (f i))) (c + 1) ∧ Else g b w w' := by
  unfold xV
  have hb : Below w.heap.size w (w.alloc (.cells #[.int .i64 0, .int .i64 i, .int .u32 old, .int .u32 v] 35)) := (Below.refl _ _).alloc (Nat.le_refl _) _
  have HA := Lib.hid (load_yes  i g b n f c _ (hG.keep hb) (hM.keep hb) hn ha hc)
  have HB := Lib.hid hb
  simp only [ansK]
  clear hG hM hn ha hc hb
  go_enter Tryd.func12, Tryd.ntmps12
  go_wp2_with fail
  with_reducible refine HA.out.mono ?_
  rintro e w1 ⟨rfl, hM1, hE1⟩
  have HM1 := Lib.hid hM1
  have HE1 := Lib.hid ((Else.of_below HB.out).trans hE1)
  clear hM1 hE1
  go_wp2_with fail
  go_ret2
  exact ⟨rfl, HM1.out, HE1.out⟩
set_option maxHeartbeats 2000000 in
set_option maxRecDepth 100000 in
theorem does0_no (old v at' : Int) (g b n : Nat) (f : Nat → Int) (c : Int) (w : World) (hG : GOk w) (hM : MemAt w g b n f c) (hn : n ≤ 4096) (ha : ¬ (0 ≤ at' ∧ at' < n)) :
    Calls Tryd.prog 12 #[.pointer (some ⟨g, 0, none⟩), xV 0 at' old v] w fun e w' => e = .returned (.tuple #[.int .u32 0, .int .i64 81]) ∧ Below w.heap.size w w' := by
  unfold xV
  have hb : Below w.heap.size w (w.alloc (.cells #[.int .i64 0, .int .i64 at', .int .u32 old, .int .u32 v] 35)) := (Below.refl _ _).alloc (Nat.le_refl _) _
  have HA := Lib.hid (load_no  at' g b n f c _ (hG.keep hb) (hM.keep hb) hn ha)
  have HB := Lib.hid hb
  clear hG hM hn ha hb
  go_enter Tryd.func12, Tryd.ntmps12
  go_wp2_with fail
  with_reducible refine HA.out.mono ?_
  rintro e w1 ⟨rfl, hB1⟩
  have HB1 := Lib.hid (below_two HB.out hB1)
  clear hB1
  go_wp2_with fail
  go_ret2
  exact ⟨rfl, HB1.out⟩

set_option maxHeartbeats 2000000 in
set_option maxRecDepth 100000 in
theorem does1_yes (old v : Int) (i g b n : Nat) (f : Nat → Int) (c : Int) (w : World) (hG : GOk w) (hM : MemAt w g b n f c) (hn : n ≤ 4096) (ha : i < n) (hc : 0 ≤ c ∧ c ≤ 1000) :
    Calls Tryd.prog 12 #[.pointer (some ⟨g, 0, none⟩), xV 1 i old v] w fun e w' => e = .returned (.tuple #[.int .u32 (ansK 1 old (f i)), .int .i64 0]) ∧ MemAt w' g b n (setF f i (afterS 1 old v (f i))) (c + 1) ∧ Else g b w w' := by
  unfold xV
  have hb : Below w.heap.size w (w.alloc (.cells #[.int .i64 1, .int .i64 i, .int .u32 old, .int .u32 v] 35)) := (Below.refl _ _).alloc (Nat.le_refl _) _
  have HA := Lib.hid (store_yes v i g b n f c _ (hG.keep hb) (hM.keep hb) hn ha hc)
  have HB := Lib.hid hb
  simp only [ansK]
  clear hG hM hn ha hc hb
  go_enter Tryd.func12, Tryd.ntmps12
  go_wp2_with fail
  with_reducible refine HA.out.mono ?_
  rintro e w1 ⟨rfl, hM1, hE1⟩
  have HM1 := Lib.hid hM1
  have HE1 := Lib.hid ((Else.of_below HB.out).trans hE1)
  clear hM1 hE1
  go_wp2_with fail
  go_ret2
  exact ⟨rfl, HM1.out, HE1.out⟩
set_option maxHeartbeats 2000000 in
set_option maxRecDepth 100000 in
theorem does1_no (old v at' : Int) (g b n : Nat) (f : Nat → Int) (c : Int) (w : World) (hG : GOk w) (hM : MemAt w g b n f c) (hn : n ≤ 4096) (ha : ¬ (0 ≤ at' ∧ at' < n)) :
    Calls Tryd.prog 12 #[.pointer (some ⟨g, 0, none⟩), xV 1 at' old v] w fun e w' => e = .returned (.tuple #[.int .u32 0, .int .i64 81]) ∧ Below w.heap.size w w' := by
  unfold xV
  have hb : Below w.heap.size w (w.alloc (.cells #[.int .i64 1, .int .i64 at', .int .u32 old, .int .u32 v] 35)) := (Below.refl _ _).alloc (Nat.le_refl _) _
  have HA := Lib.hid (store_no v at' g b n f c _ (hG.keep hb) (hM.keep hb) hn ha)
  have HB := Lib.hid hb
  clear hG hM hn ha hb
  go_enter Tryd.func12, Tryd.ntmps12
  go_wp2_with fail
  with_reducible refine HA.out.mono ?_
  rintro e w1 ⟨rfl, hB1⟩
  have HB1 := Lib.hid (below_two HB.out hB1)
  clear hB1
  go_wp2_with fail
  go_ret2
  exact ⟨rfl, HB1.out⟩

set_option maxHeartbeats 2000000 in
set_option maxRecDepth 100000 in
theorem does2_yes (old v : Int) (i g b n : Nat) (f : Nat → Int) (c : Int) (w : World) (hG : GOk w) (hM : MemAt w g b n f c) (hn : n ≤ 4096) (ha : i < n) (hc : 0 ≤ c ∧ c ≤ 1000) :
    Calls Tryd.prog 12 #[.pointer (some ⟨g, 0, none⟩), xV 2 i old v] w fun e w' => e = .returned (.tuple #[.int .u32 (ansK 2 old (f i)), .int .i64 0]) ∧ MemAt w' g b n (setF f i (afterS 2 old v (f i))) (c + 1) ∧ Else g b w w' := by
  unfold xV
  have hb : Below w.heap.size w (w.alloc (.cells #[.int .i64 2, .int .i64 i, .int .u32 old, .int .u32 v] 35)) := (Below.refl _ _).alloc (Nat.le_refl _) _
  have HA := Lib.hid (swap_yes old v i g b n f c _ (hG.keep hb) (hM.keep hb) hn ha hc)
  have HB := Lib.hid hb
  simp only [ansK]
  clear hG hM hn ha hc hb
  go_enter Tryd.func12, Tryd.ntmps12
  go_wp2_with fail
  with_reducible refine HA.out.mono ?_
  rintro e w1 ⟨rfl, hM1, hE1⟩
  have HM1 := Lib.hid hM1
  have HE1 := Lib.hid ((Else.of_below HB.out).trans hE1)
  clear hM1 hE1
  by_cases e : f i = old
  · go_wp2_with fail
    go_ret2
    have hm := HM1.out
    rw [e] at hm
    exact ⟨rfl, hm, HE1.out⟩
  · go_wp2_with fail
    go_ret2
    exact ⟨rfl, HM1.out, HE1.out⟩
set_option maxHeartbeats 2000000 in
set_option maxRecDepth 100000 in
theorem does2_no (old v at' : Int) (g b n : Nat) (f : Nat → Int) (c : Int) (w : World) (hG : GOk w) (hM : MemAt w g b n f c) (hn : n ≤ 4096) (ha : ¬ (0 ≤ at' ∧ at' < n)) :
    Calls Tryd.prog 12 #[.pointer (some ⟨g, 0, none⟩), xV 2 at' old v] w fun e w' => e = .returned (.tuple #[.int .u32 0, .int .i64 81]) ∧ Below w.heap.size w w' := by
  unfold xV
  have hb : Below w.heap.size w (w.alloc (.cells #[.int .i64 2, .int .i64 at', .int .u32 old, .int .u32 v] 35)) := (Below.refl _ _).alloc (Nat.le_refl _) _
  have HA := Lib.hid (swap_no old v at' g b n f c _ (hG.keep hb) (hM.keep hb) hn ha)
  have HB := Lib.hid hb
  clear hG hM hn ha hb
  go_enter Tryd.func12, Tryd.ntmps12
  go_wp2_with fail
  with_reducible refine HA.out.mono ?_
  rintro e w1 ⟨rfl, hB1⟩
  have HB1 := Lib.hid (below_two HB.out hB1)
  clear hB1
  go_wp2_with fail
  go_ret2
  exact ⟨rfl, HB1.out⟩

set_option maxHeartbeats 2000000 in
set_option maxRecDepth 100000 in
theorem does3_yes (old v : Int) (i g b n : Nat) (f : Nat → Int) (c : Int) (w : World) (hG : GOk w) (hM : MemAt w g b n f c) (hn : n ≤ 4096) (ha : i < n) (hc : 0 ≤ c ∧ c ≤ 1000) :
    Calls Tryd.prog 12 #[.pointer (some ⟨g, 0, none⟩), xV 3 i old v] w fun e w' => e = .returned (.tuple #[.int .u32 (ansK 3 old (f i)), .int .i64 0]) ∧ MemAt w' g b n (setF f i (afterS 3 old v (f i))) (c + 1) ∧ Else g b w w' := by
  unfold xV
  have hb : Below w.heap.size w (w.alloc (.cells #[.int .i64 3, .int .i64 i, .int .u32 old, .int .u32 v] 35)) := (Below.refl _ _).alloc (Nat.le_refl _) _
  have HA := Lib.hid (add_yes v i g b n f c _ (hG.keep hb) (hM.keep hb) hn ha hc)
  have HB := Lib.hid hb
  simp only [ansK]
  clear hG hM hn ha hc hb
  go_enter Tryd.func12, Tryd.ntmps12
  go_wp2_with fail
  with_reducible refine HA.out.mono ?_
  rintro e w1 ⟨rfl, hM1, hE1⟩
  have HM1 := Lib.hid hM1
  have HE1 := Lib.hid ((Else.of_below HB.out).trans hE1)
  clear hM1 hE1
  go_wp2_with fail
  go_ret2
  exact ⟨rfl, HM1.out, HE1.out⟩
set_option maxHeartbeats 2000000 in
set_option maxRecDepth 100000 in
theorem does3_no (old v at' : Int) (g b n : Nat) (f : Nat → Int) (c : Int) (w : World) (hG : GOk w) (hM : MemAt w g b n f c) (hn : n ≤ 4096) (ha : ¬ (0 ≤ at' ∧ at' < n)) :
    Calls Tryd.prog 12 #[.pointer (some ⟨g, 0, none⟩), xV 3 at' old v] w fun e w' => e = .returned (.tuple #[.int .u32 0, .int .i64 81]) ∧ Below w.heap.size w w' := by
  unfold xV
  have hb : Below w.heap.size w (w.alloc (.cells #[.int .i64 3, .int .i64 at', .int .u32 old, .int .u32 v] 35)) := (Below.refl _ _).alloc (Nat.le_refl _) _
  have HA := Lib.hid (add_no v at' g b n f c _ (hG.keep hb) (hM.keep hb) hn ha)
  have HB := Lib.hid hb
  clear hG hM hn ha hb
  go_enter Tryd.func12, Tryd.ntmps12
  go_wp2_with fail
  with_reducible refine HA.out.mono ?_
  rintro e w1 ⟨rfl, hB1⟩
  have HB1 := Lib.hid (below_two HB.out hB1)
  clear hB1
  go_wp2_with fail
  go_ret2
  exact ⟨rfl, HB1.out⟩

set_option maxHeartbeats 2000000 in
set_option maxRecDepth 100000 in
theorem does4_yes (old v : Int) (i g b n : Nat) (f : Nat → Int) (c : Int) (w : World) (hG : GOk w) (hM : MemAt w g b n f c) (hn : n ≤ 4096) (ha : i < n) (hc : 0 ≤ c ∧ c ≤ 1000) :
    Calls Tryd.prog 12 #[.pointer (some ⟨g, 0, none⟩), xV 4 i old v] w fun e w' => e = .returned (.tuple #[.int .u32 (ansK 4 old (f i)), .int .i64 0]) ∧ MemAt w' g b n (setF f i (afterS 4 old v (f i))) (c + 1) ∧ Else g b w w' := by
  unfold xV
  have hb : Below w.heap.size w (w.alloc (.cells #[.int .i64 4, .int .i64 i, .int .u32 old, .int .u32 v] 35)) := (Below.refl _ _).alloc (Nat.le_refl _) _
  have HA := Lib.hid (or_yes v i g b n f c _ (hG.keep hb) (hM.keep hb) hn ha hc)
  have HB := Lib.hid hb
  simp only [ansK]
  clear hG hM hn ha hc hb
  go_enter Tryd.func12, Tryd.ntmps12
  go_wp2_with fail
  with_reducible refine HA.out.mono ?_
  rintro e w1 ⟨rfl, hM1, hE1⟩
  have HM1 := Lib.hid hM1
  have HE1 := Lib.hid ((Else.of_below HB.out).trans hE1)
  clear hM1 hE1
  go_wp2_with fail
  go_ret2
  exact ⟨rfl, HM1.out, HE1.out⟩
set_option maxHeartbeats 2000000 in
set_option maxRecDepth 100000 in
theorem does4_no (old v at' : Int) (g b n : Nat) (f : Nat → Int) (c : Int) (w : World) (hG : GOk w) (hM : MemAt w g b n f c) (hn : n ≤ 4096) (ha : ¬ (0 ≤ at' ∧ at' < n)) :
    Calls Tryd.prog 12 #[.pointer (some ⟨g, 0, none⟩), xV 4 at' old v] w fun e w' => e = .returned (.tuple #[.int .u32 0, .int .i64 81]) ∧ Below w.heap.size w w' := by
  unfold xV
  have hb : Below w.heap.size w (w.alloc (.cells #[.int .i64 4, .int .i64 at', .int .u32 old, .int .u32 v] 35)) := (Below.refl _ _).alloc (Nat.le_refl _) _
  have HA := Lib.hid (or_no v at' g b n f c _ (hG.keep hb) (hM.keep hb) hn ha)
  have HB := Lib.hid hb
  clear hG hM hn ha hb
  go_enter Tryd.func12, Tryd.ntmps12
  go_wp2_with fail
  with_reducible refine HA.out.mono ?_
  rintro e w1 ⟨rfl, hB1⟩
  have HB1 := Lib.hid (below_two HB.out hB1)
  clear hB1
  go_wp2_with fail
  go_ret2
  exact ⟨rfl, HB1.out⟩

set_option maxHeartbeats 2000000 in
set_option maxRecDepth 100000 in
theorem does5_yes (old v : Int) (i g b n : Nat) (f : Nat → Int) (c : Int) (w : World) (hG : GOk w) (hM : MemAt w g b n f c) (hn : n ≤ 4096) (ha : i < n) (hc : 0 ≤ c ∧ c ≤ 1000) :
    Calls Tryd.prog 12 #[.pointer (some ⟨g, 0, none⟩), xV 5 i old v] w fun e w' => e = .returned (.tuple #[.int .u32 (ansK 5 old (f i)), .int .i64 0]) ∧ MemAt w' g b n (setF f i (afterS 5 old v (f i))) (c + 1) ∧ Else g b w w' := by
  unfold xV
  have hb : Below w.heap.size w (w.alloc (.cells #[.int .i64 5, .int .i64 i, .int .u32 old, .int .u32 v] 35)) := (Below.refl _ _).alloc (Nat.le_refl _) _
  have HA := Lib.hid (take_yes  i g b n f c _ (hG.keep hb) (hM.keep hb) hn ha hc)
  have HB := Lib.hid hb
  simp only [ansK]
  clear hG hM hn ha hc hb
  go_enter Tryd.func12, Tryd.ntmps12
  go_wp2_with fail
  with_reducible refine HA.out.mono ?_
  rintro e w1 ⟨rfl, hM1, hE1⟩
  have HM1 := Lib.hid hM1
  have HE1 := Lib.hid ((Else.of_below HB.out).trans hE1)
  clear hM1 hE1
  go_wp2_with fail
  go_ret2
  exact ⟨rfl, HM1.out, HE1.out⟩
set_option maxHeartbeats 2000000 in
set_option maxRecDepth 100000 in
theorem does5_no (old v at' : Int) (g b n : Nat) (f : Nat → Int) (c : Int) (w : World) (hG : GOk w) (hM : MemAt w g b n f c) (hn : n ≤ 4096) (ha : ¬ (0 ≤ at' ∧ at' < n)) :
    Calls Tryd.prog 12 #[.pointer (some ⟨g, 0, none⟩), xV 5 at' old v] w fun e w' => e = .returned (.tuple #[.int .u32 0, .int .i64 81]) ∧ Below w.heap.size w w' := by
  unfold xV
  have hb : Below w.heap.size w (w.alloc (.cells #[.int .i64 5, .int .i64 at', .int .u32 old, .int .u32 v] 35)) := (Below.refl _ _).alloc (Nat.le_refl _) _
  have HA := Lib.hid (take_no  at' g b n f c _ (hG.keep hb) (hM.keep hb) hn ha)
  have HB := Lib.hid hb
  clear hG hM hn ha hb
  go_enter Tryd.func12, Tryd.ntmps12
  go_wp2_with fail
  with_reducible refine HA.out.mono ?_
  rintro e w1 ⟨rfl, hB1⟩
  have HB1 := Lib.hid (below_two HB.out hB1)
  clear hB1
  go_wp2_with fail
  go_ret2
  exact ⟨rfl, HB1.out⟩

/-- A use as the law names it, done to a memory. -/
theorem does_any (K : Nat) (at' old v : Int) (g b n : Nat) (f : Nat → Int) (c : Int) (w : World) (hK : K ≤ 5) (hG : GOk w) (hM : MemAt w g b n f c) (hn : n ≤ 4096) (hc : 0 ≤ c ∧ c ≤ 1000) :
    Calls Tryd.prog 12 #[.pointer (some ⟨g, 0, none⟩), xV K at' old v] w fun e w' => e = .returned (.tuple #[.int .u32 (ansS K at' old n f), .int .i64 (errS n at')]) ∧ MemAt w' g b n (stepF K at' old v n f) (stepC n at' c) ∧ Else g b w w' := by
  unfold ansS errS stepF stepC inN
  by_cases h : 0 ≤ at' ∧ at' < n
  · simp only [h, and_self, decide_true, if_true]
    obtain ⟨i, rfl⟩ := Int.eq_ofNat_of_zero_le h.1
    rw [show ((i : Int)).toNat = i by omega]
    have hi : i < n := by omega
    match K, hK with
    | 0, _ => exact does0_yes old v i g b n f c w hG hM hn hi hc
    | 1, _ => exact does1_yes old v i g b n f c w hG hM hn hi hc
    | 2, _ => exact does2_yes old v i g b n f c w hG hM hn hi hc
    | 3, _ => exact does3_yes old v i g b n f c w hG hM hn hi hc
    | 4, _ => exact does4_yes old v i g b n f c w hG hM hn hi hc
    | 5, _ => exact does5_yes old v i g b n f c w hG hM hn hi hc
  · simp only [h, decide_false, if_false, Bool.false_eq_true]
    have fin : ∀ {e w'}, (e = Ending.returned (.tuple #[.int .u32 0, .int .i64 81]) ∧ Below w.heap.size w w') → e = Ending.returned (.tuple #[.int .u32 0, .int .i64 81]) ∧ MemAt w' g b n f c ∧ Else g b w w' := fun ⟨e, hB⟩ => ⟨e, hM.keep hB, Else.of_below hB⟩
    match K, hK with
    | 0, _ => exact (does0_no old v at' g b n f c w hG hM hn h).mono fun _ _ => fin
    | 1, _ => exact (does1_no old v at' g b n f c w hG hM hn h).mono fun _ _ => fin
    | 2, _ => exact (does2_no old v at' g b n f c w hG hM hn h).mono fun _ _ => fin
    | 3, _ => exact (does3_no old v at' g b n f c w hG hM hn h).mono fun _ _ => fin
    | 4, _ => exact (does4_no old v at' g b n f c w hG hM hn h).mono fun _ _ => fin
    | 5, _ => exact (does5_no old v at' g b n f c w hG hM hn h).mono fun _ _ => fin
end Go.Proofs.YtdicmalfnfpmmaaDoor
