/-
  Picks appended to an empty list; a play of what is no number of waiters; words that a barrier doesn't use.
-/
import Derived.Test.YtcjhbmkpfclmfaaDoorGood
import Derived.Test.YtcjhbmkpfclmfaaDoorOpenX
import Derived.Laws.AppendOwnNone
namespace Go.Proofs.YtcjhbmkpfclmfaaDoor
open Go.RowKit

set_option maxHeartbeats 2000000 in
set_option maxRecDepth 100000 in
theorem play_bad (g : Nat) (a n R : Int) (A : Option Addr) (L cap : Nat) (w : World) (h : ¬ (1 ≤ n ∧ n ≤ 8)) :
    Calls Tryd.prog 22 #[.pointer (some ⟨g, 0, none⟩), .int .i64 a, .int .i64 n, .int .i64 R, .slice A L cap] w fun e w' => e = .returned (.tuple #[.int .i64 0, .int .i64 110]) ∧ w = w' := by
  have HN := Lib.hid (new_bad a n R w h)
  clear h
  go_enter Tryd.func22, Tryd.ntmps22
  go_wp2_with fail
  with_reducible refine HN.out.mono ?_
  rintro e w1 ⟨rfl, rfl⟩
  go_wp2_with fail
  go_ret2
  exact ⟨rfl, rfl⟩
/-- Waiters of one barrier, and a word that it doesn't use. -/
structure Far (N A j : Nat) (v : Int) (s : Sy) : Prop where
  at0 : ∀ i, i < N → (s.l i).at' = A
  fj : s.f j = v
theorem Far.pick {N A j m : Nat} {v : Int} {s : Sy} (h : Far N A j v s) (h0 : j ≠ A) (h1 : j ≠ A + 1) {i : Nat} (hi : i < N) : Far N A j v (s.pick m i) := by
  have hat := h.at0 i hi
  by_cases hd : (s.l i).done = true
  · rw [pick_done hd]; exact h
  have hd : (s.l i).done = false := by simpa using hd
  rw [pick_go hd]
  refine ⟨fun k hk => ?_, ?_⟩
  · show (upd s.l i _ k).at' = A
    by_cases e : k = i
    · subst e
      rw [upd_same]
      unfold Tk.next
      split
      · exact hat
      · rw [go_at]; exact hat
    · rw [upd_other e]; exact h.at0 k hk
  · show upd s.f (s.l i).wh.toNat _ j = v
    have : j ≠ (s.l i).wh.toNat := by
      rcases wh_two (s.l i) A hat with ⟨e, _⟩ | ⟨e, _⟩ <;> rw [e] <;> omega
    rw [upd_other this]; exact h.fj
theorem Far.pickI {N A j m : Nat} {v : Int} {s : Sy} (h : Far N A j v s) (h0 : j ≠ A) (h1 : j ≠ A + 1) (i : Int) : Far N A j v (s.pickI m N i) := by
  unfold Sy.pickI
  split
  · rename_i hh
    have := isT_yes hh
    exact h.pick h0 h1 (by omega)
  · exact h
theorem Far.runI {N A j m : Nat} {v : Int} {s : Sy} (h : Far N A j v s) (h0 : j ≠ A) (h1 : j ≠ A + 1) (q : Nat → Int) : ∀ k, Far N A j v (s.runI m N q k)
  | 0 => h
  | k + 1 => (h.runI h0 h1 q k).pickI h0 h1 _
theorem Far.upTo {N A j m : Nat} {v : Int} {s : Sy} (h : Far N A j v s) (h0 : j ≠ A) (h1 : j ≠ A + 1) : ∀ k, k ≤ N → Far N A j v (s.upTo m k)
  | 0, _ => h
  | k + 1, hk => (h.upTo h0 h1 k (by omega)).pick h0 h1 (by omega)
theorem Far.rounds {N A j m : Nat} {v : Int} (h0 : j ≠ A) (h1 : j ≠ A + 1) : ∀ (k : Nat) {s : Sy}, Far N A j v s → Far N A j v (s.rounds m N k)
  | 0, _, h => h
  | k + 1, s, h => by
    simp only [Sy.rounds]
    split
    · exact h
    · exact Far.rounds h0 h1 k (h.upTo h0 h1 N (Nat.le_refl _))
theorem Twin.runI {N A A' m m' : Nat} {s s' : Sy} (h : Twin N A A' s s') (hA : A + 1 < m) (hA' : A' + 1 < m') (q : Nat → Int) : ∀ k, Twin N A A' (s.runI m N q k) (s'.runI m' N q k)
  | 0 => h
  | k + 1 => (h.runI hA hA' q k).pickI hA hA' _
/-- All that the law compares. -/
theorem runs_all (n : Nat) (R : Int) (q : Nat → Int) (L M : Nat) (hn : 1 ≤ n ∧ n ≤ 8) (hR : 0 ≤ R ∧ R ≤ 1000) (hM : (M : Int) = 10 * R + 10) :
    ((sy0 n 0 R).runI 2 n q L).count 2 n M = ((sy0 n 1 R).runI 3 n q L).count 3 n M ∧ (((sy0 n 1 R).runI 3 n q L).rounds 3 n M).f 0 = 0 ∧ (((sy0 n 1 R).runI 3 n q L).rounds 3 n M).f 1 = 0 ∧ (((sy0 n 1 R).runI 3 n q L).rounds 3 n M).f 2 = R % 2 := by
  obtain ⟨r, hG⟩ := (good0 (A := 1) hn hR).runI (m := 3) (by omega) q L
  have hF := (rounds_all (m := 3) (by omega) hG M (by omega)).2
  have h0 : Far n 1 0 0 (sy0 n 1 R) := ⟨fun _ _ => rfl, rfl⟩
  exact ⟨Twin.count (by omega) (by omega) M ((twin0 n 1 0 R).runI (by omega) (by omega) q L), (Far.rounds (by omega) (by omega) M (h0.runI (m := 3) (by omega) (by omega) q L)).fj, hF.f0, hF.f1⟩
theorem Ints.bound {S : Nat → Prop} {w : World} {A : Option Addr} {n : Nat} {q : Nat → Int} (h : Ints S w A n q) : Ints (fun x => S x ∨ w.heap.size ≤ x) w A n q := fun i hi => by
  obtain ⟨b, o, e, hs, hc⟩ := h i hi
  have := cell_lt hc
  exact ⟨b, o, e, fun x => x.elim hs fun y => by have h2 : b < w.heap.size := this; omega, hc⟩
/-- A copy of the picks. -/
theorem ints_own {S : Nat → Prop} {w : World} {base : Nat} {v : Value} {L : Nat} {q : Nat → Int} (h : w.ownsRow base 3 1 v L ((List.range L).map fun i => .int .i64 (q i))) (hS : ∀ x, S x → x < base) : ∃ A cap, v = .slice A L cap ∧ Ints S w A L q := by
  rcases h.2 with ⟨rfl, rfl⟩ | ⟨g, cap, cur, rfl, hg, _, _, _, _, _⟩
  · exact ⟨none, 0, rfl, fun i hi => absurd hi (by omega)⟩
  · refine ⟨_, cap, rfl, fun i hi => ⟨g, 0, rfl, fun hs => by have := hS g hs; omega, ?_⟩⟩
    rw [Nat.zero_add, World.ownsRow.cellAt h i (by omega), List.getElem?_map, List.getElem?_range hi]
    rfl
theorem info3 : (Tryd.prog.info? 3).map (fun i => (i.zero, i.size, i.bytes)) = some (some (.int .i64 0), 1, 8) := by kernel_rfl
/-- The append of the picks to an empty list. -/
theorem wpList_append_picks {ops : Array Oper} {rest : List Oper} {o : Oper} {a : Act} {Q : Exit → Act → World → Prop} (hgd : o.guard = none) (s x : Operand)
    (ho : o.op = .call { callee := .builtin .append, args := #[s, x], argTypes := #[25, 25] }) {w : World} {H L cp : Nat} {P : Option Addr} {q : Nat → Int} {S : Nat → Prop} (hP : ArgN .i64 H w P L q) (hnil : P = none → cp = 0) (hL : L ≤ 1000) (hS : ∀ x, S x → x < w.heap.size)
    (hs : a.eval s = .slice (some ⟨w.heap.size, 0, none⟩) 0 0) (hx : a.eval x = .slice P L cp)
    (hQ : ∀ A' cap' w2, Ints S w2 A' L q → Below w.heap.size w w2 → wpList Tryd.prog ops Q rest (a.put o.dst (.slice A' L cap')) w2) :
    wpList Tryd.prog ops Q (o :: rest) a (w.alloc (.cells #[] 3)) := by
  obtain ⟨i0, hi, hz0, hz1, hz2⟩ := info_parts info3
  have hA : Below w.heap.size w (w.alloc (.cells #[] 3)) := (Below.refl _ _).alloc (Nat.le_refl _) _
  have hown : (w.alloc (.cells #[] 3)).ownsRow w.heap.size 3 1 (.slice (some ⟨w.heap.size, 0, none⟩) 0 0) 0 [] := World.ownsRow_lit w #[] 0 (Nat.le_refl _) (by decide) rfl
  cases P with
  | none =>
    obtain rfl : cp = 0 := hnil rfl
    have hL0 : L = 0 := by
      rcases Nat.eq_zero_or_pos L with h | h
      · exact h
      · obtain ⟨_, _, e, _⟩ := hP 0 h; cases e
    subst hL0
    refine wpList_append_own_none hgd s x 25 ho w.heap.size 3 i0 1 Tryd.underlying25 hi _ 0 [] hs hown hx ?_
    exact hQ _ _ _ (fun i hi => absurd hi (by omega)) hA
  | some ad =>
    refine wpList_append_own _ hgd s x 25 ho w.heap.size 3 i0 (.int .i64 0) 1 8 Tryd.underlying25 hi hz0 hz1 hz2 rfl (by decide) _ 0 [] hs hown ad L cp ((List.range L).map fun i => .int .i64 (q i)) hx (by simp) ?_ ?_ (by unfold maxLen; omega) (by omega) (by simp) ?_
    · intro j u hu
      have hj : j < L := by have := (List.getElem?_eq_some_iff.1 hu).1; simpa using this
      obtain ⟨b, o', e, _, hc⟩ := hP j hj
      injection e with e
      subst e
      rw [List.getElem?_map, List.getElem?_range hj] at hu
      injection hu with hu
      subst hu
      rw [add_off]
      exact kept hc hA
    · intro u hu
      obtain ⟨i, _, rfl⟩ := List.mem_map.1 hu
      rfl
    · intro v' w' hown' hgrow _
      have hO : w'.ownsRow w.heap.size 3 1 v' L ((List.range L).map fun i => .int .i64 (q i)) := by simpa using hown'
      obtain ⟨A', cap', rfl, hI⟩ := ints_own hO hS
      exact hQ A' cap' w' hI (hA.grown hgrow (by simp) (fun k hk => (World.ownsRow.lt hown k hk).1))
section
open Go.ChangeShapes Go.WideShapes Go.ChangeAt Go.Deep
variable {H : Type} {en : TypeId × Value → H} {w : World} {base b0 : Nat} {sp : Nat → Bool} {r : Reach} {v : Value} {d : DataW H} {p : List MemPlace}
theorem ints0_arg (hv : Value.okWide Tryd.prog w r b0 25 v) (h : DataW.Trod en Tryd.prog w base sp true 25 v d p) (hs : ∀ k ∈ d.weights Tryd.prog 25, k ≤ reachBytes) : ∃ (A : Option Addr) (cap : Nat) (l : List Int), v = .slice A l.length cap ∧ (A = none → cap = 0) ∧ ArgN .i64 w.heap.size w A l.length (fun i => l.getD i 0) ∧ l.length ≤ 140737488355328 := by
  obtain ⟨a, len, cap, rfl⟩ := okWide_slice Tryd.underlying25 hv
  obtain ⟨fuel, hf⟩ := h
  obtain ⟨A, cap', l, e, _, h2, h3, _, h5⟩ := ints_of hf hs
  simp [Value.cells] at e
  obtain ⟨rfl, rfl, rfl⟩ := e
  exact ⟨_, _, l, rfl, h5, argN_of h2, h3.2⟩
end
end Go.Proofs.YtcjhbmkpfclmfaaDoor
