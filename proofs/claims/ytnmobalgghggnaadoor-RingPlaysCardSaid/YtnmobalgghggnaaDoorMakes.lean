/-
  A ring's sender and receiver are made, or it is said why not.
-/
import Derived.Test.YtnmobalgghggnaaDoorRefWords
import Derived.Test.YtnmobalgghggnaaDoorLaw
import Derived.Test.YtnmobalgghggnaaDoorOpenX
import Derived.Laws.AppendOwn
import Derived.Laws.AppendOwnNone
namespace Go.Proofs.YtnmobalgghggnaaDoor
open Go.RowKit

theorem strs_own {w : World} {b : Nat} {v : Value} {L : List ByteArray} (h : w.ownsRow b 9 1 v L.length (L.map Value.string)) : ∃ A cap, v = .slice A L.length cap ∧ Strs w.heap.size w A L := by
  rcases h.2 with ⟨rfl, h0⟩ | ⟨g, cap, cur, rfl, hg, _, _, _, _, _⟩
  · have : L = [] := by simpa using h0
    subst this
    exact ⟨none, 0, rfl, fun i hi => absurd hi (Nat.not_lt_zero _)⟩
  · refine ⟨_, cap, rfl, fun i hi => ⟨g, 0, rfl, (World.ownsRow.lt h g rfl).2, ?_⟩⟩
    rw [Nat.zero_add, World.ownsRow.cellAt h i (by omega), List.getElem?_map, List.getElem?_eq_getElem hi]
    rfl
set_option maxRecDepth 100000 in
/-- The append of all messages to an empty list. -/
theorem wpList_append_msgs {ops : Array Oper} {rest : List Oper} {o : Oper} {a : Act} {Q : Exit → Act → World → Prop} (hgd : o.guard = none) (s x : Operand)
    (ho : o.op = .call { callee := .builtin .append, args := #[s, x], argTypes := #[24, 24] }) {w : World} {H cp : Nat} {P : Option Addr} {L : List ByteArray} (hP : Strs H w P L) (hnil : P = none → cp = 0) (hL : L.length ≤ 1000)
    (hs : a.eval s = .slice (some ⟨w.heap.size, 0, none⟩) 0 0) (hx : a.eval x = .slice P L.length cp)
    (hQ : ∀ A' cap' w2, Strs w2.heap.size w2 A' L → Below w.heap.size w w2 → wpList Tryd.prog ops Q rest (a.put o.dst (.slice A' L.length cap')) w2) :
    wpList Tryd.prog ops Q (o :: rest) a (w.alloc (.cells #[] 9)) := by
  obtain ⟨i0, hi, hz0, hz1, hz2⟩ := info_parts info9
  have hA : Below w.heap.size w (w.alloc (.cells #[] 9)) := (Below.refl _ _).alloc (Nat.le_refl _) _
  have hown : (w.alloc (.cells #[] 9)).ownsRow w.heap.size 9 1 (.slice (some ⟨w.heap.size, 0, none⟩) 0 0) 0 [] := World.ownsRow_lit w #[] 0 (Nat.le_refl _) (by decide) rfl
  cases P with
  | none =>
    obtain rfl : cp = 0 := hnil rfl
    have hL0 : L = [] := by
      rcases Nat.eq_zero_or_pos L.length with h | h
      · exact List.length_eq_zero_iff.1 h
      · obtain ⟨_, _, e, _⟩ := hP 0 h; cases e
    subst hL0
    refine wpList_append_own_none hgd s x 24 ho w.heap.size 9 i0 1 Tryd.underlying24 hi _ 0 [] hs hown hx ?_
    exact hQ _ _ _ (fun i hi => absurd hi (Nat.not_lt_zero _)) hA
  | some ad =>
    refine wpList_append_own _ hgd s x 24 ho w.heap.size 9 i0 (.string ⟨#[]⟩) 1 16 Tryd.underlying24 hi hz0 hz1 hz2 rfl (by decide) _ 0 [] hs hown ad L.length cp (L.map Value.string) hx (by simp) ?_ ?_ (by unfold maxLen; omega) (by omega) (by simp) ?_
    · intro j u hu
      have hj : j < L.length := by have := (List.getElem?_eq_some_iff.1 hu).1; simpa using this
      obtain ⟨b, o', e, _, hc⟩ := hP j hj
      injection e with e
      subst e
      rw [List.getElem?_map, List.getElem?_eq_getElem hj] at hu
      injection hu with hu
      subst hu
      rw [Go.WideShapes.add_plain]
      exact kept hc hA
    · intro u hu
      obtain ⟨i, _, rfl⟩ := List.mem_map.1 hu
      rfl
    · intro v' w' hown' hgrow _
      have hO : w'.ownsRow w.heap.size 9 1 v' L.length (L.map Value.string) := by simpa using hown'
      obtain ⟨A', cap', rfl, hI⟩ := strs_own hO
      exact hQ A' cap' w' hI (hA.grown hgrow (by simp) (fun k hk => (World.ownsRow.lt hown k hk).1))
set_option maxRecDepth 100000 in
/-- The same at a step of a region that draws its order. -/
theorem step_append_msgs {ops : Array Oper} {o : Oper} {a : Act} {K : Act → World → Prop} {Q : Exit → Act → World → Prop} {E : Prop} (hgd : o.guard = none) (s x : Operand)
    (ho : o.op = .call { callee := .builtin .append, args := #[s, x], argTypes := #[24, 24] }) {w : World} {H cp G : Nat} {P : Option Addr} {L : List ByteArray} (hown : w.ownsRow G 9 1 (.slice (some ⟨G, 0, none⟩) 0 0) 0 []) (hG : G ≤ w.heap.size) (hP : Strs H w P L) (hnil : P = none → cp = 0) (hL : L.length ≤ 1000)
    (hs : a.eval s = .slice (some ⟨G, 0, none⟩) 0 0) (hx : a.eval x = .slice P L.length cp)
    (hQ : ∀ A' cap' w2, Strs w2.heap.size w2 A' L → Below G w w2 → K (a.put o.dst (.slice A' L.length cap')) w2) :
    if Region.wanted o (yielded ops a.tmps) = true then Oper.wp Tryd.prog o a w K Q else E := by
  obtain ⟨i0, hi, hz0, hz1, hz2⟩ := info_parts info9
  have hw : Region.wanted o (yielded ops a.tmps) = true := by simp [Region.wanted, hgd]
  rw [if_pos hw]
  cases P with
  | none =>
    obtain rfl : cp = 0 := hnil rfl
    have hL0 : L = [] := by
      rcases Nat.eq_zero_or_pos L.length with h | h
      · exact List.length_eq_zero_iff.1 h
      · obtain ⟨_, _, e, _⟩ := hP 0 h; cases e
    subst hL0
    have hrun := run_append_owned_none (P := Tryd.prog) (w := w) G 24 o.type 9 i0 1 Tryd.underlying24 hi _ 0 [] hown
    have hx : a.eval x = .slice none 0 0 := hx
    unfold Oper.wp
    simp [execOp, ho, resolve, invoke, builtin, hs, hx, hrun, Result.andThen]
    exact hQ _ _ _ (fun i hi => absurd hi (Nat.not_lt_zero _)) (Below.refl _ _)
  | some ad =>
    refine wp_append_own w s x 24 ho G 9 i0 (.string ⟨#[]⟩) 1 16 Tryd.underlying24 hi hz0 hz1 hz2 rfl (by decide) _ 0 [] hs hown ad L.length cp (L.map Value.string) hx (by simp) ?_ ?_ (by unfold maxLen; omega) (by omega) hG ?_
    · intro j u hu
      have hj : j < L.length := by have := (List.getElem?_eq_some_iff.1 hu).1; simpa using this
      obtain ⟨b, o', e, _, hc⟩ := hP j hj
      injection e with e
      subst e
      rw [List.getElem?_map, List.getElem?_eq_getElem hj] at hu
      injection hu with hu
      subst hu
      rw [Go.WideShapes.add_plain]
      exact hc
    · intro u hu
      obtain ⟨i, _, rfl⟩ := List.mem_map.1 hu
      rfl
    · intro v' w' hown' hgrow _
      have hO : w'.ownsRow G 9 1 v' L.length (L.map Value.string) := by simpa using hown'
      obtain ⟨A', cap', rfl, hI⟩ := strs_own hO
      exact hQ A' cap' w' hI ((Below.refl G w).grown hgrow hG (fun k hk => (World.ownsRow.lt hown k hk).1))
theorem sent0 {a : Int} {pl sz : Nat} {L : List ByteArray} {B LB q : Nat} {v : Value} {w : World} (h : SenderAt w B LB v q (sd0 a pl sz L)) : Calls Tryd.prog 14 #[.pointer (some ⟨B, 0, none⟩)] w fun e w' => TellP 4 [] w e w' :=
  sent_any B LB v q (sd0 a pl sz L) w h (Nat.zero_le _)
theorem got0 {a : Int} {pl sz t : Nat} {B q : Nat} {v : Value} {w : World} (h : ReceiverAt w B v q (rv0 a pl sz t)) : Calls Tryd.prog 15 #[.pointer (some ⟨B, 0, none⟩)] w fun e w' => TellP 9 [] w e w' :=
  got_any B v q (rv0 a pl sz t) w h (Nat.zero_le _)
theorem wordsE_zero {p z : Int} (h : wordsE p z = 0) : capP p = true ∧ 1 ≤ z ∧ z ≤ 32 := by
  unfold wordsE at h
  split at h
  · split at h
    · rename_i h1 h2; exact ⟨h1, h2⟩
    · omega
  · omega
section
open Go.ChangeShapes Go.WideShapes Go.ChangeAt Go.Deep
/-- A list that is nil has no room. -/
theorem nil_cap {H : Type} {en : TypeId × Value → H} {w : World} {base b0 : Nat} {sp : Nat → Bool} {r : Reach} {d : DataW H} {p : List MemPlace} {A : Option Addr} {n cap : Nat} (_ : Value.okWide Tryd.prog w r b0 24 (.slice A n cap)) (h : DataW.Trod en Tryd.prog w base sp true 24 (.slice A n cap) d p) : A = none → cap = 0 := fun e => by
  subst e
  obtain ⟨fuel, hf⟩ := h
  rcases open_slice Tryd.underlying24 hf with ⟨h1, _⟩ | ⟨a, len, c, m, n', D, Pl, h1, _⟩
  · simp [Value.cells] at h1
    exact h1.2
  · simp [Value.cells] at h1
end
end Go.Proofs.YtnmobalgghggnaaDoor
