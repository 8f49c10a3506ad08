/-
  find and without of the document's.
-/
import Derived.Test.YtagfhlnedaagbaaDocM
namespace Go.Proofs.Ytagfhlnedaagbaa
open Go.RowKit

/-- Where one waits. -/
def FndR (l : List DW) (id z : Int) : Prop := (z = -1 ∧ ∀ i, i < l.length → (l.getD i d0).1 ≠ id) ∨ ∃ i : Nat, z = i ∧ i < l.length ∧ (l.getD i d0).1 = id ∧ ∀ j, j < i → (l.getD j d0).1 ≠ id
theorem find_any (A : Option Addr) (c : Nat) (l : List DW) (id : Int) (w : World) (hA : DAt w A l) (hn : l.length ≤ 100000) :
    Calls Try.prog 34 #[.slice A l.length c, nV id] w fun e w' => ∃ z, e = .returned (nV z) ∧ FndR l id z ∧ w = w' := by
  obtain ⟨n, hnn⟩ : ∃ n, n = l.length := ⟨_, rfl⟩
  rw [← hnn]
  rw [← hnn] at hn
  have HA := Lib.hid hA
  have HN := Lib.hid hnn
  clear hA hnn
  go_enter Try.func34, Try.ntmps34
  go_wp2_with fail
  go_loop [5] (fun i => ∃ k : Nat, k ≤ n ∧ i = .int .i64 k ∧ Hid (∀ j, j < k → (l.getD j d0).1 ≠ id)) (fun i => n - (intOf i).toNat)
  case atStart => exact ⟨0, Nat.zero_le _, rfl, fun j hj => absurd hj (Nat.not_lt_zero _)⟩
  case round =>
    obtain ⟨k, hk, rfl, HI⟩ := hrel
    by_cases hlt : k < n
    · obtain ⟨b, o, rfl, c0, _, _⟩ := HA.out.get (i := k) (by rw [← HN.out]; exact hlt)
      obtain ⟨y, hy⟩ : ∃ y, y = (l.getD k d0).1 := ⟨_, rfl⟩
      rw [← hy] at c0
      have HY := Lib.hid hy
      have i0 : (0 : Int) ≤ (k : Int) := Int.natCast_nonneg _
      have i1 : (k : Int) < (n : Int) := by omega
      clear hy
      by_cases hyi : y = id
      · have HF : Hid (FndR l id k) := .inr ⟨k, rfl, by rw [← HN.out]; exact hlt, by rw [← HY.out]; exact hyi, HI⟩
        clear HI HY
        go_wp2_with fail
        go_ret
        exact ⟨k, rfl, HF, rfl⟩
      · go_wp2_with fail
        go_round
        case rel => exact ⟨k + 1, by omega, by go_num, fun j hj => by
          rcases Nat.lt_or_ge j k with h | h
          · exact HI j h
          · obtain rfl : j = k := by omega
            rw [← HY.out]; exact hyi⟩
        case measure => first | (simp [intOf]; done) | (simp [intOf]; omega)
    · obtain rfl : k = n := by omega
      have HF : Hid (FndR l id (-1)) := .inl ⟨rfl, fun j hj => HI j (by rw [HN.out]; exact hj)⟩
      clear HI
      go_wp2_with fail
      go_ret
      exact ⟨-1, rfl, HF, rfl⟩
/-- A list of waiters that a call has made. -/
def FreshD (l : List DW) (w : World) (e : Ending) (w' : World) : Prop := ∃ v', e = .returned v' ∧ DR w.heap.size w' v' l ∧ Below w.heap.size w w'
def outD (l : List DW) (i : Nat) : List DW := l.take i ++ l.drop (i + 1)
set_option maxRecDepth 100000 in
/-- At a step of a region that draws its order. -/
theorem step_spreadD {ops : Array Oper} {o : Oper} {a : Act} {K : Act → World → Prop} {Q : Exit → Act → World → Prop} {E : Prop} (hgd : o.guard = Option.none) (s x : Operand)
    (ho : o.op = .call { callee := .builtin .append, args := #[s, x], argTypes := #[25, 25] }) {H : Nat} {w : World} {v : Value} {l r : List DW} {A : Option Addr} {m c : Nat} (h : DR H w v l) (hr : DAt w A r) (hm : m = r.length) (hc : A ≠ none) (hk : l.length ≤ 100000) (hk2 : r.length ≤ 100000)
    (hs : a.eval s = v) (hx : a.eval x = .slice A m c) (hH : H ≤ w.heap.size)
    (hQ : ∀ v' w2, DR H w2 v' (l ++ r) → Chg (fun x => v.ownBlock = some x) w w2 → K (a.put o.dst v') w2) :
    if Region.wanted o (yielded ops a.tmps) = true then Oper.wp Try.prog o a w K Q else E := by
  subst hm
  obtain ⟨i0, hi, hz0, hz1, hz2⟩ := info_dw
  have hw : Region.wanted o (yielded ops a.tmps) = true := by simp [Region.wanted, hgd]
  rw [if_pos hw]
  cases A with
  | none => exact absurd rfl hc
  | some ad =>
    refine wp_append_own w s x 25 ho H 61 i0 _ 3 24 Try.underlying25 hi hz0 hz1 hz2 rfl (by decide) v l.length (l.flatMap dC) hs h ad r.length c (r.flatMap dC) hx (flatD_len r) hr.news (one_flatD r) (by unfold maxLen; omega) (by omega) hH ?_
    intro v' w2 hown hgrow _
    have hD : DR H w2 v' (l ++ r) := by unfold DR; rw [List.length_append, List.flatMap_append]; exact hown
    exact hQ v' w2 hD ⟨hgrow.os, hgrow.tape, hgrow.output, hgrow.size, fun x hx hn => hgrow.block x hx (fun e => hn e.symm)⟩
set_option maxRecDepth 100000 in
set_option maxHeartbeats 2000000 in
theorem without_any (A : Option Addr) (c : Nat) (l : List DW) (i : Nat) (w : World) (hA : DAt w A l) (hc : l.length ≤ c) (hi : i < l.length) (hn : l.length ≤ 100000) :
    Calls Try.prog 35 #[.slice A l.length c, nV i] w fun e w' => FreshD (outD l i) w e w' := by
  obtain ⟨b, o, rfl, _⟩ := hA.get hi
  go_enter Try.func35, Try.ntmps35
  have i0 : (0 : Int) ≤ (i : Int) := Int.natCast_nonneg _
  have i1 : (i : Int) < (l.length : Int) := by omega
  have i2 : (i : Int) ≤ (c : Int) := by omega
  have i3 : (i : Int) + 1 ≤ (l.length : Int) := by omega
  have i4 : (0 : Int) ≤ (i : Int) + 1 := by omega
  have j1 : IntKind.i64.wrap ((i : Int) + 1) = (i : Int) + 1 := by rw [IntKind.wrap_i64]; omega
  have hA1 : DAt w (some ⟨b, o, none⟩) (l.take i) := by
    have := hA.sub (k := 0) (m := i) (by omega)
    rw [Nat.zero_mul, Nat.add_zero, List.drop_zero] at this
    exact this
  have hA2 : DAt w (if c = i + 1 then some ⟨b, o, none⟩ else some ⟨b, o + (i + 1) * 3, none⟩) (l.drop (i + 1)) := by
    split
    · intro j hj
      simp only [List.length_drop] at hj
      omega
    have := hA.sub (k := i + 1) (m := l.length - (i + 1)) (by omega)
    rw [List.take_of_length_le (by simp)] at this
    exact this
  have h1l : i = (l.take i).length := by rw [List.length_take]; omega
  have h2l : l.length - (i + 1) = (l.drop (i + 1)).length := by rw [List.length_drop]
  have hB0 : Below w.heap.size w (w.drew.alloc (.cells #[] 61)) := (below_dn w 1).alloc (Nat.le_refl _) _
  have hL0 : DR w.heap.size (w.drew.alloc (.cells #[] 61)) (.slice (some ⟨w.heap.size, 0, none⟩) 0 0) [] := DR.lit w.drew (Nat.le_refl _)
  have HA1 := Lib.hid (hA1.keep hB0)
  have HA2 := Lib.hid (fun W (hB : Below w.heap.size w W) => hA2.keep hB)
  have HL1 := Lib.hid h1l
  have HL2 := Lib.hid h2l
  have HL0 := Lib.hid hL0
  have HB0 := Lib.hid hB0
  have HN := Lib.hid hn
  clear hA hA1 hA2 h1l h2l hL0 hB0
  go_wp2_with fail
  go_region_law ((first
    | (refine step_spreadD rfl _ _ rfl HL0.out HA1.out HL1.out (by simp) (by simp) (by have := HL1.out; omega) rfl rfl (by simp) ?_; intro v1 w3 hD1 hC1)
    | (refine step_spreadD rfl _ _ rfl hD1 (HA2.out _ (HB0.out.trans (Chg.below hC1 (fun k hk => by have e : some w.heap.size = some k := hk; injection e with e; omega) (by simp)))) HL2.out (by split <;> simp) (by have := HL1.out; simp; omega) (by have := HL2.out; omega) rfl rfl (by have := hC1.size; simp at this; omega) ?_; intro v2 w4 hD2 hC2)))
  all_goals have hb1 := HB0.out.trans (Chg.below (n := w.heap.size) hC1 (fun k hk => by have e : some w.heap.size = some k := hk; injection e with e; omega) (by simp))
  all_goals have hb2 := hb1.trans (Chg.below (n := w.heap.size) hC2 (fun k hk => hD1.ge hk) hb1.size)
  all_goals have HF : Hid (FreshD (outD l i) w (.returned v2) w4) := ⟨v2, rfl, by rw [List.nil_append] at hD2; exact hD2, hb2⟩
  all_goals clear hb1 hb2 hD1 hD2 hC1 hC2 HL0 HB0 HA1 HA2 HL1 HL2
  all_goals go_wp2_with fail
  all_goals go_ret
  all_goals exact HF.out
end Go.Proofs.Ytagfhlnedaagbaa
