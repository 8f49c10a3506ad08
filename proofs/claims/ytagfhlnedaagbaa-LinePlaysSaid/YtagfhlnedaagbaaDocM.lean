/-
  The document's waiters in memory: rows of one's own, read and appended to.
-/
import Derived.Test.YtagfhlnedaagbaaOpenX
import Derived.Test.YtagfhlnedaagbaaListW
import Derived.Test.YtagfhlnedaagbaaDueB
namespace Go.Proofs.Ytagfhlnedaagbaa
open Go.RowKit

/-- A waiter of the document's: its number, its priority, its deadline. -/
abbrev DW := Int × Int × Int
def d0 : DW := (0, 0, 0)
def dC (y : DW) : List Value := [nV y.1, nV y.2.1, nV y.2.2]
theorem info_dw : ∃ i0, Try.prog.info? 61 = some i0 ∧ i0.zero = some (.agg #[.int .i64 0, .int .i64 0, .int .i64 0]) ∧ i0.size = 3 ∧ i0.bytes = 24 := by
  have h : (Try.prog.info? 61).map (fun i => (i.zero, i.size, i.bytes)) = some (some (.agg #[.int .i64 0, .int .i64 0, .int .i64 0]), 3, 24) := by kernel_rfl
  cases hq : Try.prog.info? 61 with
  | none => simp [hq] at h
  | some i =>
    simp [hq] at h
    exact ⟨i, rfl, h.1, h.2.1, h.2.2⟩
/-- A row of waiters of one's own, in no block below H. -/
def DR (H : Nat) (w : World) (v : Value) (l : List DW) : Prop := w.ownsRow H 61 3 v l.length (l.flatMap dC)
theorem flatD_len (l : List DW) : (l.flatMap dC).length = l.length * 3 := by
  induction l with
  | nil => rfl
  | cons a r ih => simp only [List.flatMap_cons, List.length_append, ih, List.length_cons]; simp only [dC, List.length_cons, List.length_nil]; omega
theorem flatD_at (l : List DW) : ∀ (i : Nat), i < l.length → ∀ j, j < 3 → (l.flatMap dC)[i * 3 + j]? = (dC (l.getD i d0))[j]? := by
  induction l with
  | nil => intro i h; simp at h
  | cons a r ih =>
    intro i h j hj
    rw [List.flatMap_cons]
    cases i with
    | zero =>
      rw [List.getElem?_append_left (by simp only [dC, List.length_cons, List.length_nil]; omega)]
      simp
    | succ i =>
      have := ih i (by simpa using h) j hj
      rw [List.getElem?_append_right (by simp only [dC, List.length_cons, List.length_nil]; omega)]
      have e : (i + 1) * 3 + j - (dC a).length = i * 3 + j := by simp only [dC, List.length_cons, List.length_nil]; omega
      rw [e, this]
      simp
/-- Waiters that can be read, from an address on. -/
def DAt (w : World) (A : Option Addr) (l : List DW) : Prop := Arr w A 3 l.length fun i => dC (l.getD i d0)
section
variable {H : Nat} {w w' : World} {v : Value} {l : List DW}
theorem DR.nil (H : Nat) (w : World) : DR H w (.slice none 0 0) [] := World.ownsRow_nil _ _ _ _
theorem DR.lit (w : World) (hH : H ≤ w.heap.size) : DR H (w.alloc (.cells #[] 61)) (.slice (some ⟨w.heap.size, 0, none⟩) 0 0) [] := World.ownsRow_lit (base := H) (size := 3) (e := 61) w #[] 0 hH (by decide) rfl
theorem DR.shape (h : DR H w v l) : (v = .slice none 0 0 ∧ l = []) ∨ ∃ g cap cur, v = .slice (some ⟨g, 0, none⟩) l.length cap ∧ w.heap[g]? = some (.cells cur 61 (0, 0)) ∧ l.length ≤ cap ∧ cap ≤ maxLen ∧ cur.toList.take (l.length * 3) = l.flatMap dC := by
  rcases h.2 with ⟨h1, h2⟩ | ⟨g, cap, cur, hv, _, hg, hn, hm, hs, ht⟩
  · exact .inl ⟨h1, List.length_eq_zero_iff.1 h2⟩
  · exact .inr ⟨g, cap, cur, hv, hg, hn, hm, ht⟩
theorem DR.lt (h : DR H w v l) {x : Nat} (hx : v.ownBlock = some x) : x < w.heap.size := (World.ownsRow.lt h x hx).2
theorem DR.ge (h : DR H w v l) {x : Nat} (hx : v.ownBlock = some x) : H ≤ x := (World.ownsRow.lt h x hx).1
theorem DR.zero (h : DR H w v l) : DR 0 w v l := by
  refine ⟨h.1, ?_⟩
  rcases h.2 with h1 | ⟨g, cap, cur, hv, hb0, rest⟩
  · exact .inl h1
  · exact .inr ⟨g, cap, cur, hv, Nat.zero_le _, rest⟩
theorem DR.same (h : DR H w v l) (hb : ∀ x, v.ownBlock = some x → w'.heap[x]? = w.heap[x]?) : DR H w' v l := by
  refine ⟨h.1, ?_⟩
  rcases h.2 with h1 | ⟨g, cap, cur, hv, hb0, hg, rest⟩
  · exact .inl h1
  · exact .inr ⟨g, cap, cur, hv, hb0, by rw [hb g (by rw [hv]; rfl)]; exact hg, rest⟩
theorem DR.keep (h : DR H w v l) (hB : Below w.heap.size w w') : DR H w' v l := h.same fun _ hx => hB.block _ (h.lt hx)
theorem DR.len (h : DR H w v l) : ∃ A cap, v = .slice A l.length cap ∧ l.length ≤ cap ∧ cap ≤ maxLen ∧ (A = none → cap = 0) := by
  rcases h.shape with ⟨h1, h2⟩ | ⟨g, cap, cur, hv, _, h3, h4, _⟩
  · subst h2; exact ⟨none, 0, h1, Nat.le_refl _, by decide, fun _ => rfl⟩
  · exact ⟨_, cap, hv, h3, h4, fun e => by cases e⟩
theorem DR.at {A : Option Addr} {n c : Nat} (h : DR H w (.slice A n c) l) : DAt w A l := fun i hi => by
  rcases h.shape with ⟨_, h2⟩ | ⟨g, cap, cur, hv, hg, hn, hm, ht⟩
  · subst h2; simp at hi
  · injection hv with e1 e2 e3
    subst e1
    refine ⟨g, 0, rfl, fun j u hu => ?_⟩
    have hj : j < 3 := by
      have := (List.getElem?_eq_some_iff.1 hu).1
      simpa [dC] using this
    have h1 : cur[i * 3 + j]? = some u := by
      have h2 : cur.toList[i * 3 + j]? = (l.flatMap dC)[i * 3 + j]? := by rw [← ht, List.getElem?_take_of_lt (by omega)]
      rw [flatD_at l i hi j hj, hu] at h2
      simpa using h2
    rw [Nat.zero_add]
    simp [World.cell?, hg, h1]
end
theorem DAt.keep {w w' : World} {A : Option Addr} {l : List DW} (h : DAt w A l) (hB : Below w.heap.size w w') : DAt w' A l := Arr.keep h hB
/-- One of them, cell by cell. -/
theorem DAt.get {w : World} {A : Option Addr} {l : List DW} (h : DAt w A l) {i : Nat} (hi : i < l.length) : ∃ b o, A = some ⟨b, o, none⟩ ∧ w.cell? ⟨b, o + i * 3, none⟩ = some (nV (l.getD i d0).1) ∧ w.cell? ⟨b, o + i * 3 + 1, none⟩ = some (nV (l.getD i d0).2.1) ∧ w.cell? ⟨b, o + i * 3 + 2, none⟩ = some (nV (l.getD i d0).2.2) := by
  obtain ⟨b, o, e, hc⟩ := h i hi
  exact ⟨b, o, e, hc 0 _ rfl, hc 1 _ rfl, hc 2 _ rfl⟩
/-- A part of them. -/
theorem DAt.sub {w : World} {b o : Nat} {l : List DW} (h : DAt w (some ⟨b, o, none⟩) l) {k m : Nat} (hk : k + m ≤ l.length) : DAt w (some ⟨b, o + k * 3, none⟩) ((l.drop k).take m) := fun i hi => by
  have hi' : i < m := by simp only [List.length_take, List.length_drop] at hi; omega
  obtain ⟨b', o', e, hc⟩ := h (k + i) (by omega)
  injection e with e
  injection e with e1 e2
  subst e1 e2
  refine ⟨b, o + k * 3, rfl, fun j u hu => ?_⟩
  have e3 : ((l.drop k).take m).getD i d0 = l.getD (k + i) d0 := by
    simp only [List.getD_eq_getElem?_getD, List.getElem?_take_of_lt hi', List.getElem?_drop]
  have hu : (dC (((l.drop k).take m).getD i d0))[j]? = some u := hu
  rw [e3] at hu
  have := hc j u hu
  have e4 : o + k * 3 + i * 3 + j = o + (k + i) * 3 + j := by omega
  rw [e4]
  exact this
theorem one_dC (y : DW) : ∀ u ∈ dC y, u.oneCell' = true := by
  intro u' hu'
  simp only [dC, List.mem_cons, List.not_mem_nil, or_false] at hu'
  rcases hu' with rfl | rfl | rfl <;> rfl
theorem one_flatD (l : List DW) : ∀ u ∈ l.flatMap dC, u.oneCell' = true := by
  intro u hu
  obtain ⟨y, _, hy⟩ := List.mem_flatMap.1 hu
  exact one_dC y u hy
theorem DAt.news {w : World} {a : Addr} {l : List DW} (h : DAt w (some a) l) : ∀ j u, (l.flatMap dC)[j]? = some u → w.cell? (a.add j) = some u := by
  intro j u hu
  have hj : j < l.length * 3 := by rw [← flatD_len]; exact (List.getElem?_eq_some_iff.1 hu).1
  obtain ⟨b, o, e, hc⟩ := h (j / 3) (by omega)
  injection e with e
  subst e
  have e1 : j = j / 3 * 3 + j % 3 := by omega
  rw [e1, flatD_at l (j / 3) (by omega) (j % 3) (by omega)] at hu
  have := hc (j % 3) u hu
  rw [Go.WideShapes.add_plain]
  rw [show o + j = o + j / 3 * 3 + j % 3 by omega]
  exact this
set_option maxRecDepth 100000 in
/-- The append of a list. -/
theorem wpList_spreadD {ops : Array Oper} {rest : List Oper} {o : Oper} {a : Act} {Q : Exit → Act → World → Prop} (hgd : o.guard = Option.none) (s x : Operand)
    (ho : o.op = .call { callee := .builtin .append, args := #[s, x], argTypes := #[25, 25] }) {H : Nat} {w : World} {v : Value} {l r : List DW} {A : Option Addr} {c : Nat} (h : DR H w v l) (hr : DAt w A r) (hc : A = none → r.length = 0 ∧ c = 0) (hk : l.length ≤ 100000) (hk2 : r.length ≤ 100000)
    (hs : a.eval s = v) (hx : a.eval x = .slice A r.length c)
    (hH : H ≤ w.heap.size)
    (hQ : ∀ v' w2, DR H w2 v' (l ++ r) → Chg (fun x => v.ownBlock = some x) w w2 → wpList Try.prog ops Q rest (a.put o.dst v') w2) :
    wpList Try.prog ops Q (o :: rest) a w := by
  obtain ⟨i0, hi, hz0, hz1, hz2⟩ := info_dw
  cases A with
  | none =>
    obtain ⟨h1, h2⟩ := hc rfl
    have hr0 : r = [] := List.length_eq_zero_iff.1 h1
    subst hr0
    subst h2
    exact wpList_append_own_none hgd s x 25 ho H 61 i0 3 Try.underlying25 hi v l.length (l.flatMap dC) hs h hx (hQ v w (by rw [List.append_nil]; exact h) (Chg.refl w))
  | some ad =>
    refine wpList_append_own _ hgd s x 25 ho H 61 i0 _ 3 24 Try.underlying25 hi hz0 hz1 hz2 rfl (by decide) v l.length (l.flatMap dC) hs h ad r.length c (r.flatMap dC) hx (flatD_len r) hr.news (one_flatD r) (by unfold maxLen; omega) (by omega) hH ?_
    intro v' w2 hown hgrow _
    have hD : DR H w2 v' (l ++ r) := by unfold DR; rw [List.length_append, List.flatMap_append]; exact hown
    exact hQ v' w2 hD ⟨hgrow.os, hgrow.tape, hgrow.output, hgrow.size, fun x hx hn => hgrow.block x hx (fun e => hn e.symm)⟩
set_option maxRecDepth 100000 in
/-- The append of one. -/
theorem wpList_appD {ops : Array Oper} {rest : List Oper} {o : Oper} {a : Act} {Q : Exit → Act → World → Prop} (hgd : o.guard = Option.none) (s x : Operand)
    (ho : o.op = .call { callee := .builtin .append, args := #[s, x], argTypes := #[25, 25] }) {H : Nat} {w : World} {v : Value} {l : List DW} {y : DW} (h : DR H w v l) (hk : l.length ≤ 100000)
    (hs : a.eval s = v) (hx : a.eval x = .slice (some ⟨w.heap.size, 0, Option.none⟩) 1 1)
    (hH : H ≤ w.heap.size)
    (hQ : ∀ g' cap' w2, DR H w2 (.slice (some ⟨g', 0, Option.none⟩) (l.length + 1) cap') (l ++ [y]) → Chg (fun x => v.ownBlock = some x) w w2 → (v.ownBlock = some g' ∨ w.heap.size ≤ g') → wpList Try.prog ops Q rest (a.put o.dst (.slice (some ⟨g', 0, Option.none⟩) (l.length + 1) cap')) w2) :
    wpList Try.prog ops Q (o :: rest) a (w.alloc (.cells #[nV y.1, nV y.2.1, nV y.2.2] 61)) := by
  obtain ⟨i0, hi, hz0, hz1, hz2⟩ := info_dw
  have hA : Below w.heap.size w (w.alloc (.cells #[nV y.1, nV y.2.1, nV y.2.2] 61)) := (Below.refl _ _).alloc (Nat.le_refl _) _
  have hown := h.keep hA
  refine wpList_append_lies _ hgd s x 25 ho H 61 i0 _ 3 24 Try.underlying25 hi hz0 hz1 hz2 rfl (by decide) v l.length (l.flatMap dC) hs hown ⟨w.heap.size, 0, Option.none⟩ 1 1 (dC y) hx rfl ?_ ?_ (by decide) (by unfold maxLen; omega) ?_ (Nat.le_trans hH (by simp)) (w.heap.size + 1) (by simp) ?_
  · exact World.news_of_block (heap_alloc_new w (.cells #[nV y.1, nV y.2.1, nV y.2.2] 61))
  · exact one_dC y
  · omega
  · intro g' cap' w2 hown' hgrow hat hlt
    have hCa : Chg (fun x => v.ownBlock = some x) (w.alloc (.cells #[nV y.1, nV y.2.1, nV y.2.2] 61)) w2 := ⟨hgrow.os, hgrow.tape, hgrow.output, hgrow.size, fun x hx hn => hgrow.block x hx (fun e => hn e.symm)⟩
    refine hQ g' cap' w2 ?_ ((Chg.of_below hA).trans hCa) (hat.elim .inl fun e => .inr (by omega))
    unfold DR
    rw [List.length_append, List.flatMap_append]
    simpa using hown'
end Go.Proofs.Ytagfhlnedaagbaa
