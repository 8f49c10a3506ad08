/-
  A list of tasks that grows; arguments that are numbers in a list.
-/
import Derived.Test.YtdhanenbcjmfkaaDoorAwakeW
namespace Go.Proofs.YtdhanenbcjmfkaaDoor
open Go.RowKit

/-- A row of tasks that were made since the world w0. -/
structure Tks (w0 w : World) (k g cap : Nat) (B : Nat → Nat) (K : Nat → Nat) (t : Nat → Tk) : Prop where
  row : w.ownsRow w0.heap.size 32 1 (.slice (some ⟨g, 0, none⟩) k cap) k ((List.range k).map fun j => tv (K j) (B j))
  tk : ∀ j, j < k → TaskAt w (B j) (t j)
  kd : ∀ j, j < k → (t j).kind = K j
  gr : ∀ j, j < k → g < B j ∨ B j + szT (K j) ≤ g
  sep : ∀ i j, i < j → j < k → B i + szT (K i) ≤ B j
  lo : ∀ j, j < k → w0.heap.size ≤ B j
  glo : w0.heap.size ≤ g
  glt : g < w.heap.size
  bel : Below w0.heap.size w0 w
theorem Tks.lt {w0 w : World} {k g cap : Nat} {B K : Nat → Nat} {t : Nat → Tk} (h : Tks w0 w k g cap B K t) {j : Nat} (hj : j < k) : B j + szT (K j) ≤ w.heap.size := by
  have := (h.tk j hj).lt
  rw [h.kd j hj] at this
  exact this
theorem ownsRow_same {w w' : World} {base : Nat} {e : TypeId} {size g n c : Nat} {xs : List Value} (h : w.ownsRow base e size (.slice (some ⟨g, 0, none⟩) n c) n xs) (e1 : w'.heap[g]? = w.heap[g]?) : w'.ownsRow base e size (.slice (some ⟨g, 0, none⟩) n c) n xs := by
  refine ⟨h.1, ?_⟩
  rcases h.2 with ⟨h1, _⟩ | ⟨g', cap, cur, hv, hb, hg, rest⟩
  · cases h1
  · injection hv with hv1 hv2 hv3
    injection hv1 with hv1
    injection hv1 with hv1
    subst hv1
    subst hv3
    exact .inr ⟨g, c, cur, rfl, hb, by rw [e1]; exact hg, rest⟩
/-- What happens elsewhere leaves the row as it is. -/
theorem Tks.else {w0 w w' : World} {k g cap : Nat} {B K : Nat → Nat} {t : Nat → Tk} (h : Tks w0 w k g cap B K t) {S : Nat → Prop} (hC : Chg S w w') (hS : ∀ x, S x → w0.heap.size ≤ x) (hg : ¬ S g) (hB : ∀ j, j < k → ∀ x, B j ≤ x → x < B j + szT (K j) → ¬ S x) : Tks w0 w' k g cap B K t :=
  ⟨ownsRow_same h.row (hC.block _ h.glt hg), fun j hj => (h.tk j hj).same (fun x h1 h2 => hC.block x (by have := h.lt hj; rw [h.kd j hj] at h2; omega) (hB j hj x h1 (by rw [h.kd j hj] at h2; exact h2))) hC.size, h.kd, h.gr, h.sep, h.lo, h.glo, Nat.lt_of_lt_of_le h.glt hC.size, h.bel.trans (hC.below hS h.bel.size)⟩
theorem Tks.keep {w0 w w' : World} {k g cap : Nat} {B K : Nat → Nat} {t : Nat → Tk} (h : Tks w0 w k g cap B K t) (hB : Below w.heap.size w w') : Tks w0 w' k g cap B K t :=
  h.else (S := fun _ => False) (Chg.of_below hB) (fun _ h => h.elim) (fun h => h) (fun _ _ _ _ _ h => h)
theorem tks_nil (w : World) (K : Nat → Nat) (t : Nat → Tk) (B : Nat → Nat) : Tks w (w.alloc (.cells #[] 32)) 0 w.heap.size 0 B K t :=
  ⟨World.ownsRow_lit w #[] 0 (Nat.le_refl _) (by decide) rfl, fun j hj => absurd hj (by omega), fun j hj => absurd hj (by omega), fun j hj => absurd hj (by omega), fun i j _ hj => absurd hj (by omega), fun j hj => absurd hj (by omega), Nat.le_refl _, by simp, (Below.refl _ _).alloc (Nat.le_refl _) _⟩
theorem range_tv (k : Nat) (B K : Nat → Nat) (B' : Nat) : (List.range k).map (fun j => tv (K j) (B j)) ++ [tv (K k) B'] = (List.range (k + 1)).map (fun j => tv (K j) (upd B k B' j)) := by
  rw [List.range_succ, List.map_append]
  congr 1
  · refine List.map_congr_left fun j hj => ?_
    have : j ≠ k := by have := List.mem_range.1 hj; omega
    rw [upd_other this]
  · simp [upd_same]
/-- One task more, behind the append. -/
theorem tks_app {w0 w w1 w2 : World} {k g cap g' cap' B' : Nat} {B K : Nat → Nat} {t : Nat → Tk} (h : Tks w0 w k g cap B K t) (hb : Below w.heap.size w w1) (hB' : w.heap.size ≤ B') (hT : TaskAt w1 B' (t k)) (hkd : (t k).kind = K k)
    (hown : w2.ownsRow w0.heap.size 32 1 (.slice (some ⟨g', 0, none⟩) (k + 1) cap') (k + 1) ((List.range k).map (fun j => tv (K j) (B j)) ++ [tv (K k) B'])) (hgrow : (w1.alloc (.cells #[tv (K k) B'] 32)).grownBy w2 (some g)) (hat : some g = some g' ∨ g' = w1.heap.size + 1) (hlt : g' < w2.heap.size) :
    Tks w0 w2 (k + 1) g' cap' (upd B k B') K t ∧ Chg (fun x => x = g) w w2 := by
  have hs := hb.size
  have hlt1 := hT.lt
  rw [hkd] at hlt1
  have hCa : Chg (fun x => x = g) (w1.alloc (.cells #[tv (K k) B'] 32)) w2 := ⟨hgrow.os, hgrow.tape, hgrow.output, hgrow.size, fun x hx hn => hgrow.block x hx (by intro e; injection e with e; exact hn e)⟩
  have hA : Below w1.heap.size w1 (w1.alloc (.cells #[tv (K k) B'] 32)) := (Below.refl _ _).alloc (Nat.le_refl _) _
  have hC1 : Chg (fun x => x = g) w1 w2 := (Chg.of_below hA).trans hCa
  have hC : Chg (fun x => x = g) w w2 := (Chg.of_below hb).trans hC1
  have hs2 := hC1.size
  have hgg : g' = g ∨ g' = w1.heap.size + 1 := hat.elim (fun e => .inl (by injection e with e; exact e.symm)) .inr
  have hglt := h.glt
  refine ⟨⟨by rw [← range_tv]; exact hown, fun j hj => ?_, fun j hj => ?_, fun j hj => ?_, fun i j hij hj => ?_, fun j hj => ?_, ?_, hlt, h.bel.trans (hC.below (fun x e => e ▸ h.glo) h.bel.size)⟩, hC⟩
  · by_cases e : j = k
    · subst e
      rw [upd_same]
      exact hT.same (fun x h1 h2 => hC1.block x (by rw [hkd] at h2; omega) (by omega)) hs2
    · rw [upd_other e]
      have hj' : j < k := by omega
      have hgj := h.gr j hj'
      have hlj := h.lt hj'
      exact (h.tk j hj').same (fun x h1 h2 => hC.block x (by rw [h.kd j hj'] at h2; omega) (by rw [h.kd j hj'] at h2; omega)) hC.size
  · by_cases e : j = k
    · subst e; exact hkd
    · exact h.kd j (by omega)
  · by_cases e : j = k
    · subst e; rw [upd_same]; omega
    · rw [upd_other e]
      have := h.gr j (by omega)
      have := h.lt (j := j) (by omega)
      omega
  · by_cases e : j = k
    · subst e
      rw [upd_same, upd_other (by omega)]
      have := h.lt (j := i) (by omega)
      omega
    · rw [upd_other e, upd_other (by omega)]
      exact h.sep i j hij (by omega)
  · by_cases e : j = k
    · subst e; rw [upd_same]; have := h.bel.size; omega
    · rw [upd_other e]; exact h.lo j (by omega)
  · have := h.glo; have := h.bel.size; omega
/-- The append of one task to the row. -/
theorem wpList_append_task {ops : Array Oper} {rest : List Oper} {o : Oper} {a : Act} {Q : Exit → Act → World → Prop} (hgd : o.guard = none) (s x : Operand)
    (ho : o.op = .call { callee := .builtin .append, args := #[s, x], argTypes := #[29, 29] }) {w0 w w1 : World} {k g cap B' : Nat} {B K : Nat → Nat} {t : Nat → Tk} (h : Tks w0 w k g cap B K t) (hb : Below w.heap.size w w1) (hB' : w.heap.size ≤ B') (hT : TaskAt w1 B' (t k)) (hkd : (t k).kind = K k) (hk : k ≤ 1000)
    (hs : a.eval s = .slice (some ⟨g, 0, none⟩) k cap) (hx : a.eval x = .slice (some ⟨w1.heap.size, 0, none⟩) 1 1)
    (hQ : ∀ g' cap' w2, Tks w0 w2 (k + 1) g' cap' (upd B k B') K t → Chg (fun x => x = g) w w2 → wpList Tryd.prog ops Q rest (a.put o.dst (.slice (some ⟨g', 0, none⟩) (k + 1) cap')) w2) :
    wpList Tryd.prog ops Q (o :: rest) a (w1.alloc (.cells #[tv (K k) B'] 32)) := by
  obtain ⟨i0, hi, hz0, hz1, hz2⟩ := info_parts info32
  have hA : Below w1.heap.size w1 (w1.alloc (.cells #[tv (K k) B'] 32)) := (Below.refl _ _).alloc (Nat.le_refl _) _
  have hs1 := hb.size
  have hglt := h.glt
  have hs0 := h.bel.size
  have hown : (w1.alloc (.cells #[tv (K k) B'] 32)).ownsRow w0.heap.size 32 1 (.slice (some ⟨g, 0, none⟩) k cap) k ((List.range k).map fun j => tv (K j) (B j)) :=
    ownsRow_same (ownsRow_same h.row (hb.block _ h.glt)) (hA.block _ (by omega))
  refine wpList_append_lies _ hgd s x 29 ho w0.heap.size 32 i0 .nilIface 1 16 Tryd.underlying29 hi hz0 hz1 hz2 rfl (by decide) _ k _ hs hown ⟨w1.heap.size, 0, none⟩ 1 1 [tv (K k) B'] hx rfl ?_ ?_ (by decide) (by unfold maxLen; omega) (by omega) (by simp; omega) (w1.heap.size + 1) (by simp) ?_
  · intro j u hu
    have hj : j = 0 := by
      rcases Nat.eq_zero_or_pos j with e | e
      · exact e
      · rw [List.getElem?_eq_none (by simp; omega)] at hu; cases hu
    subst hj
    exact al_new _ _ _ 0 _ rfl hu
  · intro u hu
    simp at hu
    subst hu
    rfl
  · intro g' cap' w2 hown' hgrow hat hlt
    obtain ⟨q1, q2⟩ := tks_app h hb hB' hT hkd hown' hgrow hat hlt
    exact hQ g' cap' w2 q1 q2
theorem Tks.vals {w0 w : World} {k g cap : Nat} {B K : Nat → Nat} {t : Nat → Tk} (h : Tks w0 w k g cap B K t) : ValsAt w (some ⟨g, 0, none⟩) k fun j => tv (K j) (B j) := fun i hi => by
  refine ⟨g, 0, rfl, ?_⟩
  rw [Nat.zero_add, World.ownsRow.cellAt h.row i (by omega), List.getElem?_map, List.getElem?_range hi]
  rfl
/-- The machine of a row of tasks. -/
theorem Tks.sys {w0 w w' : World} {k g cap : Nat} {B K : Nat → Nat} {t : Nat → Tk} (h : Tks w0 w k g cap B K t) {mg mb n : Nat} {f : Nat → Int} {c : Int} (hM : MemAt w mg mb n f c) (hgl : mg < w0.heap.size ∧ mb < w0.heap.size) (hn : n ≤ 4096) (hk : k ≤ 1000) (hG : GOk w) (h6 : 6 ≤ mg ∧ 6 ≤ mb) (hD : ∀ i, i < k → (t i).done = false) {e : Ending} (hN : NewM mg k (fun j => tv (K j) (B j)) w e w') :
    ∃ m : Mc, e = .returned (.pointer (some ⟨m.X, 0, none⟩)) ∧ m.g = mg ∧ m.n = n ∧ m.N = k ∧ Sys w' m ⟨t, f⟩ c ∧ Below w.heap.size w w' ∧ (∀ x, m.own x → x = mg ∨ x = mb ∨ w0.heap.size ≤ x) ∧
      ∀ x, m.own x → x = mg ∨ x = mb ∨ w.heap.size ≤ x ∨ ∃ i, i < k ∧ B i ≤ x ∧ x < B i + szT (K i) := by
  obtain ⟨m, he, h1, h2, h3, h4, h5, h7, h8, h9, h10, _, _, _, hS, hB⟩ := sys_new (K := K) (B := B) (t := t) (f := f) (c := c) hM hn hk hG h6 (fun _ _ => rfl) h.tk h.kd hD (fun i hi => by have := h.lo i hi; omega)
    (fun i j hi hj hij => by
      rcases Nat.lt_or_gt_of_ne hij with hl | hl
      · exact .inl (h.sep i j hl hj)
      · exact .inr (h.sep j i hl hi)) hN
  have hb0 := h.bel.size
  refine ⟨m, he, h1, h3, h4, hS, hB, fun x hx => ?_, fun x hx => ?_⟩
  · rcases hx with e | e | e | e | e | ⟨i, hi, e1, _⟩
    · omega
    · omega
    · omega
    · omega
    · omega
    · rw [h5] at e1
      have := h.lo i (by omega)
      omega
  · rcases hx with e | e | e | e | e | ⟨i, hi, e1, e2⟩
    · omega
    · omega
    · omega
    · omega
    · omega
    · rw [h5] at e1 e2
      rw [h7] at e2
      exact .inr (.inr (.inr ⟨i, by omega, e1, e2⟩))
/-- Numbers in a list, in blocks below H. -/
def ArgN (k : IntKind) (H : Nat) (w : World) (A : Option Addr) (n : Nat) (q : Nat → Int) : Prop := ∀ i, i < n → ∃ b o, A = some ⟨b, o, none⟩ ∧ b < H ∧ w.cell? ⟨b, o + i, none⟩ = some (.int k (q i))
theorem ArgN.keep {k : IntKind} {H : Nat} {w w' : World} {A : Option Addr} {n : Nat} {q : Nat → Int} (h : ArgN k H w A n q) (hB : Below H w w') : ArgN k H w' A n q := fun i hi => by
  obtain ⟨b, o, e, hb, hc⟩ := h i hi
  exact ⟨b, o, e, hb, by rw [hB.cell (p := ⟨b, o + i, none⟩) hb]; exact hc⟩
theorem ArgN.cell {k : IntKind} {H : Nat} {w : World} {b o n : Nat} {q : Nat → Int} (h : ArgN k H w (some ⟨b, o, none⟩) n q) {i : Nat} (hi : i < n) : w.cell? ⟨b, o + i, none⟩ = some (.int k (q i)) := by
  obtain ⟨b', o', e, _, hc⟩ := h i hi
  injection e with e
  injection e with e1 e2
  subst e1 e2
  exact hc
theorem ArgN.head {k : IntKind} {H : Nat} {w : World} {A : Option Addr} {n : Nat} {q : Nat → Int} (h : ArgN k H w A n q) {i : Nat} (hi : i < n) : ∃ b o, A = some ⟨b, o, none⟩ := by
  obtain ⟨b, o, e, _⟩ := h i hi
  exact ⟨b, o, e⟩
theorem ArgN.ints {H : Nat} {w : World} {A : Option Addr} {n : Nat} {q : Nat → Int} (h : ArgN .i64 H w A n q) {S : Nat → Prop} (hS : ∀ x, S x → H ≤ x) : Ints S w A n q := fun i hi => by
  obtain ⟨b, o, e, hb, hc⟩ := h i hi
  exact ⟨b, o, e, fun hs => by have := hS b hs; omega, hc⟩
end Go.Proofs.YtdhanenbcjmfkaaDoor
