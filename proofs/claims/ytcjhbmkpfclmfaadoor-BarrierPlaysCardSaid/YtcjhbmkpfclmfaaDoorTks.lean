/-
  Two lists of takers that grow side by side: as pointers, as tasks; their machine; arguments that are numbers in a list.
-/
import Derived.Test.YtcjhbmkpfclmfaaDoorNewM
import Derived.Deep.AppendLies
namespace Go.Proofs.YtcjhbmkpfclmfaaDoor
open Go.RowKit

theorem info37 : (Tryd.prog.info? 37).map (fun i => (i.zero, i.size, i.bytes)) = some (some (.pointer none), 1, 8) := by kernel_rfl
/-- A taker as a pointer. -/
abbrev pt (B : Nat) : Value := .pointer (some ⟨B, 0, none⟩)
theorem ownsRow_same {w w' : World} {base : Nat} {e : TypeId} {size g n c : Nat} {xs : List Value} (h : w.ownsRow base e size (.slice (some ⟨g, 0, none⟩) n c) n xs) (e1 : w'.heap[g]? = w.heap[g]?) : w'.ownsRow base e size (.slice (some ⟨g, 0, none⟩) n c) n xs := by
  refine ⟨h.1, ?_⟩
  rcases h.2 with ⟨h1, _⟩ | ⟨g', cap, cur, hv, hb, hg, rest⟩
  · cases h1
  · injection hv with hv1 hv2 hv3
    injection hv1 with hv1
    injection hv1 with hv1
    subst hv1
    subst hv3
    exact .inr ⟨g, c, cur, rfl, hb, by rw [e1]; exact hg, rest⟩
/-- The append of one value to a row of its own, of pointers. -/
theorem wpList_append_pt {ops : Array Oper} {rest : List Oper} {o : Oper} {a : Act} {Q : Exit → Act → World → Prop} (hgd : o.guard = none) (s x : Operand)
    (ho : o.op = .call { callee := .builtin .append, args := #[s, x], argTypes := #[33, 33] }) {base : Nat} {w : World} {k g cap B : Nat} {xs : List Value} (h : w.ownsRow base 37 1 (.slice (some ⟨g, 0, none⟩) k cap) k xs) (hg : g < w.heap.size) (hbs : base ≤ w.heap.size) (hk : k ≤ 1000)
    (hs : a.eval s = .slice (some ⟨g, 0, none⟩) k cap) (hx : a.eval x = .slice (some ⟨w.heap.size, 0, none⟩) 1 1)
    (hQ : ∀ g' cap' w2, w2.ownsRow base 37 1 (.slice (some ⟨g', 0, none⟩) (k + 1) cap') (k + 1) (xs ++ [pt B]) → Chg (fun x => x = g) w w2 → (g' = g ∨ w.heap.size < g') → g' < w2.heap.size → wpList Tryd.prog ops Q rest (a.put o.dst (.slice (some ⟨g', 0, none⟩) (k + 1) cap')) w2) :
    wpList Tryd.prog ops Q (o :: rest) a (w.alloc (.cells #[pt B] 37)) := by
  obtain ⟨i0, hi, hz0, hz1, hz2⟩ := info_parts info37
  have hA : Below w.heap.size w (w.alloc (.cells #[pt B] 37)) := (Below.refl _ _).alloc (Nat.le_refl _) _
  have hown : (w.alloc (.cells #[pt B] 37)).ownsRow base 37 1 (.slice (some ⟨g, 0, none⟩) k cap) k xs := ownsRow_same h (hA.block _ hg)
  refine wpList_append_lies _ hgd s x 33 ho base 37 i0 (.pointer none) 1 8 Tryd.underlying33 hi hz0 hz1 hz2 rfl (by decide) _ k _ hs hown ⟨w.heap.size, 0, none⟩ 1 1 [pt B] hx rfl ?_ ?_ (by decide) (by unfold maxLen; omega) (by omega) (by simp; omega) (w.heap.size + 1) (by simp) ?_
  · intro j u hu
    have hj : j = 0 := by
      rcases Nat.eq_zero_or_pos j with e | e
      · exact e
      · rw [List.getElem?_eq_none (by simp; omega)] at hu; cases hu
    subst hj
    exact al_new _ _ _ 0 _ rfl hu
  · intro u hu
    simp at hu
    subst hu
    rfl
  · intro g' cap' w2 hown' hgrow hat hlt
    have hCa : Chg (fun x => x = g) (w.alloc (.cells #[pt B] 37)) w2 := ⟨hgrow.os, hgrow.tape, hgrow.output, hgrow.size, fun x hx hn => hgrow.block x hx (by intro e; injection e with e; exact hn e)⟩
    exact hQ g' cap' w2 hown' ((Chg.of_below hA).trans hCa) (hat.elim (fun e => .inl (by injection e with e; exact e.symm)) fun e => .inr (by omega)) hlt
/-- The same of tasks. -/
theorem wpList_append_tv {ops : Array Oper} {rest : List Oper} {o : Oper} {a : Act} {Q : Exit → Act → World → Prop} (hgd : o.guard = none) (s x : Operand)
    (ho : o.op = .call { callee := .builtin .append, args := #[s, x], argTypes := #[73, 73] }) {base : Nat} {w : World} {k g cap B : Nat} {xs : List Value} (h : w.ownsRow base 80 1 (.slice (some ⟨g, 0, none⟩) k cap) k xs) (hg : g < w.heap.size) (hbs : base ≤ w.heap.size) (hk : k ≤ 1000)
    (hs : a.eval s = .slice (some ⟨g, 0, none⟩) k cap) (hx : a.eval x = .slice (some ⟨w.heap.size, 0, none⟩) 1 1)
    (hQ : ∀ g' cap' w2, w2.ownsRow base 80 1 (.slice (some ⟨g', 0, none⟩) (k + 1) cap') (k + 1) (xs ++ [tv B]) → Chg (fun x => x = g) w w2 → (g' = g ∨ w.heap.size < g') → g' < w2.heap.size → wpList Tryd.prog ops Q rest (a.put o.dst (.slice (some ⟨g', 0, none⟩) (k + 1) cap')) w2) :
    wpList Tryd.prog ops Q (o :: rest) a (w.alloc (.cells #[tv B] 80)) := by
  obtain ⟨i0, hi, hz0, hz1, hz2⟩ := info_parts info80
  have hA : Below w.heap.size w (w.alloc (.cells #[tv B] 80)) := (Below.refl _ _).alloc (Nat.le_refl _) _
  have hown : (w.alloc (.cells #[tv B] 80)).ownsRow base 80 1 (.slice (some ⟨g, 0, none⟩) k cap) k xs := ownsRow_same h (hA.block _ hg)
  refine wpList_append_lies _ hgd s x 73 ho base 80 i0 .nilIface 1 16 Tryd.underlying73 hi hz0 hz1 hz2 rfl (by decide) _ k _ hs hown ⟨w.heap.size, 0, none⟩ 1 1 [tv B] hx rfl ?_ ?_ (by decide) (by unfold maxLen; omega) (by omega) (by simp; omega) (w.heap.size + 1) (by simp) ?_
  · intro j u hu
    have hj : j = 0 := by
      rcases Nat.eq_zero_or_pos j with e | e
      · exact e
      · rw [List.getElem?_eq_none (by simp; omega)] at hu; cases hu
    subst hj
    exact al_new _ _ _ 0 _ rfl hu
  · intro u hu
    simp at hu
    subst hu
    rfl
  · intro g' cap' w2 hown' hgrow hat hlt
    have hCa : Chg (fun x => x = g) (w.alloc (.cells #[tv B] 80)) w2 := ⟨hgrow.os, hgrow.tape, hgrow.output, hgrow.size, fun x hx hn => hgrow.block x hx (by intro e; injection e with e; exact hn e)⟩
    exact hQ g' cap' w2 hown' ((Chg.of_below hA).trans hCa) (hat.elim (fun e => .inl (by injection e with e; exact e.symm)) fun e => .inr (by omega)) hlt
theorem range_app (V : Nat → Value) (k : Nat) (B : Nat → Nat) (B' : Nat) : (List.range k).map (fun j => V (B j)) ++ [V B'] = (List.range (k + 1)).map (fun j => V (upd B k B' j)) := by
  rw [List.range_succ, List.map_append]
  congr 1
  · refine List.map_congr_left fun j hj => ?_
    have : j ≠ k := by have := List.mem_range.1 hj; omega
    rw [upd_other this]
  · simp [upd_same]
/-- Takers that were made since the world w0, listed as pointers and as tasks. -/
structure Tks (w0 w : World) (k ga ca gb cb : Nat) (B : Nat → Nat) (t : Nat → Tk) : Prop where
  ra : w.ownsRow w0.heap.size 37 1 (.slice (some ⟨ga, 0, none⟩) k ca) k ((List.range k).map fun j => pt (B j))
  rb : w.ownsRow w0.heap.size 80 1 (.slice (some ⟨gb, 0, none⟩) k cb) k ((List.range k).map fun j => tv (B j))
  tk : ∀ j, j < k → TakerAt w (B j) (t j)
  gr : ∀ j, j < k → ga ≠ B j ∧ gb ≠ B j
  ne : ga ≠ gb
  sep : ∀ i j, i < j → j < k → B i < B j
  lo : ∀ j, j < k → w0.heap.size ≤ B j
  glo : w0.heap.size ≤ ga ∧ w0.heap.size ≤ gb
  glt : ga < w.heap.size ∧ gb < w.heap.size
  bel : Below w0.heap.size w0 w
theorem tks_nil (w : World) (t : Nat → Tk) : Tks w ((w.alloc (.cells #[] 37)).alloc (.cells #[] 80)) 0 w.heap.size 0 (w.heap.size + 1) 0 (fun _ => 0) t := by
  have h1 : (w.alloc (.cells #[] 37)).ownsRow w.heap.size 37 1 (.slice (some ⟨w.heap.size, 0, none⟩) 0 0) 0 [] := World.ownsRow_lit w #[] 0 (Nat.le_refl _) (by decide) rfl
  have h2 := World.ownsRow_lit (base := w.heap.size) (e := 80) (size := 1) (w.alloc (.cells #[] 37)) #[] 0 (by simp) (by decide) rfl
  have hA : Below (w.alloc (.cells #[] 37)).heap.size (w.alloc (.cells #[] 37)) ((w.alloc (.cells #[] 37)).alloc (.cells #[] 80)) := (Below.refl _ _).alloc (Nat.le_refl _) _
  exact ⟨ownsRow_same h1 (hA.block _ (by simp)), by simpa using h2, fun j hj => absurd hj (by omega), fun j hj => absurd hj (by omega), by omega, fun i j _ hj => absurd hj (by omega), fun j hj => absurd hj (by omega), by omega, by simp; omega, ((Below.refl _ _).alloc (Nat.le_refl _) _).alloc (by simp) _⟩
/-- One taker more, behind both appends: w1 with the taker, w2 with the pointer in its list, w3 with the task in its. -/
theorem tks_next {w0 w w1 w2 w3 : World} {k ga ca gb cb ga' ca' gb' cb' : Nat} {B : Nat → Nat} {t : Nat → Tk} (h : Tks w0 w k ga ca gb cb B t) (hb : Below w.heap.size w w1) (hs1 : w.heap.size < w1.heap.size) (hT : TakerAt w1 w.heap.size (t k))
    (ha : w2.ownsRow w0.heap.size 37 1 (.slice (some ⟨ga', 0, none⟩) (k + 1) ca') (k + 1) ((List.range k).map (fun j => pt (B j)) ++ [pt w.heap.size])) (hC2 : Chg (fun x => x = ga) w1 w2) (hga : ga' = ga ∨ w1.heap.size < ga') (hla : ga' < w2.heap.size)
    (hbb : w3.ownsRow w0.heap.size 80 1 (.slice (some ⟨gb', 0, none⟩) (k + 1) cb') (k + 1) ((List.range k).map (fun j => tv (B j)) ++ [tv w.heap.size])) (hC3 : Chg (fun x => x = gb) w2 w3) (hgb : gb' = gb ∨ w2.heap.size < gb') (hlb : gb' < w3.heap.size) :
    Tks w0 w3 (k + 1) ga' ca' gb' cb' (upd B k w.heap.size) t := by
  have hg := h.glt
  have hl := h.glo
  have hn := h.ne
  have hs2 := hC2.size
  have hs3 := hC3.size
  have hbs := h.bel.size
  have hC : Chg (fun x => x = ga ∨ x = gb) w1 w3 := (hC2.mono fun _ e => .inl e).trans (hC3.mono fun _ e => .inr e)
  have hCw : Chg (fun x => x = ga ∨ x = gb) w w3 := (Chg.of_below hb).trans hC
  refine ⟨?_, ?_, fun j hj => ?_, fun j hj => ?_, by omega, fun i j hij hj => ?_, fun j hj => ?_, by omega, by omega, h.bel.trans (hCw.below (fun x e => by omega) hbs)⟩
  · rw [← range_app pt]
    exact ownsRow_same ha (hC3.block _ hla (by omega))
  · rw [← range_app tv]; exact hbb
  · by_cases e : j = k
    · subst e
      rw [upd_same]
      exact hT.same (hC.block _ (by omega) (by omega))
    · rw [upd_other e]
      have hj' : j < k := by omega
      have hgj := h.gr j hj'
      exact (h.tk j hj').same (hCw.block _ (h.tk j hj').lt (by omega))
  · by_cases e : j = k
    · subst e; rw [upd_same]; omega
    · rw [upd_other e]
      have := h.gr j (by omega)
      have := (h.tk j (by omega)).lt
      omega
  · by_cases e : j = k
    · subst e
      rw [upd_same, upd_other (by omega)]
      exact (h.tk i (by omega)).lt
    · rw [upd_other e, upd_other (by omega)]
      exact h.sep i j hij (by omega)
  · by_cases e : j = k
    · subst e; rw [upd_same]; omega
    · rw [upd_other e]; exact h.lo j (by omega)
theorem Tks.keep {w0 w w' : World} {k ga ca gb cb : Nat} {B : Nat → Nat} {t : Nat → Tk} (h : Tks w0 w k ga ca gb cb B t) (hB : Below w.heap.size w w') : Tks w0 w' k ga ca gb cb B t :=
  ⟨ownsRow_same h.ra (hB.block _ h.glt.1), ownsRow_same h.rb (hB.block _ h.glt.2), fun j hj => (h.tk j hj).keep hB, h.gr, h.ne, h.sep, h.lo, h.glo, by have := h.glt; have := hB.size; omega, h.bel.trans (hB.mono h.bel.size)⟩
theorem Tks.vals {w0 w : World} {k ga ca gb cb : Nat} {B : Nat → Nat} {t : Nat → Tk} (h : Tks w0 w k ga ca gb cb B t) : ValsAt w (some ⟨gb, 0, none⟩) k fun j => tv (B j) := fun i hi => by
  refine ⟨gb, 0, rfl, ?_⟩
  rw [Nat.zero_add, World.ownsRow.cellAt h.rb i (by omega), List.getElem?_map, List.getElem?_range hi]
  rfl
theorem Tks.ptr {w0 w : World} {k ga ca gb cb : Nat} {B : Nat → Nat} {t : Nat → Tk} (h : Tks w0 w k ga ca gb cb B t) {i : Nat} (hi : i < k) : w.cell? ⟨ga, i, none⟩ = some (pt (B i)) := by
  rw [World.ownsRow.cellAt h.ra i (by omega), List.getElem?_map, List.getElem?_range hi]
  rfl
theorem sys_new {g b n N : Nat} {p : Nat → Value} {B : Nat → Nat} {t : Nat → Tk} {f : Nat → Int} {c : Int} {w : World} (hM : MemAt w g b n f c) (hn : n ≤ 4096) (hN : N ≤ 1000) (hG : GOk w) (h6 : 6 ≤ g ∧ 6 ≤ b) (hp : ∀ i, i < N → p i = tv (B i))
    (hT : ∀ i, i < N → TakerAt w (B i) (t i)) (hD : ∀ i, i < N → (t i).done = false) (hB : ∀ i, i < N → g < B i ∧ b < B i)
    (hsep : ∀ i j, i < N → j < N → i ≠ j → B i ≠ B j) {e : Ending} {w' : World} (h : NewM g N p w e w') :
    ∃ m : Mc, e = .returned (.pointer (some ⟨m.X, 0, none⟩)) ∧ m.g = g ∧ m.b = b ∧ m.n = n ∧ m.N = N ∧ m.B = B ∧ w.heap.size ≤ m.X ∧ w.heap.size ≤ m.TB ∧ w.heap.size ≤ m.D ∧ m.X < w'.heap.size ∧ m.TB < w'.heap.size ∧ m.D < w'.heap.size ∧ Sys w' m ⟨t, f⟩ c ∧ Below w.heap.size w w' := by
  obtain ⟨X, A, TB, cap, D, rfl, hMa, h1, h2, h3, h4, h5, hBl⟩ := h
  have hg := hM.ltg
  have hb := hM.row.lt
  have hs := hBl.size
  refine ⟨⟨X, g, b, n, A, TB, N, cap, D, B⟩, rfl, rfl, rfl, rfl, rfl, rfl, h1, h2, h3, h4, h5, hMa.dn.lt, ⟨⟨hn, hN, fun i hi => ?_, hsep, fun i hi => ?_, ?_, ?_⟩, hM.keep hBl, ?_, fun i hi => (hT i hi).keep hBl, hG.keep hBl, ?_, ?_⟩, hBl⟩
  · have := hB i hi; show g < B i ∧ b < B i ∧ 6 ≤ B i; omega
  · have := (hT i hi).lt
    show B i < X ∧ B i < TB ∧ B i < D
    omega
  · show g < X ∧ g < TB ∧ g < D; omega
  · show b < X ∧ b < TB ∧ b < D; omega
  · have hq : MachAt w' X g A TB N cap D (fun i => tv (B i)) (fun _ => false) := ⟨hMa.x0, hMa.x1, hMa.x2, fun i hi => ⟨(hMa.tk i hi).1, by rw [← hp i hi]; exact (hMa.tk i hi).2⟩, hMa.dn, hMa.xd, hMa.td⟩
    exact hq.congr fun i hi => (hD i hi).symm
  · show 6 ≤ g ∧ 6 ≤ b ∧ 6 ≤ D ∧ 6 ≤ X ∧ 6 ≤ TB; omega
  · exact ⟨h4, h5⟩
/-- The machine of the tasks. -/
theorem Tks.sys {w0 w w' : World} {k ga ca gb cb : Nat} {B : Nat → Nat} {t : Nat → Tk} (h : Tks w0 w k ga ca gb cb B t) {mg mb n : Nat} {f : Nat → Int} {c : Int} (hM : MemAt w mg mb n f c) (hgl : mg < w0.heap.size ∧ mb < w0.heap.size) (hn : n ≤ 4096) (hk : k ≤ 1000) (hG : GOk w) (h6 : 6 ≤ mg ∧ 6 ≤ mb) (hD : ∀ i, i < k → (t i).done = false) {e : Ending} (hN : NewM mg k (fun j => tv (B j)) w e w') :
    ∃ m : Mc, e = .returned (.pointer (some ⟨m.X, 0, none⟩)) ∧ m.g = mg ∧ m.n = n ∧ m.N = k ∧ m.B = B ∧ Sys w' m ⟨t, f⟩ c ∧ Below w.heap.size w w' ∧ (∀ x, m.own x → x = mg ∨ x = mb ∨ w0.heap.size ≤ x) ∧ ¬ m.own ga := by
  obtain ⟨m, he, h1, h2, h3, h4, h5, h8, h9, h10, _, _, _, hS, hB⟩ := sys_new (B := B) (t := t) (f := f) (c := c) hM hn hk hG h6 (fun _ _ => rfl) h.tk hD (fun i hi => by have := h.lo i hi; omega)
    (fun i j hi hj hij => by
      rcases Nat.lt_or_gt_of_ne hij with hl | hl
      · have := h.sep i j hl hj; omega
      · have := h.sep j i hl hi; omega) hN
  have hb0 := h.bel.size
  have hgg := h.glt
  have hgl2 := h.glo
  refine ⟨m, he, h1, h3, h4, h5, hS, hB, fun x hx => ?_, fun hx => ?_⟩
  · rcases hx with e | e | e | e | e | ⟨i, hi, e1⟩
    · omega
    · omega
    · omega
    · omega
    · omega
    · rw [h5] at e1
      have := h.lo i (by omega)
      omega
  · rcases hx with e | e | e | e | e | ⟨i, hi, e1⟩
    · omega
    · omega
    · omega
    · omega
    · omega
    · rw [h5] at e1
      exact (h.gr i (by omega)).1 e1
/-- Numbers in a list, in blocks below H. -/
def ArgN (k : IntKind) (H : Nat) (w : World) (A : Option Addr) (n : Nat) (q : Nat → Int) : Prop := ∀ i, i < n → ∃ b o, A = some ⟨b, o, none⟩ ∧ b < H ∧ w.cell? ⟨b, o + i, none⟩ = some (.int k (q i))
theorem ArgN.keep {k : IntKind} {H : Nat} {w w' : World} {A : Option Addr} {n : Nat} {q : Nat → Int} (h : ArgN k H w A n q) (hB : Below H w w') : ArgN k H w' A n q := fun i hi => by
  obtain ⟨b, o, e, hb, hc⟩ := h i hi
  exact ⟨b, o, e, hb, by rw [hB.cell (p := ⟨b, o + i, none⟩) hb]; exact hc⟩
theorem ArgN.cell {k : IntKind} {H : Nat} {w : World} {b o n : Nat} {q : Nat → Int} (h : ArgN k H w (some ⟨b, o, none⟩) n q) {i : Nat} (hi : i < n) : w.cell? ⟨b, o + i, none⟩ = some (.int k (q i)) := by
  obtain ⟨b', o', e, _, hc⟩ := h i hi
  injection e with e
  injection e with e1 e2
  subst e1 e2
  exact hc
theorem ArgN.head {k : IntKind} {H : Nat} {w : World} {A : Option Addr} {n : Nat} {q : Nat → Int} (h : ArgN k H w A n q) {i : Nat} (hi : i < n) : ∃ b o, A = some ⟨b, o, none⟩ := by
  obtain ⟨b, o, e, _⟩ := h i hi
  exact ⟨b, o, e⟩
theorem ArgN.ints {H : Nat} {w : World} {A : Option Addr} {n : Nat} {q : Nat → Int} (h : ArgN .i64 H w A n q) {S : Nat → Prop} (hS : ∀ x, S x → H ≤ x) : Ints S w A n q := fun i hi => by
  obtain ⟨b, o, e, hb, hc⟩ := h i hi
  exact ⟨b, o, e, fun hs => by have := hS b hs; omega, hc⟩
end Go.Proofs.YtcjhbmkpfclmfaaDoor
