/-
  The appends of a taker and of the document's taker, in a region that draws its order; the given comparison of words; the loop that makes them.
-/
import Derived.Test.YtcjhbmkpfclmfaaDoorRefU
import Derived.Test.YtcjhbmkpfclmfaaDoorOpenX
import Derived.Deep.MidRow
import Derived.Deep.DeepCutAuto
namespace Go.Proofs.YtcjhbmkpfclmfaaDoor
open Go.RowKit

set_option maxHeartbeats 2000000 in
theorem same_yes (A B : Option Addr) (c d n : Nat) (f : Nat → Int) (w : World) (hA : Us w A n f) (hB : Us w B n f) (hn : n ≤ 4096) :
    Calls Tryd.prog 14 #[.slice A n c, .slice B n d] w fun e w' => e = .returned (.bool true) ∧ Below w.heap.size w w' := by
  have HA := Lib.hid hA
  have HB := Lib.hid hB
  clear hA hB
  go_enter Tryd.func14, Tryd.ntmps14
  go_wp2_with fail
  go_loopw [5] (fun i wr => ∃ k : Nat, k ≤ n ∧ i = .int .i64 k ∧ Below w.heap.size w wr) (fun i _ => n - (intOf i).toNat)
  case atStart => exact ⟨0, by omega, rfl, Below.refl _ _⟩
  case round =>
    obtain ⟨k, hk, rfl, hB⟩ := hrel
    have HBr := Lib.hid hB
    by_cases hlt : k < n
    · obtain ⟨b, o, rfl⟩ := HA.out.head hlt
      obtain ⟨b2, o2, rfl⟩ := HB.out.head hlt
      have c1 := kept (HA.out.cell hlt) hB
      have c2 := kept (HB.out.cell hlt) hB
      clear hB
      go_wp2_with fail
      go_quiet (fail)
      go_wp2_with fail
      all_goals
        go_roundw
        case rel => exact ⟨k + 1, by omega, by go_num, below_drewN HBr.out _⟩
        case measure => simp [intOf]; omega
    · clear hB
      go_wp2_with fail
      go_ret
      exact ⟨rfl, HBr.out⟩
theorem flat_get {α : Type} (f : α → List Value) (C : Nat) (d : α) (l : List α) (hl : ∀ x ∈ l, (f x).length = C) (i j : Nat) (hi : i < l.length) (hj : j < C) : (l.flatMap f)[i * C + j]? = (f (l.getD i d))[j]? := by
  induction l generalizing i with
  | nil => simp at hi
  | cons x r ih =>
    have hx := hl x List.mem_cons_self
    cases i with
    | zero =>
      rw [List.flatMap_cons, List.getElem?_append_left (by omega)]
      simp
    | succ i =>
      rw [List.flatMap_cons, List.getElem?_append_right (by rw [hx]; simp [Nat.succ_mul]; omega), hx, show (i + 1) * C + j - C = i * C + j by rw [Nat.succ_mul]; omega]
      rw [ih (fun y hy => hl y (List.mem_cons_of_mem _ hy)) i (by simpa using hi)]
      simp
theorem flat_len {α : Type} (f : α → List Value) (C : Nat) (l : List α) (hl : ∀ x, (f x).length = C) : (l.flatMap f).length = l.length * C := by
  induction l with
  | nil => simp
  | cons x r ih => rw [List.flatMap_cons, List.length_append, ih, List.length_cons, hl, Nat.succ_mul]; omega
/-- The first n of the document's takers in cells. -/
def flR (r : Nat → RT) (n : Nat) : List Value := ((List.range n).map r).flatMap rC
theorem flR_len (t : Nat → RT) (n : Nat) : (flR t n).length = n * 7 := by unfold flR; rw [flat_len rC 7 _ (fun _ => rfl)]; simp
theorem flR_get (t : Nat → RT) (n i j : Nat) (hi : i < n) (hj : j < 7) : (flR t n)[i * 7 + j]? = (rC (t i))[j]? := by
  unfold flR
  rw [flat_get rC 7 rZ _ (fun _ _ => rfl) i j (by simpa using hi) hj]
  simp [List.getD, hi]
theorem flR_next (t : Nat → RT) (k : Nat) : flR t k ++ rC (t k) = flR t (k + 1) := by unfold flR; rw [List.range_succ, List.map_append, List.flatMap_append]; simp
theorem info41 : (Tryd.prog.info? 41).map (fun i => (i.zero, i.size, i.bytes)) = some (some (.agg #[.int .i64 0, .int .i64 0, .int .i64 0, .int .i64 0, .int .i64 0, .int .i64 0, .bool false]), 7, 56) := by kernel_rfl
/-- The document's takers in a row of their own. -/
def OwnT (w : World) (G n : Nat) (t : Nat → RT) : Prop := G < w.heap.size ∧ (∀ i j, i < n → j < 7 → w.cell? ⟨G, i * 7 + j, none⟩ = (rC (t i))[j]?) ∧ ∀ j, w.frozen? ⟨G, j, none⟩ = false
theorem OwnT.of_row {w : World} {base G n cap : Nat} {t : Nat → RT} (hG : G < w.heap.size) (h : w.ownsRow base 41 7 (.slice (some ⟨G, 0, none⟩) n cap) n (flR t n)) : OwnT w G n t :=
  ⟨hG, fun i j hi hj => by rw [World.ownsRow.cellAt h (i * 7 + j) (by omega), flR_get t n i j hi hj], fun j => World.ownsRow.frozenAt h j⟩
theorem OwnT.same {w w' : World} {G n : Nat} {t : Nat → RT} (h : OwnT w G n t) (e : w'.heap[G]? = w.heap[G]?) (hs : w.heap.size ≤ w'.heap.size) : OwnT w' G n t :=
  ⟨Nat.lt_of_lt_of_le h.1 hs, fun i j hi hj => by rw [World.cell?_of_block (w := w) e]; exact h.2.1 i j hi hj, fun j => by rw [World.frozen?_of_block (w := w) e]; exact h.2.2 j⟩
theorem chg_one {G : Nat} {w w' : World} {a : Addr} (h : Chg (fun k => k = G) w w') (ha : a.block = G) (v : Value) : Chg (fun k => k = G) w (w'.setCell a v) := h.set ha v
theorem chg_setCells (G : Nat) : ∀ (vs : List Value) (o : Nat) (w : World), Chg (fun k => k = G) w (w.setCells G o vs)
  | [], _, w => Chg.refl w
  | v :: vs, o, w => (chg_one (a := ⟨G, o, none⟩) (Chg.refl w) rfl v).trans (chg_setCells G vs (o + 1) (w.setCell ⟨G, o, none⟩ v))
theorem OwnT.there {w : World} {G n : Nat} {t : Nat → RT} (h : OwnT w G n t) {i : Nat} (hi : i < n) : w.there G (i * 7) 7 := fun j hj => by
  rw [h.2.1 i j hi hj]
  exact ⟨by rw [List.getElem?_eq_getElem (by simpa [rC] using hj)]; rfl, h.2.2 _⟩
/-- One stored. -/
theorem OwnT.store {w : World} {G n : Nat} {t : Nat → RT} (h : OwnT w G n t) {i : Nat} (hi : i < n) (t' : RT) : OwnT (w.setCells G (i * 7) (rC t')) G n (upd t i t') ∧ Chg (fun k => k = G) w (w.setCells G (i * 7) (rC t')) := by
  have hC : Chg (fun k => k = G) w (w.setCells G (i * 7) (rC t')) := chg_setCells G _ _ w
  refine ⟨⟨Nat.lt_of_lt_of_le h.1 hC.size, fun i2 j hi2 hj => ?_, fun j => ?_⟩, hC⟩
  · by_cases e : i2 = i
    · subst e
      rw [upd_same]
      have := World.rangeAt_setCells_same w G (i2 * 7) (rC t') (h.there hi) j _ (List.getElem?_eq_getElem (by simpa [rC] using hj))
      rw [this, List.getElem?_eq_getElem]
    · rw [upd_other e]
      have hr : w.rangeAt G (i2 * 7) (rC (t i2)) := fun j' v hv => by
        have hj' : j' < 7 := by have := (List.getElem?_eq_some_iff.1 hv).1; simpa [rC] using this
        rw [h.2.1 i2 j' hi2 hj']; exact hv
      have := World.rangeAt_setCells_apart hr G (i * 7) (rC t') (.inr (by simp [rC]; omega)) j _ (List.getElem?_eq_getElem (by simpa [rC] using hj))
      rw [this, List.getElem?_eq_getElem]
  · simp only [rC, World.setCells]
    rw [World.frozen?_setCell, World.frozen?_setCell, World.frozen?_setCell, World.frozen?_setCell, World.frozen?_setCell, World.frozen?_setCell, World.frozen?_setCell]
    exact h.2.2 j
/-- The append of a taker at a step. -/
theorem step_app_pt {w V : World} {ops : Array Oper} {o : Oper} {a : Act} {K : Act → World → Prop} {Q : Exit → Act → World → Prop} {E : Prop} (hgd : o.guard = none) (s x : Operand)
    (ho : o.op = .call { callee := .builtin .append, args := #[s, x], argTypes := #[33, 33] }) {base k g cap : Nat} {xs : List Value} (u : Value) (hu : u.oneCell' = true) (hown : V.ownsRow base 37 1 (.slice (some ⟨g, 0, none⟩) k cap) k xs) (hV : w.heap[g]? = V.heap[g]?) (hb : base ≤ w.heap.size) (hk : k ≤ 1000)
    (hs : a.eval s = .slice (some ⟨g, 0, none⟩) k cap) (H : Nat) (hx : a.eval x = .slice (some ⟨H, 0, none⟩) 1 1) (hH : w.heap[H]? = some (.cells #[u] 37 (0, 0)))
    (h : ∀ g' cap' w', w'.ownsRow base 37 1 (.slice (some ⟨g', 0, none⟩) (k + 1) cap') (k + 1) (xs ++ [u]) → Chg (fun x => x = g) w w' → (g' = g ∨ w.heap.size ≤ g') → g' < w'.heap.size → K (a.put o.dst (.slice (some ⟨g', 0, none⟩) (k + 1) cap')) w') :
    if Region.wanted o (yielded ops a.tmps) = true then Oper.wp Tryd.prog o a w K Q else E := by
  obtain ⟨i0, hi, hz0, hz1, hz2⟩ := info_parts info37
  refine step_append_lies w hgd s x 33 ho base 37 i0 (.pointer none) 1 8 Tryd.underlying33 hi hz0 hz1 hz2 rfl (by decide) _ k xs hs (ownsRow_same hown hV) ⟨H, 0, none⟩ 1 1 [u] hx rfl (World.news_of_block hH) (fun v hv => by simp at hv; subst hv; exact hu) (by decide) (by unfold maxLen; omega) (by omega) hb w.heap.size rfl ?_
  intro g' cap' w' h1 hgrow hat hlt
  refine h g' cap' w' h1 ⟨hgrow.os, hgrow.tape, hgrow.output, hgrow.size, fun x hx hn => hgrow.block x hx (by intro e; injection e with e; exact hn e)⟩ ?_ hlt
  rcases hat with e | e
  · injection e with e; exact .inl e.symm
  · exact .inr (by omega)
/-- The append of a document's taker at a step. -/
theorem step_app_want {w V : World} {ops : Array Oper} {o : Oper} {a : Act} {K : Act → World → Prop} {Q : Exit → Act → World → Prop} {E : Prop} (hgd : o.guard = none) (s x : Operand)
    (ho : o.op = .call { callee := .builtin .append, args := #[s, x], argTypes := #[34, 34] }) {base k g cap : Nat} {t : Nat → RT} (t' : RT) (hown : V.ownsRow base 41 7 (.slice (some ⟨g, 0, none⟩) k cap) k (flR t k)) (hV : w.heap[g]? = V.heap[g]?) (hb : base ≤ w.heap.size) (hk : k ≤ 1000) (ht : t' = t k)
    (hs : a.eval s = .slice (some ⟨g, 0, none⟩) k cap) (H : Nat) (hx : a.eval x = .slice (some ⟨H, 0, none⟩) 1 1) (hH : w.heap[H]? = some (.cells (rC t').toArray 41 (0, 0)))
    (h : ∀ g' cap' w', w'.ownsRow base 41 7 (.slice (some ⟨g', 0, none⟩) (k + 1) cap') (k + 1) (flR t (k + 1)) → Chg (fun x => x = g) w w' → (g' = g ∨ w.heap.size ≤ g') → g' < w'.heap.size → K (a.put o.dst (.slice (some ⟨g', 0, none⟩) (k + 1) cap')) w') :
    if Region.wanted o (yielded ops a.tmps) = true then Oper.wp Tryd.prog o a w K Q else E := by
  subst ht
  obtain ⟨i0, hi, hz0, hz1, hz2⟩ := info_parts info41
  refine step_append_lies w hgd s x 34 ho base 41 i0 _ 7 56 Tryd.underlying34 hi hz0 hz1 hz2 rfl (by decide) _ k (flR t k) hs (ownsRow_same hown hV) ⟨H, 0, none⟩ 1 1 (rC (t k)) hx rfl (World.news_of_block hH) (fun v hv => by simp [rC] at hv; rcases hv with rfl | rfl | rfl | rfl | rfl | rfl | rfl <;> rfl) (by decide) (by unfold maxLen; omega) (by omega) hb w.heap.size rfl ?_
  intro g' cap' w' h1 hgrow hat hlt
  rw [flR_next] at h1
  refine h g' cap' w' h1 ⟨hgrow.os, hgrow.tape, hgrow.output, hgrow.size, fun x hx hn => hgrow.block x hx (by intro e; injection e with e; exact hn e)⟩ ?_ hlt
  rcases hat with e | e
  · injection e with e; exact .inl e.symm
  · exact .inr (by omega)
/-- A step by the number of its result. -/
theorem dst_is {ys : Nat → Option Bool} {o : Oper} {X E : Prop} (d : Option Tmp) (_ : o.dst = d) (h : if Region.wanted o ys = true then X else E) : if Region.wanted o ys = true then X else E := h
theorem heap_at (w : World) (c : Array Value) (t : TypeId) (H : Nat) (hH : H = w.heap.size) : (w.alloc (.cells c t)).heap[H]? = some (.cells c t (0, 0)) := by subst hH; exact heap_alloc_new w _
theorem heap_past {w : World} {o : Obj} {H : Nat} {x : Obj} (h : w.heap[H]? = some x) : (w.alloc o).heap[H]? = some x := by
  rw [Below.heap_alloc w o H (by rcases Nat.lt_or_ge H w.heap.size with h' | h'
                                 · exact h'
                                 · rw [Array.getElem?_eq_none h'] at h; cases h)]
  exact h
theorem heap_old {w V : World} {o : Obj} {g : Nat} (h : w.heap[g]? = V.heap[g]?) (hg : g < w.heap.size) : (w.alloc o).heap[g]? = V.heap[g]? := by rw [Below.heap_alloc w o g hg]; exact h
theorem heap_drew_at {w : World} {H : Nat} {x : Option Obj} (h : w.heap[H]? = x) : w.drew.heap[H]? = x := h
/-- Through a change elsewhere. -/
theorem heap_chg {S : Nat → Prop} {w w' : World} {H : Nat} {x : Option Obj} (hC : Chg S w w') (h : w.heap[H]? = x) (hl : H < w.heap.size) (hS : ¬ S H) : w'.heap[H]? = x := by rw [hC.block H hl hS]; exact h
/-- A kind's place, brought nearer. -/
def nearA (a : Int) : Int := if 1000 < a then 0 else if a < -1000 then 0 else a
theorem nearA_rng (a : Int) : -1000 ≤ nearA a ∧ nearA a ≤ 1000 := by unfold nearA; split <;> (try split) <;> omega
theorem pt_row (B : Nat → Nat) (k B' : Nat) : (List.range k).map (fun j => pt (B j)) ++ [pt B'] = (List.range (k + 1)).map fun j => pt (upd B k B' j) := range_app pt k B B'
theorem flR_upd (r : Nat → RT) (k : Nat) (r' : RT) : flR (upd r k r') k = flR r k := by
  unfold flR
  congr 1
  exact List.map_congr_left fun j hj => by
    have : j ≠ k := by have := List.mem_range.1 hj; omega
    rw [upd_other this]
/-- The relation of the first loop. -/
structure Play1 (w0 : World) (k ga ca gb cb : Nat) (B : Nat → Nat) (t : Nat → Tk) (r : Nat → RT) (w : World) : Prop where
  ra : w.ownsRow w0.heap.size 37 1 (.slice (some ⟨ga, 0, none⟩) k ca) k ((List.range k).map fun j => pt (B j))
  rb : w.ownsRow w0.heap.size 41 7 (.slice (some ⟨gb, 0, none⟩) k cb) k (flR r k)
  tk : ∀ j, j < k → TakerAt w (B j) (t j)
  rr : ∀ j, j < k → RR (t j) (r j)
  dif : ∀ j, j < k → w0.heap.size ≤ B j ∧ B j ≠ ga ∧ B j ≠ gb
  sep : ∀ i j, i < k → j < k → i ≠ j → B i ≠ B j
  ne : ga ≠ gb
  lo : w0.heap.size ≤ ga ∧ w0.heap.size ≤ gb
  lt : ga < w.heap.size ∧ gb < w.heap.size
  bel : Below w0.heap.size w0 w
def PlayRel1 (n : Nat) (w0 : World) (al wt i : Value) (wr : World) : Prop :=
  ∃ k m ga ca gb cb B t r, k ≤ n ∧ m ≤ k ∧ i = .int .i64 ((k : Nat) : Int) ∧ al = .slice (some ⟨ga, 0, none⟩) m ca ∧ wt = .slice (some ⟨gb, 0, none⟩) m cb ∧ Play1 w0 m ga ca gb cb B t r wr
theorem play1_nil (w : World) (t : Nat → Tk) (r : Nat → RT) : Play1 w 0 w.heap.size 0 (w.heap.size + 1) 0 (fun _ => 0) t r ((w.alloc (.cells #[] 37)).alloc (.cells #[] 41)) := by
  have hA : Below (w.alloc (.cells #[] 37)).heap.size (w.alloc (.cells #[] 37)) ((w.alloc (.cells #[] 37)).alloc (.cells #[] 41)) := (Below.refl _ _).alloc (Nat.le_refl _) _
  refine ⟨?_, ?_, fun j hj => absurd hj (by omega), fun j hj => absurd hj (by omega), fun j hj => absurd hj (by omega), fun i j hi => absurd hi (by omega), by omega, by omega, (by simp; omega), ((Below.refl _ _).alloc (Nat.le_refl _) _).alloc (by simp) _⟩
  · have := World.ownsRow_lit (base := w.heap.size) (e := 37) (size := 1) w #[] 0 (Nat.le_refl _) (by decide) rfl
    exact ownsRow_same (this : (w.alloc (.cells #[] 37)).ownsRow w.heap.size 37 1 (.slice (some ⟨w.heap.size, 0, none⟩) 0 0) 0 []) (hA.block _ (by simp))
  · have := World.ownsRow_lit (base := w.heap.size) (e := 41) (size := 7) (w.alloc (.cells #[] 37)) #[] 0 (by simp) (by decide) rfl
    rw [show flR r 0 = [] from rfl]
    simpa using this
theorem play1_keep {k ga ca gb cb : Nat} {B : Nat → Nat} {t : Nat → Tk} {r : Nat → RT} {w0 w w' : World} (h : Play1 w0 k ga ca gb cb B t r w) (hB : Below w.heap.size w w') : Play1 w0 k ga ca gb cb B t r w' :=
  ⟨ownsRow_same h.ra (hB.block _ h.lt.1), ownsRow_same h.rb (hB.block _ h.lt.2), fun j hj => (h.tk j hj).keep hB, h.rr, h.dif, h.sep, h.ne, h.lo, by have := h.lt; have := hB.size; omega, h.bel.trans (hB.mono h.bel.size)⟩
theorem play1_next {k ga ca gb cb ga' ca' gb' cb' B' : Nat} {B : Nat → Nat} {t : Nat → Tk} {r : Nat → RT} {t' : Tk} {r' : RT} {w0 wr V w5 : World} (h : Play1 w0 k ga ca gb cb B t r wr) (hB' : wr.heap.size ≤ B') (hBV : Below wr.heap.size wr V) (hT : TakerAt V B' t') (hR : RR t' r')
    (hra : w5.ownsRow w0.heap.size 37 1 (.slice (some ⟨ga', 0, none⟩) (k + 1) ca') (k + 1) ((List.range k).map (fun j => pt (B j)) ++ [pt B'])) (hrb : w5.ownsRow w0.heap.size 41 7 (.slice (some ⟨gb', 0, none⟩) (k + 1) cb') (k + 1) (flR (upd r k r') (k + 1)))
    (hC : Chg (fun x => x = ga ∨ x = gb) V w5) (ha : ga' = ga ∨ V.heap.size ≤ ga') (hb : gb' = gb ∨ V.heap.size ≤ gb') (hab : ga' ≠ gb') (hla : ga' < w5.heap.size) (hlb : gb' < w5.heap.size) : Play1 w0 (k + 1) ga' ca' gb' cb' (upd B k B') (upd t k t') (upd r k r') w5 := by
  have s1 := hBV.size
  have s2 := hC.size
  have hlt := hT.lt
  have h0 := h.bel.size
  have gla := h.lt
  have glo := h.lo
  have hC2 : ∀ x, x < wr.heap.size → x ≠ ga → x ≠ gb → w5.heap[x]? = wr.heap[x]? := fun x hx h1 h2 => by
    rw [hC.block x (by omega) (by omega), hBV.block x hx]
  have hT5 : TakerAt w5 B' t' := hT.same (hC.block _ hlt (by omega))
  refine ⟨by rw [← pt_row]; exact hra, hrb, fun j hj => ?_, fun j hj => ?_, fun j hj => ?_, fun i j hi hj hne => ?_, hab, by omega, ⟨hla, hlb⟩, (h.bel.trans (hBV.mono h0)).trans (hC.below (fun x e => by omega) (by omega))⟩
  · by_cases e : j = k
    · subst e; rw [upd_same, upd_same]; exact hT5
    · rw [upd_other e, upd_other e]
      have hd := h.dif j (by omega)
      have hj' := h.tk j (by omega)
      exact hj'.same (hC2 _ hj'.lt hd.2.1 hd.2.2)
  · by_cases e : j = k
    · subst e; rw [upd_same, upd_same]; exact hR
    · rw [upd_other e, upd_other e]; exact h.rr j (by omega)
  · by_cases e : j = k
    · subst e; rw [upd_same]; omega
    · rw [upd_other e]
      have hd := h.dif j (by omega)
      have hj' := (h.tk j (by omega)).lt
      omega
  · by_cases e : i = k
    · subst e
      rw [upd_same, upd_other (by omega)]
      have := (h.tk j (by omega)).lt
      omega
    · rw [upd_other e]
      by_cases e2 : j = k
      · subst e2; rw [upd_same]; have := (h.tk i (by omega)).lt; omega
      · rw [upd_other e2]; exact h.sep i j (by omega) (by omega) hne
/-- The box of a kind. -/
structure KBox (w0 : World) (a c t : Int) (w : World) : Prop where
  c0 : w.cell? ⟨w0.heap.size, 0, none⟩ = some (.int .i64 a)
  c1 : w.cell? ⟨w0.heap.size, 1, none⟩ = some (.int .i64 c)
  c2 : w.cell? ⟨w0.heap.size, 2, none⟩ = some (.int .i64 t)
  fz : ∀ j, w.frozen? ⟨w0.heap.size, j, none⟩ = false
  bel : Below w0.heap.size w0 w
  size : w.heap.size = w0.heap.size + 1
theorem kbox_new (w : World) (a c t : Int) : KBox w a c t (w.alloc (.cells #[.int .i64 a, .int .i64 c, .int .i64 t] 36)) :=
  ⟨al_new _ _ _ 0 _ rfl rfl, al_new _ _ _ 1 _ rfl rfl, al_new _ _ _ 2 _ rfl rfl, fun j => frozen_at _ _ _ j _ rfl, (Below.refl _ _).alloc (Nat.le_refl _) _, by simp⟩
theorem KBox.set2 {w0 w : World} {a c t : Int} (h : KBox w0 a c t w) (x : Int) : KBox w0 a c x (w.setCell ⟨w0.heap.size, 2, none⟩ (.int .i64 x)) :=
  ⟨by rw [World.cell?_setCell_other _ _ _ _ (by simp)]; exact h.c0, by rw [World.cell?_setCell_other _ _ _ _ (by simp)]; exact h.c1, World.cell?_setCell_same _ _ _ h.c2, fun j => by rw [World.frozen?_setCell]; exact h.fz j, h.bel.setCell (Nat.le_refl _) _, by simpa using h.size⟩
theorem KBox.set0 {w0 w : World} {a c t : Int} (h : KBox w0 a c t w) (x : Int) : KBox w0 x c t (w.setCell ⟨w0.heap.size, 0, none⟩ (.int .i64 x)) :=
  ⟨World.cell?_setCell_same _ _ _ h.c0, by rw [World.cell?_setCell_other _ _ _ _ (by simp)]; exact h.c1, by rw [World.cell?_setCell_other _ _ _ _ (by simp)]; exact h.c2, fun j => by rw [World.frozen?_setCell]; exact h.fz j, h.bel.setCell (Nat.le_refl _) _, by simpa using h.size⟩
end Go.Proofs.YtcjhbmkpfclmfaaDoor
