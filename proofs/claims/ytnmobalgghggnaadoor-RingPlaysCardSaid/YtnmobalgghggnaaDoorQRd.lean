/-
  Two appends at steps of a region that draws its order.
-/
import Derived.Test.YtnmobalgghggnaaDoorQRef
import Derived.Deep.AppendLies
import Derived.Deep.RegionHeld
import Derived.Deep.RegionHeld3
import Derived.Deep.Cut
namespace Go.Proofs.YtnmobalgghggnaaDoor
open Go.RowKit

theorem heap_at (w : World) (c : Array Value) (t : TypeId) (H : Nat) (hH : H = w.heap.size) : (w.alloc (.cells c t)).heap[H]? = some (.cells c t (0, 0)) := by subst hH; exact heap_alloc_new w _
theorem heap_past {w : World} {o : Obj} {H : Nat} {x : Obj} (h : w.heap[H]? = some x) : (w.alloc o).heap[H]? = some x := by
  rw [Below.heap_alloc w o H (by rcases Nat.lt_or_ge H w.heap.size with h' | h'
                                 · exact h'
                                 · rw [Array.getElem?_eq_none h'] at h; cases h)]
  exact h
theorem heap_drew_at {w : World} {H : Nat} {x : Option Obj} (h : w.heap[H]? = x) : w.drew.heap[H]? = x := h
theorem heap_chg {S : Nat → Prop} {w w' : World} {H : Nat} {x : Obj} (hC : Chg S w w') (h : w.heap[H]? = some x) (hS : ¬ S H) : w'.heap[H]? = some x := by
  rw [hC.block H (Array.getElem?_eq_some_iff.1 h).1 hS]; exact h
theorem own_lit {w : World} {G : Nat} (h : w.heap[G]? = some (.cells #[] 9 (0, 0))) : w.ownsRow G 9 1 (.slice (some ⟨G, 0, none⟩) 0 0) 0 [] :=
  ⟨rfl, .inr ⟨G, 0, #[], rfl, Nat.le_refl _, h, Nat.le_refl _, by decide, rfl, rfl⟩⟩
set_option maxRecDepth 100000 in
theorem step_spread {ops : Array Oper} {o : Oper} {a : Act} {K : Act → World → Prop} {Q : Exit → Act → World → Prop} {E : Prop} (hgd : o.guard = none) (s x : Operand)
    (ho : o.op = .call { callee := .builtin .append, args := #[s, x], argTypes := #[24, 24] }) {w : World} {G n cp : Nat} {P : Option Addr} {xs : List Value} (hs : a.eval s = .slice (some ⟨G, 0, none⟩) 0 0) (hx : a.eval x = .slice P n cp) (hn : n = xs.length) (hnil : P = none → cp = 0) (hk : xs.length ≤ 100000) (h1 : ∀ u ∈ xs, u.oneCell' = true) (hG : w.heap[G]? = some (.cells #[] 9 (0, 0))) (hP : Vals w P xs)
    (hQ : ∀ g' cap' w2, G ≤ g' → g' < w2.heap.size → Grow w2 9 (.slice (some ⟨g', 0, none⟩) n cap') xs → Chg (fun x => x = G) w w2 → K (a.put o.dst (.slice (some ⟨g', 0, none⟩) n cap')) w2) :
    if Region.wanted o (yielded ops a.tmps) = true then Oper.wp Tryd.prog o a w K Q else E := by
  subst hn
  obtain ⟨i0, hi, hz0, hz1, hz2⟩ := info_parts info9
  have hw : Region.wanted o (yielded ops a.tmps) = true := by simp [Region.wanted, hgd]
  rw [if_pos hw]
  have hown := own_lit hG
  have hGl : G < w.heap.size := (Array.getElem?_eq_some_iff.1 hG).1
  have key : ∀ v' w', w'.ownsRow G 9 1 v' xs.length xs → v' ≠ .slice none 0 0 → Chg (fun x => x = G) w w' → K (a.put o.dst v') w' := fun v' w' h hne hC => by
    rcases h.2 with ⟨h2, _⟩ | ⟨g, cap, cur, rfl, hg, rest⟩
    · exact absurd h2 hne
    · exact hQ g cap w' hg (World.ownsRow.lt h g rfl).2 ⟨h.1, .inr ⟨g, cap, cur, rfl, Nat.zero_le _, rest⟩⟩ hC
  cases P with
  | none =>
    obtain rfl : cp = 0 := hnil rfl
    have hL0 : xs = [] := by
      rcases Nat.eq_zero_or_pos xs.length with h | h
      · exact List.length_eq_zero_iff.1 h
      · obtain ⟨_, _, e, _⟩ := hP 0 _ (List.getElem?_eq_getElem h); cases e
    subst hL0
    have hrun := run_append_owned_none (P := Tryd.prog) (w := w) G 24 o.type 9 i0 1 Tryd.underlying24 hi _ 0 [] hown
    have hx : a.eval x = .slice none 0 0 := hx
    unfold Oper.wp
    simp [execOp, ho, resolve, invoke, builtin, hs, hx, hrun, Result.andThen]
    exact key _ _ hown (by simp) (Chg.refl _)
  | some ad =>
    refine wp_append_own w s x 24 ho G 9 i0 (.string ⟨#[]⟩) 1 16 Tryd.underlying24 hi hz0 hz1 hz2 rfl (by decide) _ 0 [] hs hown ad xs.length cp xs hx (by simp) ?_ h1 (by unfold maxLen; omega) (by omega) (by omega) ?_
    · intro j u hu
      obtain ⟨b, o', e, hc⟩ := hP j u hu
      injection e with e
      subst e
      rw [Go.WideShapes.add_plain]
      exact hc
    · intro v' w' hown' hgrow hiff
      have hO : w'.ownsRow G 9 1 v' xs.length xs := by simpa using hown'
      refine key v' w' hO (fun e => ?_) ⟨hgrow.os, hgrow.tape, hgrow.output, hgrow.size, fun x hx hn => hgrow.block x hx (fun e => hn (Option.some.inj e))⟩
      have := (hiff.1 e).1
      simp at this
set_option maxRecDepth 100000 in
theorem step_one {ops : Array Oper} {o : Oper} {a : Act} {K : Act → World → Prop} {Q : Exit → Act → World → Prop} {E : Prop} (hgd : o.guard = none) (s x : Operand)
    (ho : o.op = .call { callee := .builtin .append, args := #[s, x], argTypes := #[24, 24] }) {w : World} {g1 n cap1 B : Nat} {u : Value} {xs : List Value} (hs : a.eval s = .slice (some ⟨g1, 0, none⟩) n cap1) (hx : a.eval x = .slice (some ⟨B, 0, none⟩) 1 1) (hn : n = xs.length) (hk : xs.length ≤ 100000) (hu : u.oneCell' = true) (hB : w.heap[B]? = some (.cells #[u] 9 (0, 0))) (h : Grow w 9 (.slice (some ⟨g1, 0, none⟩) n cap1) xs)
    (hQ : ∀ g3 cap3 w2, Grow w2 9 (.slice (some ⟨g3, 0, none⟩) (n + 1) cap3) (xs ++ [u]) → Chg (fun x => x = g1) w w2 → (g3 = g1 ∨ w.heap.size ≤ g3) → g3 < w2.heap.size → K (a.put o.dst (.slice (some ⟨g3, 0, none⟩) (n + 1) cap3)) w2) :
    if Region.wanted o (yielded ops a.tmps) = true then Oper.wp Tryd.prog o a w K Q else E := by
  subst hn
  obtain ⟨i0, hi, hz0, hz1, hz2⟩ := info_parts info9
  refine step_append_lies w hgd s x 24 ho 0 9 i0 (.string ⟨#[]⟩) 1 16 Tryd.underlying24 hi hz0 hz1 hz2 rfl (by decide) _ xs.length xs hs h ⟨B, 0, none⟩ 1 1 [u] hx rfl (World.news_of_block hB) (fun v hv => by simp at hv; subst hv; exact hu) (by decide) (by unfold maxLen; omega) (by omega) (Nat.zero_le _) w.heap.size rfl ?_
  intro g' cap' w' h1' hgrow hat hlt
  refine hQ g' cap' w' (by unfold Grow; rw [List.length_append]; exact h1') ⟨hgrow.os, hgrow.tape, hgrow.output, hgrow.size, fun x hx hn => hgrow.block x hx (fun e => hn (Option.some.inj e))⟩ ?_ hlt
  rcases hat with e | e
  · exact .inl (Option.some.inj e).symm
  · exact .inr (by omega)
end Go.Proofs.YtnmobalgghggnaaDoor
/-
  A region that draws its order and ends in stores: a condition on the world that holds up to them.
-/
namespace Go.Proofs.YtnmobalgghggnaaDoor
open Go Go.RowKit

theorem heap_lt {w : World} {H : Nat} {x : Obj} (h : w.heap[H]? = some x) : H < w.heap.size := by
  rcases Nat.lt_or_ge H w.heap.size with h' | h'
  · exact h'
  · rw [Array.getElem?_eq_none h'] at h; cases h
section
variable {P : Program} {ops : Array Oper} {Q : Exit → Act → World → Prop} {md : Region.Mode} {C D E : World → Prop} {st : Nat → Bool}
/-- One of the last ones has come up. -/
def lateL (ops : Array Oper) (st : Nat → Bool) (l : Array Bool) : Bool := (List.range ops.size).any fun s => st s && l.getD s false
theorem lateL_mono {l : Array Bool} {j : Nat} (h : lateL ops st l = true) : lateL ops st (l.setIfInBounds j true) = true := by
  obtain ⟨s, hs, h2⟩ := List.any_eq_true.1 h
  simp only [Bool.and_eq_true] at h2
  exact List.any_eq_true.2 ⟨s, hs, by rw [h2.1, getD_set_true h2.2]; rfl⟩
theorem lateL_set {l : Array Bool} {j : Nat} (h : st j = false) : lateL ops st (l.setIfInBounds j true) = lateL ops st l := by
  unfold lateL
  congr 1
  funext s
  by_cases e : j = s
  · subst e; rw [h]; rfl
  · rw [getD_set_ne false e]
/-- Whatever comes up from here on; behind each D holds, and, up to the last ones, C. -/
def upL (P : Program) (md : Region.Mode) (ops : Array Oper) (Q : Exit → Act → World → Prop) (C D : World → Prop) (st : Nat → Bool) : Nat → Array Bool → Act → World → Prop
  | 0, listed, a, w => Region.ready md ops listed = [] ∧ Q .normal a w
  | n + 1, listed, a, w => (Region.ready md ops listed = [] → Q .normal a w) ∧
      ∀ i ∈ Region.ready md ops listed, wpOp P ops Q i (fun a' w' => (D w' ∧ (lateL ops st (listed.setIfInBounds i true) = true ∨ C w')) ∧ upL P md ops Q C D st n (listed.setIfInBounds i true) a' w') a w
theorem any_of_upL : ∀ (n : Nat) (listed : Array Bool) (a : Act) (w : World), upL P md ops Q C D st n listed a w → wpAny P md ops Q n listed a w
  | 0, _, _, _, h => h
  | n + 1, _, _, _, h => ⟨h.1, fun i hi => wpOp_mono (fun a' w' h' => any_of_upL n _ a' w' h'.2) (h.2 i hi)⟩
/-- All the last ones wait for this one. -/
def waitsL (md : Region.Mode) (ops : Array Oper) (st : Nat → Bool) (i : Nat) : Bool :=
  (List.range ops.size).all fun s => !st s || (match ops[s]? with
    | some o => o.after.any fun e => Region.binds md e && e.on == i
    | none => true)
theorem waitsL_spec {i : Nat} (h : waitsL md ops st i = true) {s : Nat} {o : Oper} (ho : ops[s]? = some o) (hs : st s = true) : ∃ e ∈ o.after, Region.binds md e = true ∧ e.on = i := by
  have hlt : s < ops.size := by
    rcases Nat.lt_or_ge s ops.size with h' | h'
    · exact h'
    · rw [Array.getElem?_eq_none h'] at ho; cases ho
  have := List.all_eq_true.1 h s (List.mem_range.2 hlt)
  simp only [hs, ho, Bool.not_true, Bool.false_or] at this
  obtain ⟨k, hk, hb⟩ := Array.any_eq_true.1 this
  simp only [Bool.and_eq_true, beq_iff_eq] at hb
  exact ⟨_, Array.getElem_mem hk, hb⟩
theorem firstL {i : Nat} {oi : Oper} {v : Value} (hi : ops[i]? = some oi) (hsel : ∀ (j : Nat) (o : Oper) cs b, ops[j]? = some o → o.op ≠ .select cs b)
    (hQ : ∀ c a w, Q (.panic c) (a.put oi.dst v) w → Q (.panic c) a w) :
    ∀ (n : Nat) (listed : Array Bool) (a : Act) (w : World),
      (∀ j oj, ops[j]? = some oj → j ≠ i → listed.getD j true = false → (∀ e ∈ oj.after, Region.binds md e = true → e.on ≠ i) → oi.apart ops oj = true) →
      i ∈ Region.ready md ops listed → YieldsIf P ops E oi v a → E w → D w → (lateL ops st listed = true ∨ C w) → (st i = false ∨ lateL ops st listed = true) →
      ((waitsL md ops st i = true ∧ (∀ w, C w → E w) ∧ lateL ops st listed = false) ∨ ∀ w, D w → E w) →
      upL P md ops Q C D st n (listed.setIfInBounds i true) (a.put oi.dst v) w → upL P md ops Q C D st (n + 1) listed a w := by
  intro n
  induction n with
  | zero =>
    intro listed a w _ hr hy hE hD hC _ _ H
    refine ⟨fun h => (by rw [h] at hr; cases hr), fun j hj => ?_⟩
    by_cases hji : j = i
    · subst hji; exact hy.wpOp hi hE ⟨⟨hD, hC.imp lateL_mono id⟩, H⟩
    · have := ready_mono hj hji
      rw [H.1] at this
      cases this
  | succ n ih =>
    intro listed a w hfree hr hy hE hD hC hI hM H
    refine ⟨fun h => (by rw [h] at hr; cases hr), fun j hj => ?_⟩
    by_cases hji : j = i
    · subst hji; exact hy.wpOp hi hE ⟨⟨hD, hC.imp lateL_mono id⟩, H⟩
    · have h1 := H.2 j (ready_mono hj hji)
      obtain ⟨hjun, oj, hoj, hall⟩ := mem_ready.1 hj
      have hnot : ∀ e ∈ oj.after, Region.binds md e = true → e.on ≠ i := fun e he hb heq => by
        have h1 := hall e he hb
        have h0 := (mem_ready.1 hr).1
        rw [heq] at h1
        rcases Nat.lt_or_ge i listed.size with h' | h'
        · simp [h'] at h0 h1; rw [h0] at h1; cases h1
        · simp [Array.getElem?_eq_none h'] at h1
      have h2 := wpOp_putIf hoj (hfree j oj hoj hji hjun hnot) (fun cs b => hsel i oi cs b hi) (fun cs b => hsel j oj cs b hoj) hQ hy h1
      have hfree' : ∀ k ok, ops[k]? = some ok → k ≠ i → (listed.setIfInBounds j true).getD k true = false →
          (∀ e ∈ ok.after, Region.binds md e = true → e.on ≠ i) → oi.apart ops ok = true := fun k ok hk hki hun hno => by
        refine hfree k ok hk hki ?_ hno
        by_cases hjk : j = k
        · subst hjk; exact hjun
        · rw [getD_set_ne true hjk] at hun; exact hun
      have hlate : lateL ops st ((listed.setIfInBounds i true).setIfInBounds j true) = true → lateL ops st (listed.setIfInBounds j true) = true := fun h => by
        rcases hI with h0 | h0
        · rw [Array.setIfInBounds_comm _ _ (Ne.symm hji), lateL_set h0] at h; exact h
        · exact lateL_mono h0
      refine wpOp_mono (fun a' w' h3 => ?_) h2
      obtain ⟨h3y, ⟨h3D, h3C⟩, h3⟩ := h3
      have hC' : lateL ops st (listed.setIfInBounds j true) = true ∨ C w' := h3C.imp hlate id
      refine ⟨⟨h3D, hC'⟩, ?_⟩
      have hM' : ((waitsL md ops st i = true ∧ (∀ w, C w → E w) ∧ lateL ops st (listed.setIfInBounds j true) = false) ∨ ∀ w, D w → E w) := by
        rcases hM with ⟨hw, hCE, hl⟩ | hM
        · refine .inl ⟨hw, hCE, ?_⟩
          have hst : st j = false := by
            cases hs : st j
            · rfl
            · obtain ⟨e, he, hb, heq⟩ := waitsL_spec hw hoj hs
              exact absurd heq (hnot e he hb)
          rw [lateL_set hst]; exact hl
        · exact .inr hM
      refine ih (listed.setIfInBounds j true) a' w' hfree' (ready_mono hr (Ne.symm hji)) h3y ?_ h3D hC' (hI.imp id lateL_mono) hM' ?_
      · rcases hM' with ⟨_, hCE, hl⟩ | hM'
        · rcases hC' with h | h
          · rw [hl] at h; cases h
          · exact hCE _ h
        · exact hM' _ h3D
      · rw [Array.setIfInBounds_comm _ _ hji]
        exact h3
theorem upL_take (E : World → Prop) {i : Nat} {oi : Oper} {v : Value} {n : Nat} {listed : Array Bool} {a : Act} {w : World} (hi : ops[i]? = some oi)
    (hs : Region.noSelect ops = true) (hf : Region.free md ops listed i = true) (hr : (Region.ready md ops listed).contains i = true)
    (hI : (!st i || lateL ops st listed) = true) (hM : ((waitsL md ops st i && !lateL ops st listed) = true ∧ (∀ w, C w → E w)) ∨ ∀ w, D w → E w)
    (hQ : ∀ c a w, Q (.panic c) (a.put oi.dst v) w → Q (.panic c) a w) (hy : YieldsIf P ops E oi v a) (hE : E w) (hD : D w) (hC : lateL ops st listed = true ∨ C w)
    (h : upL P md ops Q C D st n (listed.setIfInBounds i true) (a.put oi.dst v) w) : upL P md ops Q C D st (n + 1) listed a w := by
  refine firstL hi (Region.noSelect_spec hs) hQ n listed a w (Region.free_spec hi hf) (by simpa using hr) hy hE hD hC ?_ ?_ h
  · cases hst : st i
    · exact .inl rfl
    · rw [hst] at hI; exact .inr (by simpa using hI)
  · rcases hM with ⟨hm, hCE⟩ | hM
    · simp only [Bool.and_eq_true, Bool.not_eq_true'] at hm
      exact .inl ⟨hm.1, hCE, hm.2⟩
    · exact .inr hM
/-- Each of those that may come up next. -/
def EachL (P : Program) (md : Region.Mode) (ops : Array Oper) (Q : Exit → Act → World → Prop) (C D : World → Prop) (st : Nat → Bool) (n : Nat) (listed : Array Bool) (a : Act) (w : World) (rs : List Nat) : Prop :=
  ∀ i ∈ rs, wpOp P ops Q i (fun a' w' => (D w' ∧ (lateL ops st (listed.setIfInBounds i true) = true ∨ C w')) ∧ upL P md ops Q C D st n (listed.setIfInBounds i true) a' w') a w
theorem EachL.nil {n : Nat} {listed : Array Bool} {a : Act} {w : World} : EachL P md ops Q C D st n listed a w [] := fun _ h => by cases h
theorem EachL.cons {n : Nat} {listed : Array Bool} {a : Act} {w : World} {i : Nat} {o : Oper} {rs : List Nat} (ho : ops[i]? = some o)
    (h : ∀ K' : Act → World → Prop, Shut (∀ a w, D w → (lateL ops st (listed.setIfInBounds i true) = true ∨ C w) → upL P md ops Q C D st n (listed.setIfInBounds i true) a w → K' a w) → if Region.wanted o (yielded ops a.tmps) = true then Oper.wp P o a w K' Q else K' (a.put o.dst undef) w)
    (hs : EachL P md ops Q C D st n listed a w rs) : EachL P md ops Q C D st n listed a w (i :: rs) := fun j hj => by
  rcases List.mem_cons.1 hj with rfl | hj
  · exact wpOp_step ho (fun K' hK => h K' (fun a w hD hS hW => hK a w ⟨⟨hD, hS⟩, hW⟩))
  · exact hs j hj
theorem upL_ready {rs : List Nat} {n : Nat} {listed : Array Bool} {a : Act} {w : World} (hr : Region.ready md ops listed = rs) (hne : rs ≠ [])
    (h : EachL P md ops Q C D st n listed a w rs) : upL P md ops Q C D st (n + 1) listed a w := ⟨fun h0 => absurd (hr ▸ h0) hne, hr ▸ h⟩
theorem upL_done {listed : Array Bool} {a : Act} {w : World} (hr : Region.ready md ops listed = []) (h : Q .normal a w) : ∀ n, upL P md ops Q C D st n listed a w
  | 0 => ⟨hr, h⟩
  | _ + 1 => ⟨fun _ => h, by rw [hr]; simp⟩
theorem region_upL (C D : World → Prop) (st : Nat → Bool) {id : Nat} {a : Act} {w : World} (hm : P.follows .mixedOrders = true)
    (h : upL P .any ops Q C D st ops.size (Array.replicate ops.size false) a w.drew) : (Code.region id ops true).wp P Q a w :=
  wp_region_any hm (any_of_upL _ _ _ _ h)
end
end Go.Proofs.YtnmobalgghggnaaDoor
/-
  The document's Step of a receiver: it tells of the message.
-/
namespace Go.Proofs.YtnmobalgghggnaaDoor
open Go.RowKit
set_option linter.all false

set_option maxHeartbeats 8000000 in
set_option maxRecDepth 100000 in
theorem st_r4 (at' ti hd tl : Int) (pl s n l c11 cp : Nat) (xs : List Value) (A11 U : Option Addr) (tx : ByteArray) (ov : Bool) (f : Nat → Int) (w : World) (ha : -1000 ≤ at' ∧ at' ≤ 1000) (hc : capP (pl : Int) = true) (hz : 1 ≤ s ∧ s ≤ 32) (hhd : 0 ≤ hd ∧ hd < 4294967296) (_ : 0 ≤ tl ∧ tl < 4294967296)
    (hl : l ≤ 32) (hk : (xs.length : Int) < ti) (hU : Ws w U n f) (hf : ∀ i, i < n → 0 ≤ f i ∧ f i < 4294967296) (h0 : 0 < n) (hn : n ≤ 4096) (dd : Int) (i : Nat) (hV : Vals w A11 xs) (hnil : A11 = none → c11 = 0) (h1c : ∀ u ∈ xs, u.oneCell' = true) (hti : ti ≤ 1000) (hdd : dd = 3 + (need l : Nat)) (hl1 : 1 ≤ l) (hlt : l ≤ tx.size) (htx : tx.size ≤ 1000) (hwh : at' = i) (hi : i < n) :
    Calls Tryd.prog 18 #[DS.V ⟨at', pl, s, .slice none 0 0, ti, dd, hd, tl, (l : Nat), tx, .slice none 0 0, .slice A11 xs.length c11, ov⟩, .bool false, .slice U n cp] w fun e w' => DGoT U (fun v => ⟨at', pl, s, .slice none 0 0, ti, 0, hd, tl, (l : Nat), tx, .slice none 0 0, v, ((xs.length + 1 : Nat) : Int) == ti⟩) (xs ++ [.string (tx.extract 0 l)]) n (upd f i (inc hd)) w e w' := by
  have HFD0 := Lib.hid (fd_new w ⟨at', pl, s, .slice none 0 0, ti, dd, hd, tl, (l : Nat), tx, .slice none 0 0, .slice A11 xs.length c11, ov⟩)
  have hov : ((xs.length : Int) == ti) = false := by rw [beq_eq_false_iff_ne]; omega
  have HOV := Lib.hid (fun did hd tl ln tx ov W => over_r at' pl s ti did hd tl ln A11 xs.length c11 tx (.slice none 0 0) (.slice none 0 0) ov W)
  rw [hov] at HOV
  have HP1 := Lib.hid (fun W => refplace_any at' s ti (dd) hd tl (l : Nat) hd pl s tx (.slice none 0 0) (.slice none 0 0) (.slice A11 xs.length c11) ov W ha hc hz rfl hhd)
  have HU := Lib.hid hU
  have HND := Lib.hid (fun W => needs_any _ l W rfl (by omega))
  obtain ⟨q, hq⟩ : ∃ q, q = need l := ⟨_, rfl⟩
  rw [← hq] at HND
  have hq8 : q ≤ 8 := by rw [hq]; exact need_le hl
  have hw3 : IntKind.i64.wrap (3 + (q : Int)) = 3 + q := IntWalk.i64_in _ (by omega)
  obtain ⟨y1, hy1⟩ : ∃ y, y = base at' pl s hd := ⟨_, rfl⟩
  have hr1 := base_rng2 (i := hd) ha hc hz
  rw [← hy1] at HP1 hr1
  have wy1 : IntKind.i64.wrap y1 = y1 := IntWalk.i64_in _ (by omega)
  have wz1 : IntKind.i64.wrap (y1 - 2) = y1 - 2 := IntWalk.i64_in _ (by omega)
  have hqd : dd = 3 + (q : Int) := by rw [hq]; exact hdd
  have hq1 : 1 ≤ q := by rw [hq]; exact need_pos hl1
  have hlast : (dd == 3 + (q : Int)) = true := by rw [beq_iff_eq]; exact hqd
  have hgt : 3 < dd := by omega
  have hd0 : (dd == 0) = false := by rw [beq_eq_false_iff_ne]; omega
  have hd1 : (dd == 1) = false := by rw [beq_eq_false_iff_ne]; omega
  have hd2 : (dd == 2) = false := by rw [beq_eq_false_iff_ne]; omega
  have hd3 : ¬ dd < 2 := by omega
  have wd1 : IntKind.i64.wrap (dd + 1) = dd + 1 := IntWalk.i64_in _ (by omega)
  have wy3 : IntKind.i64.wrap (y1 + dd) = y1 + dd := IntWalk.i64_in _ (by omega)
  have wz3 : IntKind.i64.wrap (y1 + dd - 2) = y1 + dd - 2 := IntWalk.i64_in _ (by omega)
  have hi0 : (0 : Int) ≤ (i : Int) := by omega
  have hi1 : (i : Int) < n := by omega
  have wt : IntKind.u32.wrap (hd + 1) = inc hd := by rw [IntKind.wrap_u32']; rfl
  have hl0 : (0 : Int) ≤ (l : Int) := by omega
  have hl2 : (l : Int) ≤ tx.size := by omega
  have HV := Lib.hid (fun W (h : Below w.heap.size w W) => hV.keep h)
  have HNIL := Lib.hid hnil
  have H1C := Lib.hid h1c
  have HOV2 := Lib.hid (fun g c did hd tl ln tx ov W => over_r at' pl s ti did hd tl ln (some ⟨g, 0, none⟩) (xs.length + 1) c tx (.slice none 0 0) (.slice none 0 0) ov W)
  have HLE := Lib.hid (show xs.length ≤ 1000 from by omega)
  clear hV hnil h1c hdd hqd
  subst hwh

  simp only [DS.V, sideC] at HOV HOV2 HP1 ⊢
  have HF32 := Lib.hid hf
  clear hU hov hc hz hf
  clear hq hy1
  go_enter Tryd.func18, Tryd.ntmps18
  go_wp2_with fail
  obtain ⟨w1, hw1⟩ : ∃ w1, w1 = (w.alloc (.cells #[.int .i64 (i : Int), .int .i64 pl, .int .i64 s, .slice none 0 0, .int .i64 ti, .int .i64 (dd), .int .u32 hd, .int .u32 tl, .int .i64 (l : Nat), .string tx, .slice none 0 0, .slice A11 xs.length c11, .bool ov] 50)).alloc (.cells #[.int .i64 0, .int .i64 0, .int .i64 0, .slice none 0 0, .int .i64 0, .int .i64 0, .int .u32 0, .int .u32 0, .int .i64 0, .string ⟨#[]⟩, .slice none 0 0, .slice none 0 0, .bool false] 50) := ⟨_, rfl⟩
  have HFD := Lib.hid (show FD w1 w.heap.size ⟨(i : Int), pl, s, .slice none 0 0, ti, dd, hd, tl, (l : Nat), tx, .slice none 0 0, .slice A11 xs.length c11, ov⟩ from by rw [hw1]; exact HFD0.out)
  have HB1 := Lib.hid (show Below w.heap.size w w1 from by rw [hw1]; exact ((Below.refl _ _).alloc (Nat.le_refl _) _).alloc (by simp) _)
  rw [← hw1]
  clear hw1 HFD0
  with_reducible refine (HOV.out _ _ _ _ _ _ _).mono ?_
  rintro e w2 ⟨rfl, hB2⟩
  have HFD := Lib.hid (HFD.out.keep hB2)
  have HB2 := Lib.hid (HB1.out.trans (hB2.mono HB1.out.size))
  obtain ⟨k0, k1, k2, k3, k4, k5, k6, k7, k8, k9, k10, k11, k12⟩ := HFD.out.b.all
  clear hB2 HB1
  dsimp only at k0 k1 k2 k3 k4 k5 k6 k7 k8 k9 k10 k11 k12
  go_wp2_with fail
  go_quiet ((go_at_call 39; exact Calls.quiet_of_same ((HND.out _).mono fun _ _ ⟨h1, h2⟩ => ⟨h1, h2.symm⟩)))
  go_wp2_with fail
  obtain ⟨w3, hw3'⟩ : ∃ w3, w3 = w2.drewN nq := ⟨_, rfl⟩
  have HFD3 := Lib.hid (show FD w3 w.heap.size _ from by rw [hw3']; exact HFD.out.keep (Qt.below ⟨nq, rfl⟩))
  have HB3 := Lib.hid (show Below w.heap.size w w3 from by rw [hw3']; exact HB2.out.trans (Qt.below ⟨nq, rfl⟩))
  rw [← hw3']
  clear hw3' k0 k1 k2 k3 k4 k5 k6 k7 k8 k9 k10 k11 k12 HFD HB2
  have HNX := Lib.hid (fun W W' (h2 : Below W.heap.size W W') (h : Below w3.heap.size w3 W) => And.intro (HFD3.out.keep (h.trans (h2.mono h.size))) (HB3.out.trans ((h.trans (h2.mono h.size)).mono HB3.out.size)))
  obtain ⟨k0, k1, k2, k3, k4, k5, k6, k7, k8, k9, k10, k11, k12⟩ := HFD3.out.b.all
  dsimp only at k0 k1 k2 k3 k4 k5 k6 k7 k8 k9 k10 k11 k12
  go_region_held3 (fun w' => w'.cell? ⟨w.heap.size, 0, none⟩ = some (.int .i64 (i : Int)) ∧ w'.cell? ⟨w.heap.size, 1, none⟩ = some (.int .i64 pl) ∧ w'.cell? ⟨w.heap.size, 2, none⟩ = some (.int .i64 s) ∧ w'.cell? ⟨w.heap.size, 3, none⟩ = some (.slice none 0 0) ∧ w'.cell? ⟨w.heap.size, 4, none⟩ = some (.int .i64 ti) ∧ w'.cell? ⟨w.heap.size, 5, none⟩ = some (.int .i64 dd) ∧ w'.cell? ⟨w.heap.size, 6, none⟩ = some (.int .u32 hd) ∧ w'.cell? ⟨w.heap.size, 7, none⟩ = some (.int .u32 tl) ∧ w'.cell? ⟨w.heap.size, 8, none⟩ = some (.int .i64 (l : Nat)) ∧ w'.cell? ⟨w.heap.size, 9, none⟩ = some (.string tx) ∧ w'.cell? ⟨w.heap.size, 10, none⟩ = some (.slice none 0 0) ∧ w'.cell? ⟨w.heap.size, 11, none⟩ = some (.slice A11 xs.length c11) ∧ w'.cell? ⟨w.heap.size, 12, none⟩ = some (.bool ov))
    (go_keep)
    (first
      | (go_at_call 40
         refine (HP1.out _).mono ?_
         rintro e w5 ⟨rfl, hB4⟩
         have hnx := HNX.out _ _ hB4 (by repeat (first | exact Below.refl _ _ | refine Below.drew ?_))
         have HFD5 := Lib.hid hnx.1
         have HB5 := Lib.hid hnx.2
         obtain ⟨p0, p1, p2, p3, p4, p5, p6, p7, p8, p9, p10, p11, p12⟩ := hnx.1.b.all
         dsimp only at p0 p1 p2 p3 p4 p5 p6 p7 p8 p9 p10 p11 p12
         clear hB4 hnx))
  clear k0 k1 k2 k3 k4 k5 k6 k7 k8 k9 k10 k11 k12 HNX
  go_wp2_with (at_builtin; refine wpList_append_ws rfl _ _ rfl h0 hn (HU.out.keep (HB5.out)) (by rfl) (by rfl) ?_)
  intro G cap' w6 hG1 hG2 hUs hFz hB6
  have HUS := Lib.hid hUs
  have hx := hUs.cell hi
  rw [Nat.zero_add] at hx
  have hfx := hFz i
  have hG0 : w.heap.size ≠ G := by have := HFD5.out.lt; omega
  have hGL := Lib.hid (show w.heap.size ≤ G from by have := HFD5.out.lt; omega)
  have hG3 : G ≠ w.heap.size := by have := HFD5.out.lt; omega
  have hG4 : w.heap.size + 1 ≠ G := by have := HFD5.out.lt; omega
  have hG5 : G ≠ w.heap.size + 1 := by have := HFD5.out.lt; omega
  have HGE := Lib.hid (show w.heap.size ≤ G from by have := HFD5.out.lt; omega)
  have HFD6 := Lib.hid (HFD5.out.keep hB6)
  have HB6 := Lib.hid (HB5.out.trans (hB6.mono HB5.out.size))
  clear p0 p1 p2 p3 p4 p5 p6 p7 p8 p9 p10 p11 p12
  obtain ⟨k0, k1, k2, k3, k4, k5, k6, k7, k8, k9, k10, k11, k12⟩ := HFD6.out.b.all
  dsimp only at k0 k1 k2 k3 k4 k5 k6 k7 k8 k9 k10 k11 k12
  have f5 := HFD6.out.fb 5
  have f6 := HFD6.out.fb 6
  have f7 := HFD6.out.fb 7
  have f8 := HFD6.out.fb 8
  have f9 := HFD6.out.fb 9
  have f10 := HFD6.out.fb 10
  have f11 := HFD6.out.fb 11
  have f12 := HFD6.out.fb 12
  clear hUs hFz hB6 hG1 hG2
  obtain ⟨x, hxx⟩ : ∃ x, x = f i := ⟨_, rfl⟩
  rw [← hxx] at hx
  have hx32 : 0 ≤ x ∧ x < 4294967296 := by rw [hxx]; exact HF32.out i hi
  have HX := Lib.hid hxx
  clear hxx
  go_upto_region 38 with fail
  obtain ⟨wca, hwca⟩ : ∃ V, V = w6.setCell ⟨G, i, none⟩ (.int .u32 (inc hd)) := ⟨_, rfl⟩
  have HFDca := Lib.hid (show FD wca w.heap.size ⟨(i : Int), pl, s, .slice none 0 0, ti, dd, hd, tl, (l : Nat), tx, .slice none 0 0, .slice A11 xs.length c11, ov⟩ from by rw [hwca]; exact (FD.out (a := ⟨G, i, none⟩) HFD6.out hG3 hG5 (.int .u32 (inc hd))))
  have HUca := Lib.hid (show Ws wca (some ⟨G, 0, none⟩) n _ from by rw [hwca]; exact (Ws.set0 HUS.out hi (inc hd)))
  have HBca := Lib.hid (show Below w.heap.size w wca from by rw [hwca]; exact (bset (a := ⟨G, i, none⟩) (v := .int .u32 (inc hd)) HB6.out (show w.heap.size ≤ G by have := HGE.out; omega)))
  rw [← hwca]
  clear hwca hx hfx k0 k1 k2 k3 k4 k5 k6 k7 k8 k9 k10 k11 k12 f5 f6 f7 f8 f9 f10 f11 f12
  obtain ⟨k0, k1, k2, k3, k4, k5, k6, k7, k8, k9, k10, k11, k12⟩ := HFDca.out.b.all
  dsimp only at k0 k1 k2 k3 k4 k5 k6 k7 k8 k9 k10 k11 k12
  have f5 := HFDca.out.fb 5
  have f8 := HFDca.out.fb 8
  have f9 := HFDca.out.fb 9
  have f10 := HFDca.out.fb 10
  have f11 := HFDca.out.fb 11
  have f12 := HFDca.out.fb 12
  have hsV := HFDca.out.lt
  have HVP := Lib.hid (fun W (h : Below wca.heap.size wca W) => HV.out W (HBca.out.trans (h.mono HBca.out.size)))
  have HK8 := Lib.hid k8
  have HK9 := Lib.hid k9
  have HK11 := Lib.hid k11
  clear k0 k1 k2 k3 k4 k5 k6 k7 k8 k9 k10 k11 k12 f5 f8 f9 f10 f11 f12
  refine region_upL (fun W => Below wca.heap.size wca W) (fun _ => True) (fun s => Nat.ble 12 s) (by kernel_rfl) ?_
  obtain ⟨V0, hv⟩ : ∃ W, W = wca.drew := ⟨_, rfl⟩
  rw [← hv]
  have HB_V0 := Lib.hid (show Below wca.heap.size wca V0 from by rw [hv]; exact (Below.refl _ _).drew)
  clear hv
  refine upL_take (fun _ => True) (i := 1) (v := ?_) rfl (by kernel_rfl) (by kernel_rfl) (by kernel_rfl) (by kernel_rfl) (.inr fun _ h => h) (fun _ _ _ h => h) (Or.inl ⟨by rfl, ?_⟩) trivial trivial (.inr HB_V0.out) ?_
  rotate_left
  · intro W0 hSw
    try dsimp only at hSw
    go_simp
    try with_reducible rfl
  try simp only [Act.put, List.setIfInBounds_toArray, List.set_cons_succ]
  refine upL_take (fun W => Below wca.heap.size wca W) (i := 2) (v := ?_) rfl (by kernel_rfl) (by kernel_rfl) (by kernel_rfl) (by kernel_rfl) (.inl ⟨by kernel_rfl, fun _ h => h⟩) (fun _ _ _ h => h) (Or.inl ⟨by rfl, ?_⟩) HB_V0.out trivial (.inr HB_V0.out) ?_
  rotate_left
  · intro W0 hSw
    try dsimp only at hSw
    have kk := kept HK11.out hSw
    go_simp
    try with_reducible rfl
  try simp only [Act.put, List.setIfInBounds_toArray, List.set_cons_succ]
  refine upL_take (fun _ => True) (i := 4) (v := ?_) rfl (by kernel_rfl) (by kernel_rfl) (by kernel_rfl) (by kernel_rfl) (.inr fun _ h => h) (fun _ _ _ h => h) (Or.inl ⟨by rfl, ?_⟩) trivial trivial (.inr HB_V0.out) ?_
  rotate_left
  · intro W0 hSw
    try dsimp only at hSw
    go_simp
    try with_reducible rfl
  try simp only [Act.put, List.setIfInBounds_toArray, List.set_cons_succ]
  refine upL_take (fun W => Below wca.heap.size wca W) (i := 5) (v := ?_) rfl (by kernel_rfl) (by kernel_rfl) (by kernel_rfl) (by kernel_rfl) (.inl ⟨by kernel_rfl, fun _ h => h⟩) (fun _ _ _ h => h) (Or.inl ⟨by rfl, ?_⟩) HB_V0.out trivial (.inr HB_V0.out) ?_
  rotate_left
  · intro W0 hSw
    try dsimp only at hSw
    have kk := kept HK9.out hSw
    go_simp
    try with_reducible rfl
  try simp only [Act.put, List.setIfInBounds_toArray, List.set_cons_succ]
  refine upL_take (fun _ => True) (i := 6) (v := ?_) rfl (by kernel_rfl) (by kernel_rfl) (by kernel_rfl) (by kernel_rfl) (.inr fun _ h => h) (fun _ _ _ h => h) (Or.inl ⟨by rfl, ?_⟩) trivial trivial (.inr HB_V0.out) ?_
  rotate_left
  · intro W0 hSw
    try dsimp only at hSw
    go_simp
    try with_reducible rfl
  try simp only [Act.put, List.setIfInBounds_toArray, List.set_cons_succ]
  refine upL_take (fun W => Below wca.heap.size wca W) (i := 7) (v := ?_) rfl (by kernel_rfl) (by kernel_rfl) (by kernel_rfl) (by kernel_rfl) (.inl ⟨by kernel_rfl, fun _ h => h⟩) (fun _ _ _ h => h) (Or.inl ⟨by rfl, ?_⟩) HB_V0.out trivial (.inr HB_V0.out) ?_
  rotate_left
  · intro W0 hSw
    try dsimp only at hSw
    have kk := kept HK8.out hSw
    go_simp
    try with_reducible rfl
  try simp only [Act.put, List.setIfInBounds_toArray, List.set_cons_succ]
  refine upL_take (fun _ => True) (i := 8) (v := ?_) rfl (by kernel_rfl) (by kernel_rfl) (by kernel_rfl) (by kernel_rfl) (.inr fun _ h => h) (fun _ _ _ h => h) (Or.inl ⟨by rfl, ?_⟩) trivial trivial (.inr HB_V0.out) ?_
  rotate_left
  · intro W0 hSw
    try dsimp only at hSw
    go_simp
    try with_reducible rfl
  try simp only [Act.put, List.setIfInBounds_toArray, List.set_cons_succ]
  refine upL_ready (rs := [0, 9]) (by kernel_rfl) (by simp) ?_
  refine EachL.cons rfl (fun K' hK => ?_) ?_
  · go_simp
    obtain ⟨V1, hv⟩ : ∃ W, W = V0.alloc (.cells #[] 9) := ⟨_, rfl⟩
    rw [← hv]
    have hb : Below wca.heap.size wca V1 := by rw [hv]; exact HB_V0.out.alloc HB_V0.out.size _
    have HX0_V1 := Lib.hid (show V1.heap[V0.heap.size]? = some (.cells #[] 9 (0, 0)) ∧ wca.heap.size ≤ V0.heap.size from ⟨by rw [hv]; exact heap_alloc_new _ _, HB_V0.out.size⟩)
    refine hK.out _ _ trivial (.inr hb) ?_
    have HB_V1 := Lib.hid hb
    clear hb hv hK K'
    try simp only [Act.put, List.setIfInBounds_toArray, List.set_cons_succ]
    refine upL_ready (rs := [3, 9]) (by kernel_rfl) (by simp) ?_
    refine EachL.cons rfl (fun K' hK => ?_) ?_
    · refine step_spread rfl _ _ rfl (by rfl) (by rfl) rfl HNIL.out (by have := HLE.out; omega) H1C.out HX0_V1.out.1 (HVP.out _ HB_V1.out) ?_
      intro gA capA V2 hgA1 hgA2 hgr hCA
      have hb : Below wca.heap.size wca V2 := HB_V1.out.trans (hCA.below (fun x e => by subst e; exact HX0_V1.out.2) HB_V1.out.size)
      have HGA_V2 := Lib.hid hgr
      have HgA := Lib.hid (show wca.heap.size ≤ gA from Nat.le_trans HX0_V1.out.2 hgA1)
      refine hK.out _ _ trivial (.inr hb) ?_
      have HB_V2 := Lib.hid hb
      clear hb hgA1 hgA2 hgr hCA hK K'
      try simp only [Act.put, List.setIfInBounds_toArray, List.set_cons_succ]
      refine upL_ready (rs := [9]) (by kernel_rfl) (by simp) ?_
      refine EachL.cons rfl (fun K' hK => ?_) ?_
      · go_simp
        obtain ⟨V3, hv⟩ : ∃ W, W = V2.alloc (.cells #[.string (tx.extract 0 l)] 9) := ⟨_, rfl⟩
        rw [← hv]
        have hb : Below wca.heap.size wca V3 := by rw [hv]; exact HB_V2.out.alloc HB_V2.out.size _
        have HX9_V3 := Lib.hid (show V3.heap[V2.heap.size]? = some (.cells #[.string (tx.extract 0 l)] 9 (0, 0)) ∧ wca.heap.size ≤ V2.heap.size from ⟨by rw [hv]; exact heap_alloc_new _ _, HB_V2.out.size⟩)
        have HGA_V3 := Lib.hid (HGA_V2.out.keep (w' := V3) (by rw [hv]; exact (Below.refl _ _).alloc (Nat.le_refl _) _))
        refine hK.out _ _ trivial (.inr hb) ?_
        have HB_V3 := Lib.hid hb
        clear hb hv hK K'
        try simp only [Act.put, List.setIfInBounds_toArray, List.set_cons_succ]
        refine upL_ready (rs := [10]) (by kernel_rfl) (by simp) ?_
        refine EachL.cons rfl (fun K' hK => ?_) ?_
        · refine step_one rfl _ _ rfl (by rfl) (by rfl) rfl (by have := HLE.out; omega) rfl HX9_V3.out.1 HGA_V3.out ?_
          intro gB capB V4 hgr hCB hat hlt2
          have hb : Below wca.heap.size wca V4 := HB_V3.out.trans (hCB.below (fun x e => by subst e; exact HgA.out) HB_V3.out.size)
          have HGB := Lib.hid hgr
          have HgB := Lib.hid (show wca.heap.size ≤ gB from by
            have h1 := HgA.out
            have h2 := HB_V3.out.size
            rcases hat with e | e <;> omega)
          refine hK.out _ _ trivial (.inr hb) ?_
          have HB_V4 := Lib.hid hb
          clear hb hgr hCB hat hlt2 hK K'
          try simp only [Act.put, List.setIfInBounds_toArray, List.set_cons_succ]
          refine upL_take (fun _ => True) (i := 11) (v := ?_) rfl (by kernel_rfl) (by kernel_rfl) (by kernel_rfl) (by kernel_rfl) (.inr fun _ h => h) (fun _ _ _ h => h) (Or.inl ⟨by rfl, ?_⟩) trivial trivial (.inr HB_V4.out) ?_
          rotate_left
          · intro W0 hSw
            try dsimp only at hSw
            go_simp
            try with_reducible rfl
          try simp only [Act.put, List.setIfInBounds_toArray, List.set_cons_succ]
          have HFDv := Lib.hid (HFDca.out.keep HB_V4.out)
          have HUv := Lib.hid (HUca.out.keep HB_V4.out)
          have HBv := Lib.hid (HBca.out.trans (HB_V4.out.mono HBca.out.size))
          obtain ⟨k0, k1, k2, k3, k4, k5, k6, k7, k8, k9, k10, k11, k12⟩ := HFDv.out.b.all
          dsimp only at k0 k1 k2 k3 k4 k5 k6 k7 k8 k9 k10 k11 k12
          have f5 := HFDv.out.fb 5
          have f11 := HFDv.out.fb 11
          have f12 := HFDv.out.fb 12
          refine upL_ready (rs := [12]) (by kernel_rfl) (by simp) ?_
          refine EachL.cons rfl (fun K' hK => ?_) EachL.nil
          go_simp
          refine hK.out _ _ trivial (.inl (by kernel_rfl)) ?_
          clear hK K'
          try simp only [Act.put, List.setIfInBounds_toArray, List.set_cons_succ]
          refine upL_take (fun _ => True) (i := 13) (v := ?_) rfl (by kernel_rfl) (by kernel_rfl) (by kernel_rfl) (by kernel_rfl) (.inr fun _ h => h) (fun _ _ _ h => h) (Or.inl ⟨by rfl, ?_⟩) trivial trivial (.inl (by kernel_rfl)) ?_
          rotate_left
          · intro W0 hSw
            try dsimp only at hSw
            go_simp
            try with_reducible rfl
          try simp only [Act.put, List.setIfInBounds_toArray, List.set_cons_succ]
          refine upL_ready (rs := [14]) (by kernel_rfl) (by simp) ?_
          refine EachL.cons rfl (fun K' hK => ?_) EachL.nil
          go_simp
          refine hK.out _ _ trivial (.inl (by kernel_rfl)) ?_
          clear hK K'
          try simp only [Act.put, List.setIfInBounds_toArray, List.set_cons_succ]
          refine upL_done (by kernel_rfl) ?_ _
          go_wp2_with fail
          have HNL := Lib.hid (show w.heap.size ≤ gB from by have := HgB.out; omega)
          have HNF := Lib.hid (show w.heap.size ≠ gB ∧ w.heap.size + 1 ≠ gB from by have := HgB.out; omega)
          obtain ⟨w9, hw9⟩ : ∃ V, V = (V4.setCell ⟨w.heap.size, 11, none⟩ (.slice (some ⟨gB, 0, none⟩) (xs.length + 1) capB)).setCell ⟨w.heap.size, 5, none⟩ (.int .i64 0) := ⟨_, rfl⟩
          have HFD9 := Lib.hid (show FD w9 w.heap.size ⟨(i : Int), pl, s, .slice none 0 0, ti, 0, hd, tl, (l : Nat), tx, .slice none 0 0, .slice (some ⟨gB, 0, none⟩) (xs.length + 1) capB, ov⟩ from by rw [hw9]; exact (FD.set (d' := ⟨(i : Int), pl, s, .slice none 0 0, ti, 0, hd, tl, (l : Nat), tx, .slice none 0 0, .slice (some ⟨gB, 0, none⟩) (xs.length + 1) capB, ov⟩) (FD.set (d' := ⟨(i : Int), pl, s, .slice none 0 0, ti, dd, hd, tl, (l : Nat), tx, .slice none 0 0, .slice (some ⟨gB, 0, none⟩) (xs.length + 1) capB, ov⟩) HFDv.out 11 (.slice (some ⟨gB, 0, none⟩) (xs.length + 1) capB) rfl) 5 (.int .i64 0) rfl))
          have HU9 := Lib.hid (show Ws w9 (some ⟨G, 0, none⟩) n _ from by rw [hw9]; exact (Ws.out (a := ⟨w.heap.size, 5, none⟩) (v := (.int .i64 0)) (Ws.out (a := ⟨w.heap.size, 11, none⟩) (v := (.slice (some ⟨gB, 0, none⟩) (xs.length + 1) capB)) HUv.out hG0) hG0))
          have HB9 := Lib.hid (show Below w.heap.size w w9 from by rw [hw9]; exact (bset (a := ⟨w.heap.size, 5, none⟩) (v := (.int .i64 0)) (bset (a := ⟨w.heap.size, 11, none⟩) (v := (.slice (some ⟨gB, 0, none⟩) (xs.length + 1) capB)) HBv.out (Nat.le_refl _)) (Nat.le_refl _)))
          have HV9 := Lib.hid (show Vals w9 (some ⟨gB, 0, none⟩) _ from by rw [hw9]; exact (Vals.out (a := ⟨w.heap.size, 5, none⟩) (v := (.int .i64 0)) (Vals.out (a := ⟨w.heap.size, 11, none⟩) (v := (.slice (some ⟨gB, 0, none⟩) (xs.length + 1) capB)) HGB.out.vals HNF.out.1) HNF.out.1))
          rw [← hw9]
          clear hw9 k0 k1 k2 k3 k4 k5 k6 k7 k8 k9 k10 k11 k12 f5 f11 f12
          with_reducible refine (HOV2.out _ _ _ _ _ _ _ _ _).mono ?_
          rintro e w10 ⟨rfl, hB10⟩
          have HFD10 := Lib.hid (HFD9.out.keep hB10)
          have HU10 := Lib.hid (HU9.out.keep hB10)
          have HV10 := Lib.hid (HV9.out.keep hB10)
          have HB10 := Lib.hid (HB9.out.trans (hB10.mono HB9.out.size))
          obtain ⟨k0, k1, k2, k3, k4, k5, k6, k7, k8, k9, k10, k11, k12⟩ := HFD10.out.b.all
          obtain ⟨z0, z1, z2, z3, z4, z5, z6, z7, z8, z9, z10, z11, z12⟩ := HFD10.out.z.all
          dsimp only [dZ] at k0 k1 k2 k3 k4 k5 k6 k7 k8 k9 k10 k11 k12 z0 z1 z2 z3 z4 z5 z6 z7 z8 z9 z10 z11 z12
          have f12 := HFD10.out.fb 12
          have g0z := HFD10.out.fz 0
          have g1z := HFD10.out.fz 1
          have g2z := HFD10.out.fz 2
          have g3z := HFD10.out.fz 3
          have g4z := HFD10.out.fz 4
          have g5z := HFD10.out.fz 5
          have g6z := HFD10.out.fz 6
          have g7z := HFD10.out.fz 7
          have g8z := HFD10.out.fz 8
          have g9z := HFD10.out.fz 9
          have g10z := HFD10.out.fz 10
          have g11z := HFD10.out.fz 11
          have g12z := HFD10.out.fz 12
          clear hB10
          go_wp2_with fail
          refine bodyPost_ret (v := .tuple #[.agg #[.int .i64 (i : Int), .int .i64 pl, .int .i64 s, .slice none 0 0, .int .i64 ti, .int .i64 0, .int .u32 hd, .int .u32 tl, .int .i64 (l : Nat), .string tx, .slice none 0 0, .slice (some ⟨gB, 0, none⟩) (xs.length + 1) capB, .bool (((xs.length + 1 : Nat) : Int) == ti)], .slice (some ⟨G, 0, none⟩) n cap']) (by simp [results, Tryd.results18, go_sem, same_some, z0, z1, z2, z3, z4, z5, z6, z7, z8, z9, z10, z11, z12]) rfl ⟨some ⟨G, 0, none⟩, cap', gB, capB, by simp [DS.V], ?_, ?_, ?_, HNL.out, .inr ⟨G, rfl, hGL.out⟩⟩
          · exact tail_ws (Ws.out (a := ⟨w.heap.size, 12, none⟩) HU10.out hG0) hG4 _ _ _ _ _ _ _ _ _ _ _ _ _
          · exact tail_vals (Vals.out (a := ⟨w.heap.size, 12, none⟩) HV10.out HNF.out.1) HNF.out.2 _ _ _ _ _ _ _ _ _ _ _ _ _
          · exact tail_be (bset HB10.out (Nat.le_refl _)) (by omega) _ _ _ _ _ _ _ _ _ _ _ _ _
        exact EachL.nil
      exact EachL.nil
    refine EachL.cons rfl (fun K' hK => ?_) ?_
    · go_simp
      obtain ⟨V5, hv⟩ : ∃ W, W = V1.alloc (.cells #[.string (tx.extract 0 l)] 9) := ⟨_, rfl⟩
      rw [← hv]
      have hb : Below wca.heap.size wca V5 := by rw [hv]; exact HB_V1.out.alloc HB_V1.out.size _
      have HX9_V5 := Lib.hid (show V5.heap[V1.heap.size]? = some (.cells #[.string (tx.extract 0 l)] 9 (0, 0)) ∧ wca.heap.size ≤ V1.heap.size from ⟨by rw [hv]; exact heap_alloc_new _ _, HB_V1.out.size⟩)
      have HX0_V5 := Lib.hid (show V5.heap[V0.heap.size]? = some (.cells #[] 9 (0, 0)) ∧ wca.heap.size ≤ V0.heap.size from ⟨by rw [hv]; exact heap_past HX0_V1.out.1, HX0_V1.out.2⟩)
      have HNE := Lib.hid (show V0.heap.size ≠ V1.heap.size from Nat.ne_of_lt (heap_lt HX0_V1.out.1))
      refine hK.out _ _ trivial (.inr hb) ?_
      have HB_V5 := Lib.hid hb
      clear hb hv hK K'
      try simp only [Act.put, List.setIfInBounds_toArray, List.set_cons_succ]
      refine upL_ready (rs := [3]) (by kernel_rfl) (by simp) ?_
      refine EachL.cons rfl (fun K' hK => ?_) ?_
      · refine step_spread rfl _ _ rfl (by rfl) (by rfl) rfl HNIL.out (by have := HLE.out; omega) H1C.out HX0_V5.out.1 (HVP.out _ HB_V5.out) ?_
        intro gA capA V6 hgA1 hgA2 hgr hCA
        have hb : Below wca.heap.size wca V6 := HB_V5.out.trans (hCA.below (fun x e => by subst e; exact HX0_V5.out.2) HB_V5.out.size)
        have HGA_V6 := Lib.hid hgr
        have HgA := Lib.hid (show wca.heap.size ≤ gA from Nat.le_trans HX0_V5.out.2 hgA1)
        have HX9_V6 := Lib.hid (show V6.heap[V1.heap.size]? = some (.cells #[.string (tx.extract 0 l)] 9 (0, 0)) ∧ wca.heap.size ≤ V1.heap.size from ⟨heap_chg hCA HX9_V5.out.1 (by have := HNE.out; omega), HX9_V5.out.2⟩)
        refine hK.out _ _ trivial (.inr hb) ?_
        have HB_V6 := Lib.hid hb
        clear hb hgA1 hgA2 hgr hCA hK K'
        try simp only [Act.put, List.setIfInBounds_toArray, List.set_cons_succ]
        refine upL_ready (rs := [10]) (by kernel_rfl) (by simp) ?_
        refine EachL.cons rfl (fun K' hK => ?_) ?_
        · refine step_one rfl _ _ rfl (by rfl) (by rfl) rfl (by have := HLE.out; omega) rfl HX9_V6.out.1 HGA_V6.out ?_
          intro gB capB V7 hgr hCB hat hlt2
          have hb : Below wca.heap.size wca V7 := HB_V6.out.trans (hCB.below (fun x e => by subst e; exact HgA.out) HB_V6.out.size)
          have HGB := Lib.hid hgr
          have HgB := Lib.hid (show wca.heap.size ≤ gB from by
            have h1 := HgA.out
            have h2 := HB_V6.out.size
            rcases hat with e | e <;> omega)
          refine hK.out _ _ trivial (.inr hb) ?_
          have HB_V7 := Lib.hid hb
          clear hb hgr hCB hat hlt2 hK K'
          try simp only [Act.put, List.setIfInBounds_toArray, List.set_cons_succ]
          refine upL_take (fun _ => True) (i := 11) (v := ?_) rfl (by kernel_rfl) (by kernel_rfl) (by kernel_rfl) (by kernel_rfl) (.inr fun _ h => h) (fun _ _ _ h => h) (Or.inl ⟨by rfl, ?_⟩) trivial trivial (.inr HB_V7.out) ?_
          rotate_left
          · intro W0 hSw
            try dsimp only at hSw
            go_simp
            try with_reducible rfl
          try simp only [Act.put, List.setIfInBounds_toArray, List.set_cons_succ]
          have HFDv := Lib.hid (HFDca.out.keep HB_V7.out)
          have HUv := Lib.hid (HUca.out.keep HB_V7.out)
          have HBv := Lib.hid (HBca.out.trans (HB_V7.out.mono HBca.out.size))
          obtain ⟨k0, k1, k2, k3, k4, k5, k6, k7, k8, k9, k10, k11, k12⟩ := HFDv.out.b.all
          dsimp only at k0 k1 k2 k3 k4 k5 k6 k7 k8 k9 k10 k11 k12
          have f5 := HFDv.out.fb 5
          have f11 := HFDv.out.fb 11
          have f12 := HFDv.out.fb 12
          refine upL_ready (rs := [12]) (by kernel_rfl) (by simp) ?_
          refine EachL.cons rfl (fun K' hK => ?_) EachL.nil
          go_simp
          refine hK.out _ _ trivial (.inl (by kernel_rfl)) ?_
          clear hK K'
          try simp only [Act.put, List.setIfInBounds_toArray, List.set_cons_succ]
          refine upL_take (fun _ => True) (i := 13) (v := ?_) rfl (by kernel_rfl) (by kernel_rfl) (by kernel_rfl) (by kernel_rfl) (.inr fun _ h => h) (fun _ _ _ h => h) (Or.inl ⟨by rfl, ?_⟩) trivial trivial (.inl (by kernel_rfl)) ?_
          rotate_left
          · intro W0 hSw
            try dsimp only at hSw
            go_simp
            try with_reducible rfl
          try simp only [Act.put, List.setIfInBounds_toArray, List.set_cons_succ]
          refine upL_ready (rs := [14]) (by kernel_rfl) (by simp) ?_
          refine EachL.cons rfl (fun K' hK => ?_) EachL.nil
          go_simp
          refine hK.out _ _ trivial (.inl (by kernel_rfl)) ?_
          clear hK K'
          try simp only [Act.put, List.setIfInBounds_toArray, List.set_cons_succ]
          refine upL_done (by kernel_rfl) ?_ _
          go_wp2_with fail
          have HNL := Lib.hid (show w.heap.size ≤ gB from by have := HgB.out; omega)
          have HNF := Lib.hid (show w.heap.size ≠ gB ∧ w.heap.size + 1 ≠ gB from by have := HgB.out; omega)
          obtain ⟨w9, hw9⟩ : ∃ V, V = (V7.setCell ⟨w.heap.size, 11, none⟩ (.slice (some ⟨gB, 0, none⟩) (xs.length + 1) capB)).setCell ⟨w.heap.size, 5, none⟩ (.int .i64 0) := ⟨_, rfl⟩
          have HFD9 := Lib.hid (show FD w9 w.heap.size ⟨(i : Int), pl, s, .slice none 0 0, ti, 0, hd, tl, (l : Nat), tx, .slice none 0 0, .slice (some ⟨gB, 0, none⟩) (xs.length + 1) capB, ov⟩ from by rw [hw9]; exact (FD.set (d' := ⟨(i : Int), pl, s, .slice none 0 0, ti, 0, hd, tl, (l : Nat), tx, .slice none 0 0, .slice (some ⟨gB, 0, none⟩) (xs.length + 1) capB, ov⟩) (FD.set (d' := ⟨(i : Int), pl, s, .slice none 0 0, ti, dd, hd, tl, (l : Nat), tx, .slice none 0 0, .slice (some ⟨gB, 0, none⟩) (xs.length + 1) capB, ov⟩) HFDv.out 11 (.slice (some ⟨gB, 0, none⟩) (xs.length + 1) capB) rfl) 5 (.int .i64 0) rfl))
          have HU9 := Lib.hid (show Ws w9 (some ⟨G, 0, none⟩) n _ from by rw [hw9]; exact (Ws.out (a := ⟨w.heap.size, 5, none⟩) (v := (.int .i64 0)) (Ws.out (a := ⟨w.heap.size, 11, none⟩) (v := (.slice (some ⟨gB, 0, none⟩) (xs.length + 1) capB)) HUv.out hG0) hG0))
          have HB9 := Lib.hid (show Below w.heap.size w w9 from by rw [hw9]; exact (bset (a := ⟨w.heap.size, 5, none⟩) (v := (.int .i64 0)) (bset (a := ⟨w.heap.size, 11, none⟩) (v := (.slice (some ⟨gB, 0, none⟩) (xs.length + 1) capB)) HBv.out (Nat.le_refl _)) (Nat.le_refl _)))
          have HV9 := Lib.hid (show Vals w9 (some ⟨gB, 0, none⟩) _ from by rw [hw9]; exact (Vals.out (a := ⟨w.heap.size, 5, none⟩) (v := (.int .i64 0)) (Vals.out (a := ⟨w.heap.size, 11, none⟩) (v := (.slice (some ⟨gB, 0, none⟩) (xs.length + 1) capB)) HGB.out.vals HNF.out.1) HNF.out.1))
          rw [← hw9]
          clear hw9 k0 k1 k2 k3 k4 k5 k6 k7 k8 k9 k10 k11 k12 f5 f11 f12
          with_reducible refine (HOV2.out _ _ _ _ _ _ _ _ _).mono ?_
          rintro e w10 ⟨rfl, hB10⟩
          have HFD10 := Lib.hid (HFD9.out.keep hB10)
          have HU10 := Lib.hid (HU9.out.keep hB10)
          have HV10 := Lib.hid (HV9.out.keep hB10)
          have HB10 := Lib.hid (HB9.out.trans (hB10.mono HB9.out.size))
          obtain ⟨k0, k1, k2, k3, k4, k5, k6, k7, k8, k9, k10, k11, k12⟩ := HFD10.out.b.all
          obtain ⟨z0, z1, z2, z3, z4, z5, z6, z7, z8, z9, z10, z11, z12⟩ := HFD10.out.z.all
          dsimp only [dZ] at k0 k1 k2 k3 k4 k5 k6 k7 k8 k9 k10 k11 k12 z0 z1 z2 z3 z4 z5 z6 z7 z8 z9 z10 z11 z12
          have f12 := HFD10.out.fb 12
          have g0z := HFD10.out.fz 0
          have g1z := HFD10.out.fz 1
          have g2z := HFD10.out.fz 2
          have g3z := HFD10.out.fz 3
          have g4z := HFD10.out.fz 4
          have g5z := HFD10.out.fz 5
          have g6z := HFD10.out.fz 6
          have g7z := HFD10.out.fz 7
          have g8z := HFD10.out.fz 8
          have g9z := HFD10.out.fz 9
          have g10z := HFD10.out.fz 10
          have g11z := HFD10.out.fz 11
          have g12z := HFD10.out.fz 12
          clear hB10
          go_wp2_with fail
          refine bodyPost_ret (v := .tuple #[.agg #[.int .i64 (i : Int), .int .i64 pl, .int .i64 s, .slice none 0 0, .int .i64 ti, .int .i64 0, .int .u32 hd, .int .u32 tl, .int .i64 (l : Nat), .string tx, .slice none 0 0, .slice (some ⟨gB, 0, none⟩) (xs.length + 1) capB, .bool (((xs.length + 1 : Nat) : Int) == ti)], .slice (some ⟨G, 0, none⟩) n cap']) (by simp [results, Tryd.results18, go_sem, same_some, z0, z1, z2, z3, z4, z5, z6, z7, z8, z9, z10, z11, z12]) rfl ⟨some ⟨G, 0, none⟩, cap', gB, capB, by simp [DS.V], ?_, ?_, ?_, HNL.out, .inr ⟨G, rfl, hGL.out⟩⟩
          · exact tail_ws (Ws.out (a := ⟨w.heap.size, 12, none⟩) HU10.out hG0) hG4 _ _ _ _ _ _ _ _ _ _ _ _ _
          · exact tail_vals (Vals.out (a := ⟨w.heap.size, 12, none⟩) HV10.out HNF.out.1) HNF.out.2 _ _ _ _ _ _ _ _ _ _ _ _ _
          · exact tail_be (bset HB10.out (Nat.le_refl _)) (by omega) _ _ _ _ _ _ _ _ _ _ _ _ _
        exact EachL.nil
      exact EachL.nil
    exact EachL.nil
  refine EachL.cons rfl (fun K' hK => ?_) ?_
  · go_simp
    obtain ⟨V8, hv⟩ : ∃ W, W = V0.alloc (.cells #[.string (tx.extract 0 l)] 9) := ⟨_, rfl⟩
    rw [← hv]
    have hb : Below wca.heap.size wca V8 := by rw [hv]; exact HB_V0.out.alloc HB_V0.out.size _
    have HX9_V8 := Lib.hid (show V8.heap[V0.heap.size]? = some (.cells #[.string (tx.extract 0 l)] 9 (0, 0)) ∧ wca.heap.size ≤ V0.heap.size from ⟨by rw [hv]; exact heap_alloc_new _ _, HB_V0.out.size⟩)
    refine hK.out _ _ trivial (.inr hb) ?_
    have HB_V8 := Lib.hid hb
    clear hb hv hK K'
    try simp only [Act.put, List.setIfInBounds_toArray, List.set_cons_succ]
    refine upL_ready (rs := [0]) (by kernel_rfl) (by simp) ?_
    refine EachL.cons rfl (fun K' hK => ?_) ?_
    · go_simp
      obtain ⟨V9, hv⟩ : ∃ W, W = V8.alloc (.cells #[] 9) := ⟨_, rfl⟩
      rw [← hv]
      have hb : Below wca.heap.size wca V9 := by rw [hv]; exact HB_V8.out.alloc HB_V8.out.size _
      have HX0_V9 := Lib.hid (show V9.heap[V8.heap.size]? = some (.cells #[] 9 (0, 0)) ∧ wca.heap.size ≤ V8.heap.size from ⟨by rw [hv]; exact heap_alloc_new _ _, HB_V8.out.size⟩)
      have HX9_V9 := Lib.hid (show V9.heap[V0.heap.size]? = some (.cells #[.string (tx.extract 0 l)] 9 (0, 0)) ∧ wca.heap.size ≤ V0.heap.size from ⟨by rw [hv]; exact heap_past HX9_V8.out.1, HX9_V8.out.2⟩)
      have HNE := Lib.hid (show V0.heap.size ≠ V8.heap.size from Nat.ne_of_lt (heap_lt HX9_V8.out.1))
      refine hK.out _ _ trivial (.inr hb) ?_
      have HB_V9 := Lib.hid hb
      clear hb hv hK K'
      try simp only [Act.put, List.setIfInBounds_toArray, List.set_cons_succ]
      refine upL_ready (rs := [3]) (by kernel_rfl) (by simp) ?_
      refine EachL.cons rfl (fun K' hK => ?_) ?_
      · refine step_spread rfl _ _ rfl (by rfl) (by rfl) rfl HNIL.out (by have := HLE.out; omega) H1C.out HX0_V9.out.1 (HVP.out _ HB_V9.out) ?_
        intro gA capA V10 hgA1 hgA2 hgr hCA
        have hb : Below wca.heap.size wca V10 := HB_V9.out.trans (hCA.below (fun x e => by subst e; exact HX0_V9.out.2) HB_V9.out.size)
        have HGA_V10 := Lib.hid hgr
        have HgA := Lib.hid (show wca.heap.size ≤ gA from Nat.le_trans HX0_V9.out.2 hgA1)
        have HX9_V10 := Lib.hid (show V10.heap[V0.heap.size]? = some (.cells #[.string (tx.extract 0 l)] 9 (0, 0)) ∧ wca.heap.size ≤ V0.heap.size from ⟨heap_chg hCA HX9_V9.out.1 (by have := HNE.out; omega), HX9_V9.out.2⟩)
        refine hK.out _ _ trivial (.inr hb) ?_
        have HB_V10 := Lib.hid hb
        clear hb hgA1 hgA2 hgr hCA hK K'
        try simp only [Act.put, List.setIfInBounds_toArray, List.set_cons_succ]
        refine upL_ready (rs := [10]) (by kernel_rfl) (by simp) ?_
        refine EachL.cons rfl (fun K' hK => ?_) ?_
        · refine step_one rfl _ _ rfl (by rfl) (by rfl) rfl (by have := HLE.out; omega) rfl HX9_V10.out.1 HGA_V10.out ?_
          intro gB capB V11 hgr hCB hat hlt2
          have hb : Below wca.heap.size wca V11 := HB_V10.out.trans (hCB.below (fun x e => by subst e; exact HgA.out) HB_V10.out.size)
          have HGB := Lib.hid hgr
          have HgB := Lib.hid (show wca.heap.size ≤ gB from by
            have h1 := HgA.out
            have h2 := HB_V10.out.size
            rcases hat with e | e <;> omega)
          refine hK.out _ _ trivial (.inr hb) ?_
          have HB_V11 := Lib.hid hb
          clear hb hgr hCB hat hlt2 hK K'
          try simp only [Act.put, List.setIfInBounds_toArray, List.set_cons_succ]
          refine upL_take (fun _ => True) (i := 11) (v := ?_) rfl (by kernel_rfl) (by kernel_rfl) (by kernel_rfl) (by kernel_rfl) (.inr fun _ h => h) (fun _ _ _ h => h) (Or.inl ⟨by rfl, ?_⟩) trivial trivial (.inr HB_V11.out) ?_
          rotate_left
          · intro W0 hSw
            try dsimp only at hSw
            go_simp
            try with_reducible rfl
          try simp only [Act.put, List.setIfInBounds_toArray, List.set_cons_succ]
          have HFDv := Lib.hid (HFDca.out.keep HB_V11.out)
          have HUv := Lib.hid (HUca.out.keep HB_V11.out)
          have HBv := Lib.hid (HBca.out.trans (HB_V11.out.mono HBca.out.size))
          obtain ⟨k0, k1, k2, k3, k4, k5, k6, k7, k8, k9, k10, k11, k12⟩ := HFDv.out.b.all
          dsimp only at k0 k1 k2 k3 k4 k5 k6 k7 k8 k9 k10 k11 k12
          have f5 := HFDv.out.fb 5
          have f11 := HFDv.out.fb 11
          have f12 := HFDv.out.fb 12
          refine upL_ready (rs := [12]) (by kernel_rfl) (by simp) ?_
          refine EachL.cons rfl (fun K' hK => ?_) EachL.nil
          go_simp
          refine hK.out _ _ trivial (.inl (by kernel_rfl)) ?_
          clear hK K'
          try simp only [Act.put, List.setIfInBounds_toArray, List.set_cons_succ]
          refine upL_take (fun _ => True) (i := 13) (v := ?_) rfl (by kernel_rfl) (by kernel_rfl) (by kernel_rfl) (by kernel_rfl) (.inr fun _ h => h) (fun _ _ _ h => h) (Or.inl ⟨by rfl, ?_⟩) trivial trivial (.inl (by kernel_rfl)) ?_
          rotate_left
          · intro W0 hSw
            try dsimp only at hSw
            go_simp
            try with_reducible rfl
          try simp only [Act.put, List.setIfInBounds_toArray, List.set_cons_succ]
          refine upL_ready (rs := [14]) (by kernel_rfl) (by simp) ?_
          refine EachL.cons rfl (fun K' hK => ?_) EachL.nil
          go_simp
          refine hK.out _ _ trivial (.inl (by kernel_rfl)) ?_
          clear hK K'
          try simp only [Act.put, List.setIfInBounds_toArray, List.set_cons_succ]
          refine upL_done (by kernel_rfl) ?_ _
          go_wp2_with fail
          have HNL := Lib.hid (show w.heap.size ≤ gB from by have := HgB.out; omega)
          have HNF := Lib.hid (show w.heap.size ≠ gB ∧ w.heap.size + 1 ≠ gB from by have := HgB.out; omega)
          obtain ⟨w9, hw9⟩ : ∃ V, V = (V11.setCell ⟨w.heap.size, 11, none⟩ (.slice (some ⟨gB, 0, none⟩) (xs.length + 1) capB)).setCell ⟨w.heap.size, 5, none⟩ (.int .i64 0) := ⟨_, rfl⟩
          have HFD9 := Lib.hid (show FD w9 w.heap.size ⟨(i : Int), pl, s, .slice none 0 0, ti, 0, hd, tl, (l : Nat), tx, .slice none 0 0, .slice (some ⟨gB, 0, none⟩) (xs.length + 1) capB, ov⟩ from by rw [hw9]; exact (FD.set (d' := ⟨(i : Int), pl, s, .slice none 0 0, ti, 0, hd, tl, (l : Nat), tx, .slice none 0 0, .slice (some ⟨gB, 0, none⟩) (xs.length + 1) capB, ov⟩) (FD.set (d' := ⟨(i : Int), pl, s, .slice none 0 0, ti, dd, hd, tl, (l : Nat), tx, .slice none 0 0, .slice (some ⟨gB, 0, none⟩) (xs.length + 1) capB, ov⟩) HFDv.out 11 (.slice (some ⟨gB, 0, none⟩) (xs.length + 1) capB) rfl) 5 (.int .i64 0) rfl))
          have HU9 := Lib.hid (show Ws w9 (some ⟨G, 0, none⟩) n _ from by rw [hw9]; exact (Ws.out (a := ⟨w.heap.size, 5, none⟩) (v := (.int .i64 0)) (Ws.out (a := ⟨w.heap.size, 11, none⟩) (v := (.slice (some ⟨gB, 0, none⟩) (xs.length + 1) capB)) HUv.out hG0) hG0))
          have HB9 := Lib.hid (show Below w.heap.size w w9 from by rw [hw9]; exact (bset (a := ⟨w.heap.size, 5, none⟩) (v := (.int .i64 0)) (bset (a := ⟨w.heap.size, 11, none⟩) (v := (.slice (some ⟨gB, 0, none⟩) (xs.length + 1) capB)) HBv.out (Nat.le_refl _)) (Nat.le_refl _)))
          have HV9 := Lib.hid (show Vals w9 (some ⟨gB, 0, none⟩) _ from by rw [hw9]; exact (Vals.out (a := ⟨w.heap.size, 5, none⟩) (v := (.int .i64 0)) (Vals.out (a := ⟨w.heap.size, 11, none⟩) (v := (.slice (some ⟨gB, 0, none⟩) (xs.length + 1) capB)) HGB.out.vals HNF.out.1) HNF.out.1))
          rw [← hw9]
          clear hw9 k0 k1 k2 k3 k4 k5 k6 k7 k8 k9 k10 k11 k12 f5 f11 f12
          with_reducible refine (HOV2.out _ _ _ _ _ _ _ _ _).mono ?_
          rintro e w10 ⟨rfl, hB10⟩
          have HFD10 := Lib.hid (HFD9.out.keep hB10)
          have HU10 := Lib.hid (HU9.out.keep hB10)
          have HV10 := Lib.hid (HV9.out.keep hB10)
          have HB10 := Lib.hid (HB9.out.trans (hB10.mono HB9.out.size))
          obtain ⟨k0, k1, k2, k3, k4, k5, k6, k7, k8, k9, k10, k11, k12⟩ := HFD10.out.b.all
          obtain ⟨z0, z1, z2, z3, z4, z5, z6, z7, z8, z9, z10, z11, z12⟩ := HFD10.out.z.all
          dsimp only [dZ] at k0 k1 k2 k3 k4 k5 k6 k7 k8 k9 k10 k11 k12 z0 z1 z2 z3 z4 z5 z6 z7 z8 z9 z10 z11 z12
          have f12 := HFD10.out.fb 12
          have g0z := HFD10.out.fz 0
          have g1z := HFD10.out.fz 1
          have g2z := HFD10.out.fz 2
          have g3z := HFD10.out.fz 3
          have g4z := HFD10.out.fz 4
          have g5z := HFD10.out.fz 5
          have g6z := HFD10.out.fz 6
          have g7z := HFD10.out.fz 7
          have g8z := HFD10.out.fz 8
          have g9z := HFD10.out.fz 9
          have g10z := HFD10.out.fz 10
          have g11z := HFD10.out.fz 11
          have g12z := HFD10.out.fz 12
          clear hB10
          go_wp2_with fail
          refine bodyPost_ret (v := .tuple #[.agg #[.int .i64 (i : Int), .int .i64 pl, .int .i64 s, .slice none 0 0, .int .i64 ti, .int .i64 0, .int .u32 hd, .int .u32 tl, .int .i64 (l : Nat), .string tx, .slice none 0 0, .slice (some ⟨gB, 0, none⟩) (xs.length + 1) capB, .bool (((xs.length + 1 : Nat) : Int) == ti)], .slice (some ⟨G, 0, none⟩) n cap']) (by simp [results, Tryd.results18, go_sem, same_some, z0, z1, z2, z3, z4, z5, z6, z7, z8, z9, z10, z11, z12]) rfl ⟨some ⟨G, 0, none⟩, cap', gB, capB, by simp [DS.V], ?_, ?_, ?_, HNL.out, .inr ⟨G, rfl, hGL.out⟩⟩
          · exact tail_ws (Ws.out (a := ⟨w.heap.size, 12, none⟩) HU10.out hG0) hG4 _ _ _ _ _ _ _ _ _ _ _ _ _
          · exact tail_vals (Vals.out (a := ⟨w.heap.size, 12, none⟩) HV10.out HNF.out.1) HNF.out.2 _ _ _ _ _ _ _ _ _ _ _ _ _
          · exact tail_be (bset HB10.out (Nat.le_refl _)) (by omega) _ _ _ _ _ _ _ _ _ _ _ _ _
        exact EachL.nil
      exact EachL.nil
    exact EachL.nil
  exact EachL.nil
end Go.Proofs.YtnmobalgghggnaaDoor
