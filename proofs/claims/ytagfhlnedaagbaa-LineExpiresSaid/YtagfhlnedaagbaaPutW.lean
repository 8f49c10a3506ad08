/-
  Put, remove, Drop, First, Take, New, Now.
-/
import Derived.Test.YtagfhlnedaagbaaFnd
namespace Go.Proofs.Ytagfhlnedaagbaa
open Go.RowKit Go.Sort

/-! ### delete -/
theorem putRow_row {w : World} {b t n : Nat} {f : Nat → Value} (h : w.rowIs b t n f) (d : Array Int) : (putRow nV w b 0 d).rowIs b t n (fun j => if j < d.size then nV d[j]! else f j) := by
  obtain ⟨c, hb, hs, hc⟩ := h
  refine ⟨putCells nV 0 d c, ?_, by simp [putCells, hs], fun j hj => ?_⟩
  · simp [putRow, mapBlock, Array.getElem?_modify, hb, onCells]
  · unfold putCells
    rw [Array.getElem?_mapIdx, hc j hj]
    simp only [Option.map_some, Nat.zero_add, Nat.zero_le, true_and, Nat.sub_zero]
theorem chg_putRow {w : World} {b : Nat} {n : Nat} (d : Array Int) : Chg (fun k => k = b) w (putRow nV (Sort.ahead w n) b 0 d) :=
  ⟨rfl, rfl, rfl, by simp, fun k _ hk => by
    simp only [putRow, mapBlock, Sort.ahead]
    rw [Array.getElem?_modify, if_neg (fun e => hk e.symm)]⟩
theorem nums_holds {w : World} {g cap : Nat} {l : List Int} (h : Nums w (.slice (some ⟨g, 0, none⟩) l.length cap) l) : Holds nV w g 0 l.toArray := fun j hj => by
  have hj : j < l.length := by simpa using hj
  rw [Nat.zero_add]
  refine ⟨?_, h.fz j⟩
  rw [h.at hj, getElem!_pos l.toArray j (by simpa using hj), List.getD_eq_getElem?_getD, List.getElem?_eq_getElem hj]
  simp
def DelR (v : Value) (l : List Int) (i : Nat) (w : World) (e : Ending) (w' : World) : Prop :=
  ∃ v', e = .returned v' ∧ Nums w' v' (delAt' l i) ∧ Chg (fun k => v.ownBlock = some k) w w' ∧ v'.ownBlock = v.ownBlock
theorem info3 : ∃ i0, Try.prog.info? 3 = some i0 ∧ i0.size = 1 := by
  have h : (Try.prog.info? 3).map (fun i => i.size) = some 1 := by kernel_rfl
  cases hq : Try.prog.info? 3 with
  | none => simp [hq] at h
  | some i => simp [hq] at h; exact ⟨i, rfl, h⟩
theorem delete_any (v : Value) (l : List Int) (i : Nat) (w : World) (hv : Nums w v l) (hi : i < l.length) :
    Calls Try.prog 36 #[v, nV i, nV ((i : Int) + 1)] w fun e w' => DelR v l i w e w' := by
  obtain ⟨i0, hi0, hz⟩ := info3
  have hob : v.ownBlock.isSome = true := by
    obtain ⟨A, c, rfl, hA⟩ := hv.len
    obtain ⟨g, rfl⟩ := hA (by omega)
    rfl
  obtain ⟨g, cap, f, rfl, hr, hf, hnc, hm⟩ := hv.row hob
  have := AnyE.slices_Delete delL nV (fun _ => rfl) 0 (fun w => Try.zeroValue3 w) i0 hi0 hz g 0 cap i (i + 1) l.toArray w (nums_holds hv) (by simpa using hnc) (by unfold maxLen at hm; omega) (by omega) (by simp; omega)
  have e1 : ((i + 1 : Nat) : Int) = (i : Int) + 1 := by omega
  rw [e1] at this
  have e2 : l.toArray.size = l.length := by simp
  rw [e2] at this
  have hdl : (delAt' l i).length = l.length - 1 := by simp only [delAt', List.length_append, List.length_take, List.length_drop]; omega
  refine this.mono fun e w' ⟨he, q, hw⟩ => ⟨_, he, ?_, ?_, rfl⟩
  · subst hw
    rw [show l.length - (i + 1 - i) = (delAt' l i).length by omega]
    have hr' : (Sort.ahead w q).rowIs g 3 cap f := hr
    refine Nums.of_row (putRow_row hr' _) (fun j hj => ?_) (by omega) hm
    show (if j < (delAt' l i ++ List.replicate (i + 1 - i) (0 : Int)).toArray.size then nV ((delAt' l i ++ List.replicate (i + 1 - i) (0 : Int)).toArray[j]!) else f j) = _
    have hsz : (delAt' l i ++ List.replicate (i + 1 - i) (0 : Int)).toArray.size = l.length := by simp; omega
    rw [if_pos (by omega), getElem!_pos _ j (by omega)]
    rw [List.getD_eq_getElem?_getD, List.getElem?_eq_getElem hj, Option.getD_some]
    simp only [List.getElem_toArray]
    rw [List.getElem_append_left hj]
  · subst hw
    exact (chg_putRow _).mono fun k hk => by rw [hk]; rfl

/-! ### what a call leaves of a line -/
/-- The queue's slice: where it was, or in a new block. -/
def Slid (v v' : Value) (w : World) : Prop := v'.ownBlock = v.ownBlock ∨ ∃ k, v'.ownBlock = some k ∧ w.heap.size ≤ k
/-- Behind a call on a line. -/
def LnP (g b : Nat) (v : Value) (S' : Ln) (w w' : World) : Prop := ∃ v', LnAt w' g b v' S' ∧ Chg (Blk g b v) w w' ∧ Slid v v' w
theorem LnP.refl {g b : Nat} {v : Value} {S : Ln} {w : World} (h : LnAt w g b v S) : LnP g b v S w w := ⟨v, h, Chg.refl w, .inl rfl⟩
theorem LnP.below {g b : Nat} {v : Value} {S : Ln} {w w' : World} (h : LnAt w g b v S) (hB : Below w.heap.size w w') : LnP g b v S w w' := ⟨v, h.keep hB, Chg.of_below hB, .inl rfl⟩
theorem slid_trans {v v' v'' : Value} {w w' : World} (h : Slid v v' w) (k : Slid v' v'' w') (hs : w.heap.size ≤ w'.heap.size) : Slid v v'' w := by
  rcases k with k | ⟨x, k1, k2⟩
  · unfold Slid; rw [k]; exact h
  · exact .inr ⟨x, k1, by omega⟩
theorem chg_slid {g b : Nat} {v v' : Value} {w w' w'' : World} (h : Chg (Blk g b v) w w') (hs : Slid v v' w) (k : Chg (Blk g b v') w' w'') : Chg (Blk g b v) w w'' :=
  h.trans' k fun i hi hb => by
    rcases hb with e | e | e
    · exact .inl e
    · exact .inr (.inl e)
    · rcases hs with hs | ⟨x, h1, h2⟩
      · exact .inr (.inr (by rw [← hs]; exact e))
      · rw [h1] at e; injection e with e; omega
theorem LnP.trans {g b : Nat} {v v' : Value} {S' : Ln} {w w' w'' : World} (h : Chg (Blk g b v) w w') (hs : Slid v v' w) (k : LnP g b v' S' w' w'') : LnP g b v S' w w'' := by
  obtain ⟨v'', k1, k2, k3⟩ := k
  exact ⟨v'', k1, chg_slid h hs k2, slid_trans hs k3 h.size⟩

theorem new_any (w : World) : Calls Try.prog 8 #[] w fun e w' => e = .returned (.pointer (some ⟨w.heap.size + 1, 0, none⟩)) ∧ LnAt w' (w.heap.size + 1) w.heap.size (.slice none 0 0) Ln.new ∧ Below w.heap.size w w' := by
  have hmm := @run_makeMap Try.prog
  go_enter Try.func8, Try.ntmps8
  go_wp2_with fail
  go_ret
  refine ⟨rfl, ⟨al_new _ _ _ 0 _ (by simp) rfl, al_new _ _ _ 1 _ (by simp) rfl, al_new _ _ _ 2 _ (by simp) rfl, al_new _ _ _ 3 _ (by simp) rfl, fun j => frozen_at _ _ _ _ _ (by simp), ?_, Nums.nil _, by omega, by simp [Value.ownBlock], by simp [Value.ownBlock], ok_new⟩, ((Below.refl _ _).alloc (Nat.le_refl _) _).alloc (by simp) _⟩
  exact ((MapAt.new w).keep ((Below.refl _ _).alloc (Nat.le_refl _) _)).congr (fun _ => rfl) (fun _ => rfl) (Nat.le_refl _)
theorem now_any {g b : Nat} {v : Value} {S : Ln} (w : World) (h : LnAt w g b v S) : Calls Try.prog 15 #[.pointer (some ⟨g, 0, none⟩)] w fun e w' => e = .returned (nV S.now) ∧ w = w' := by
  have c3 := h.c3
  clear h
  go_enter Try.func15, Try.ntmps15
  go_wp2_with fail
  go_ret
  exact ⟨rfl, rfl⟩
theorem first_any {g b : Nat} {v : Value} {S : Ln} (w : World) (h : LnAt w g b v S) : Calls Try.prog 12 #[.pointer (some ⟨g, 0, none⟩)] w fun e w' => e = .returned (.tuple #[nV S.first, .bool S.any]) ∧ w = w' := by
  have c1 := h.c1
  obtain ⟨A, c, rfl, hA⟩ := h.row.len
  cases hq : S.q with
  | nil =>
    have h0 : S.nums.length = 0 := by rw [nums_len, hq]; rfl
    have e1 : S.first = 0 := by unfold Ln.first; rw [hq]
    have e2 : S.any = false := by unfold Ln.any; rw [hq]; rfl
    rw [h0] at c1
    rw [e1, e2]
    clear h hA
    go_enter Try.func12, Try.ntmps12
    go_wp2_with fail
    go_ret2
    exact ⟨rfl, rfl⟩
  | cons a r =>
    have h0 : S.nums.length = r.length + 1 := by rw [nums_len, hq]; rfl
    have e1 : S.first = (a.id.val : Int) := by unfold Ln.first; rw [hq]
    have e2 : S.any = true := by unfold Ln.any; rw [hq]; rfl
    obtain ⟨gq, rfl⟩ := hA (by omega)
    have k0 := h.row.at (i := 0) (by omega)
    have e3 : S.nums.getD 0 0 = (a.id.val : Int) := by unfold Ln.nums; rw [hq]; rfl
    rw [e3] at k0
    rw [h0] at c1
    rw [e1, e2]
    obtain ⟨x, hx⟩ : ∃ x, x = (a.id.val : Int) := ⟨_, rfl⟩
    rw [← hx] at k0 ⊢
    obtain ⟨n, hn⟩ : ∃ n : Nat, n = r.length := ⟨_, rfl⟩
    rw [← hn] at c1
    have i1 : ¬ ((n : Int) + 1 = 0) := by omega
    have i2 : (0 : Int) < (n : Int) + 1 := by omega
    clear h hA hx hn e1 e2 e3 h0
    go_enter Try.func12, Try.ntmps12
    go_wp2_with fail
    go_ret2
    exact ⟨rfl, rfl⟩
end Go.Proofs.Ytagfhlnedaagbaa
