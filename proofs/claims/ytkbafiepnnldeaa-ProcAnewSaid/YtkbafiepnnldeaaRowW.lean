/-
  slices.Insert and slices.Delete over a row of numbers of its own: laid from the library's contracts.
-/
import Derived.Test.YtkbafiepnnldeaaMem
import Derived.Shelf.SlGeneric
import Derived.Shelf.Spec.SlicesInsertGrow
import Derived.Lib.LazyBuf
namespace Go.Proofs.Ytkbafiepnnldeaa
open Go.RowKit Go.Shelf

def insR : Go.Shelf.Ren := ⟨fun | 21 => 60 | 27 => 61 | 28 => 62 | 35 => 63 | 39 => 64 | n => n, fun | 22 => 29 | 3 => 3 | 4 => 4 | 0 => 0 | n => n, fun | n => n⟩
theorem insL : Go.Proofs.Lays2.n21 Try.prog insR := {
  mixed := by kernel_rfl
  f21 := Try.func60.trans (congrArg some (by kernel_rfl))
  f27 := Try.func61.trans (congrArg some (by kernel_rfl))
  f28 := Try.func62.trans (congrArg some (by kernel_rfl))
  f35 := Try.func63.trans (congrArg some (by kernel_rfl))
  f39 := Try.func64.trans (congrArg some (by kernel_rfl))
  t0 := Try.underlying0
  a0 := Try.isAgg0
  z0 := Try.sizeOf0
  v0 := Try.zeroValue0
  t3 := Try.underlying3
  a3 := Try.isAgg3
  z3 := Try.sizeOf3
  v3 := Try.zeroValue3
  t4 := Try.underlying4
  a4 := Try.isAgg4
  z4 := Try.sizeOf4
  v4 := Try.zeroValue4
  t22 := Try.underlying29
  a22 := Try.isAgg29
  z22 := Try.sizeOf29
  v22 := Try.zeroValue29
  i3 := by kernel_rfl }

/-! ### a row's cells -/
theorem getD_of {l : List Int} {j : Nat} (hj : j < l.length) : l[j]? = some (l.getD j 0) := by
  rw [List.getD_eq_getElem?_getD, List.getElem?_eq_getElem hj]; rfl
section
variable {w w' : World} {v : Value} {l : List Int}
theorem Nums.of_row {g cap : Nat} {f : Nat → Value} (h : w.rowIs g 3 cap f) (hf : ∀ j, j < l.length → f j = nV (l.getD j 0)) (hn : l.length ≤ cap) (hm : cap ≤ maxLen) : Nums w (.slice (some ⟨g, 0, none⟩) l.length cap) l := by
  obtain ⟨c, hb, hs, hc⟩ := h
  refine Nums.mk hb hn hm hs (List.ext_getElem? fun j => ?_)
  rcases Nat.lt_or_ge j l.length with hj | hj
  · rw [List.getElem?_take_of_lt hj, List.getElem?_map, getD_of hj]
    have := hc j (by omega)
    rw [hf j hj] at this
    simpa using this
  · rw [List.getElem?_eq_none (by rw [List.length_take]; omega), List.getElem?_eq_none (by rw [List.length_map]; omega)]
theorem Nums.row (h : Nums w v l) (hv : v.ownBlock.isSome = true) : ∃ (g cap : Nat) (f : Nat → Value), v = .slice (some ⟨g, 0, none⟩) l.length cap ∧ w.rowIs g 3 cap f ∧ (∀ j, j < l.length → f j = nV (l.getD j 0)) ∧ l.length ≤ cap ∧ cap ≤ maxLen := by
  rcases h.shape with ⟨h1, h2⟩ | ⟨g, cap, cur, hv', hg, hn, hm, hs, ht⟩
  · subst h1; cases hv
  · refine ⟨g, cap, fun j => cur[j]!, hv', ⟨cur, hg, hs, fun j hj => ?_⟩, fun j hj => ?_, hn, hm⟩
    · show cur[j]? = some cur[j]!
      rw [getElem!_pos cur j (by omega)]; exact Array.getElem?_eq_getElem (by omega)
    · have h2 : cur.toList[j]? = (l.map nV)[j]? := by rw [← ht, List.getElem?_take_of_lt hj]
      rw [List.getElem?_map, getD_of hj] at h2
      have h3 : cur[j]? = some (nV (l.getD j 0)) := by simpa using h2
      show cur[j]! = _
      rw [Array.getElem!_eq_getD, Array.getD_eq_getD_getElem?, h3]
      rfl
end
theorem rowIs_shape {w : World} {b t n : Nat} {f : Nat → Value} (h : w.rowIs b t n f) : w.shape? b = some (t, n) := by
  obtain ⟨c, hb, hs, _⟩ := h
  simp [World.shape?, hb, hs]
theorem one_nV : ∀ {vs : List Value} {l : List Int}, vs = l.map nV → ∀ u ∈ vs, u.oneCell' = true := by
  intro vs l e u hu
  subst e
  obtain ⟨x, _, rfl⟩ := List.mem_map.1 hu
  rfl
def insAt (l : List Int) (i : Nat) (x : Int) : List Int := l.take i ++ x :: l.drop i
def delAt' (l : List Int) (i : Nat) : List Int := l.take i ++ l.drop (i + 1)
theorem insAt_len (l : List Int) (i : Nat) (x : Int) : (insAt l i x).length = l.length + 1 := by simp only [insAt, List.length_append, List.length_cons, List.length_take, List.length_drop]; omega
theorem insAt_at {l : List Int} {i : Nat} {x : Int} (hi : i ≤ l.length) (j : Nat) : (insAt l i x).getD j 0 = if j < i then l.getD j 0 else if j = i then x else l.getD (j - 1) 0 := by
  unfold insAt
  have hl : (l.take i).length = i := by rw [List.length_take]; omega
  simp only [List.getD_eq_getElem?_getD]
  rcases Nat.lt_trichotomy j i with h | h | h
  · rw [if_pos h, List.getElem?_append_left (by omega), List.getElem?_take_of_lt h]
  · subst h
    rw [if_neg (by omega), if_pos rfl, List.getElem?_append_right (by omega), hl, Nat.sub_self]
    rfl
  · rw [if_neg (by omega), if_neg (by omega), List.getElem?_append_right (by omega), hl, show j - i = (j - i - 1) + 1 by omega, List.getElem?_cons_succ, List.getElem?_drop, show i + (j - i - 1) = j - 1 by omega]
theorem zc_at {n j : Nat} (h : j < n) : (Builtin.zeroCells (Value.int .i64 0).cells n)[j]? = some (.int .i64 0) := by
  have e : (Builtin.zeroCells (Value.int .i64 0).cells n) = Array.ofFn (n := n) fun _ => Value.int .i64 0 := by
    apply Array.ext
    · simp [Builtin.zeroCells, Value.cells]
    · intro i h1 h2
      simp [Builtin.zeroCells, Value.cells, Nat.mod_one]
  rw [e]
  simp [h]
theorem zc_len (n : Nat) : (Builtin.zeroCells (Value.int .i64 0).cells n).size = n := by simp [Builtin.zeroCells, Value.cells]
/-- What Insert leaves. -/
def InsP (v : Value) (l : List Int) (i : Nat) (x : Int) (w : World) (e : Ending) (w' : World) : Prop :=
  ∃ v', e = .returned v' ∧ Nums w' v' (insAt l i x) ∧ Chg (fun k => v.ownBlock = some k) w w' ∧ (v'.ownBlock = v.ownBlock ∨ ∃ k, v'.ownBlock = some k ∧ w.heap.size ≤ k)
theorem chg_new {w w' : World} {S : Nat → Prop} {o : Obj} (h : Chg S (w.alloc o) w') (hS : ∀ k, k < w.heap.size → ¬ S k) : Chg (fun _ => False) w w' :=
  (Chg.refl w).trans' ((Chg.of_below ((Below.refl _ _).alloc (Nat.le_refl _) _) : Chg S w (w.alloc o)).trans h) fun k hk hs => hS k hk hs
theorem insert_any (v : Value) (l : List Int) (i : Nat) (x : Int) (vb : Nat) (w : World) (hv : Nums w v l) (hi : i ≤ l.length) (hn : l.length ≤ 100000) (hx : w.heap[vb]? = some (.cells #[nV x] 3 (0, 0))) (hne : v.ownBlock ≠ some vb) :
    Calls Try.prog 60 #[v, nV i, .slice (some ⟨vb, 0, none⟩) 1 1] w fun e w' => InsP v l i x w e w' := by
  have hvs : ∀ j u, [nV x][j]? = some u → w.cell? ⟨vb, 0 + j, none⟩ = some u := by
    intro j u hu
    have hj : j = 0 := by
      rcases Nat.eq_zero_or_pos j with e | e
      · exact e
      · rw [List.getElem?_eq_none (by simp; omega)] at hu; cases hu
    subst hj
    simp at hu
    subst hu
    simp [World.cell?, hx]
  have h1v : ∀ u ∈ [nV x], u.oneCell' = true := by intro u hu; simp at hu; subst hu; rfl
  have hcl : (l.map nV).length = l.length := by simp
  have hL := insAt_len l i x
  have hfin : ∀ {W : World} (g cap : Nat) (f : Nat → Value), W.rowIs g 3 cap f → (∀ j, j < l.length + 1 → f j = nV ((insAt l i x).getD j 0)) → l.length + 1 ≤ cap → cap ≤ maxLen → Nums W (.slice (some ⟨g, 0, none⟩) (l.length + 1) cap) (insAt l i x) := fun g cap f h1 h2 h3 h4 => by
    have := Nums.of_row (l := insAt l i x) h1 (fun j hj => h2 j (by omega)) (by omega) h4
    rw [hL] at this
    exact this
  cases hv' : v.ownBlock with
  | none =>
    obtain ⟨A, c, rfl, hA⟩ := hv.len
    have hA0 : A = none := by cases A with | none => rfl | some a => cases hv'
    subst hA0
    have h0 : l = [] := by
      cases l with
      | nil => rfl
      | cons y r => obtain ⟨g, e⟩ := hA (by simp); cases e
    subst h0
    obtain rfl : i = 0 := by simpa using hi
    have hc0 : c = 0 := by
      rcases hv.shape with ⟨h1, _⟩ | ⟨g, cap, cur, h1, _⟩
      · injection h1
      · cases h1
    subst hc0
    have := Any2.slices_Insert_int_end_grow insL none 0 0 vb 0 1 1 [] [nV x] w (by omega) (by omega) (by omega) (by omega) rfl rfl (fun _ => rfl) (fun a e => by cases e) hvs h1v
    refine this.mono fun e w' ⟨he, hw⟩ => ⟨_, he, ?_, ?_, .inr ⟨_, rfl, Nat.le_refl _⟩⟩
    · subst hw
      have hge := grownCap_ge w (0 + 1) 0 (insR.t 3)
      have hle := grownCap_le_maxLen w (0 + 1) 0 (insR.t 3) (by unfold maxLen; omega)
      revert hge hle
      generalize grownCap w (0 + 1) 0 (insR.t 3) = G
      intro hge hle
      refine Nums.of_row (l := insAt [] 0 x) (f := fun j => if j = 0 then nV x else .int .i64 0) ⟨_, heap_alloc_new w.drew _, ?_, fun j hj => ?_⟩ ?_ (by simpa [insAt] using hge) hle
      · simp [Builtin.zeroCells, Value.cells]; omega
      · have hz : ([] ++ [nV x] : List Value).toArray.size = 1 := rfl
        show _ = some (if j = 0 then nV x else .int .i64 0)
        rcases Nat.eq_zero_or_pos j with e | e
        · subst e; rw [Array.getElem?_append_left (by omega)]; rfl
        · rw [if_neg (by omega), Array.getElem?_append_right (by omega), hz]
          exact zc_at (by omega)
      · intro j hj
        have : j = 0 := by simp [insAt] at hj; exact hj
        subst this
        rfl
    · subst hw
      exact Chg.of_below ((Below.refl _ _).drew.alloc (Nat.le_refl _) _)
  | some b =>
    obtain ⟨g, cap, f, rfl, hr, hf, hnc, hm⟩ := hv.row (by rw [hv']; rfl)
    have hg : g = b := by injection hv'
    subst hg
    have hng : vb ≠ g := fun e => hne (by rw [e]; rfl)
    have hglt := hr.lt
    have hcs : ∀ j u, (l.map nV)[j]? = some u → w.cell? ⟨g, 0 + j, none⟩ = some u := by
      intro j u hu
      have hj : j < l.length := by have := (List.getElem?_eq_some_iff.1 hu).1; simpa using this
      rw [List.getElem?_map, getD_of hj] at hu
      injection hu with hu
      rw [Nat.zero_add, hr.cell (by omega), hf j hj, hu]
    have hsome : ∀ j, j < cap → (w.cell? ⟨g, 0 + j, none⟩).isSome = true := fun j hj => by rw [Nat.zero_add, hr.cell hj]; rfl
    have hfz : ∀ j, w.frozen? ⟨g, 0 + j, none⟩ = false := fun j => hr.frozen _
    have hC : ∀ (vs : List Value) (o : Nat) (W : World), Chg (fun k => (Value.slice (some ⟨g, 0, none⟩) l.length cap).ownBlock = some k) w W → Chg (fun k => (Value.slice (some ⟨g, 0, none⟩) l.length cap).ownBlock = some k) w (W.setCells g o vs) := fun vs o W h => h.setCells (b := g) rfl vs o
    by_cases hil : i < l.length
    · by_cases hroom : l.length + 1 ≤ cap
      · have hsa : w.shape? vb = some (3, 1) := by simp [World.shape?, hx]
        have := Any2.slices_Insert_int_shift insL g 0 l.length cap i vb 0 1 1 (l.map nV) [nV x] w hil (by omega) hroom (by unfold maxLen at hm; omega) hng hcl rfl hcs (fun j hj => hsome j (by omega)) (fun j hj => hfz j) hvs (one_nV rfl) h1v 3 3 1 cap hsa (rowIs_shape hr) (by omega) (by simp [World.frozen?, hx]) (by simp [World.frozen?, hx])
        refine this.mono fun e w' ⟨he, hw⟩ => ⟨_, he, ?_, ?_, .inl rfl⟩
        · subst hw
          have hr1 := Go.rowIs_setCells ((l.map nV).drop i) (0 + (i + 1)) w.drew f hr.drew
          have hr2 := Go.rowIs_setCells [nV x] (0 + i) _ _ hr1
          refine hfin _ _ _ hr2 (fun j hj => ?_) (by omega) hm
          rw [insAt_at hi]
          try dsimp only
          by_cases h1 : j < i
          · rw [if_neg (by simp; omega), if_neg (by simp; omega), if_pos h1, hf j (by omega)]
          · rw [if_neg h1]
            by_cases h2 : j = i
            · rw [if_pos (by simp; omega), if_pos h2]
              subst h2
              simp
            · rw [if_neg (by simp; omega), if_pos (by simp; omega), if_neg h2]
              rw [List.getElem?_drop, List.getElem?_map, show i + (j - (0 + (i + 1))) = j - 1 by omega, getD_of (by omega)]
              rfl
        · subst hw
          exact hC _ _ _ (hC _ _ _ (Chg.refl w).drew)
      · have := Any2.slices_Insert_int_grow insL g 0 l.length cap i vb 0 1 1 (l.map nV) [nV x] w hil (by omega) hnc (by omega) (by omega) hcl rfl hcs hvs (one_nV rfl) h1v
        refine this.mono fun e w' ⟨he, hw⟩ => ⟨_, he, ?_, ?_, .inr ⟨_, rfl, Nat.le_refl _⟩⟩
        · subst hw
          have hge := grownCap_ge w (l.length + 1) cap (insR.t 3)
          have hle := grownCap_le_maxLen w (l.length + 1) cap (insR.t 3) (by unfold maxLen; omega)
          revert hge hle
          generalize grownCap w (l.length + 1) cap (insR.t 3) = G
          intro hge hle
          have hr0 : (w.alloc (.cells (((l.map nV).take i).toArray ++ Builtin.zeroCells (Value.int .i64 0).cells (l.length + 1 - i) ++ Builtin.zeroCells (Value.int .i64 0).cells (G - (l.length + 1))) (insR.t 3))).rowIs w.heap.size 3 G (fun j => if j < i then nV (l.getD j 0) else .int .i64 0) := by
            refine ⟨_, heap_alloc_new w _, ?_, fun j hj => ?_⟩
            · simp [Builtin.zeroCells, Value.cells]; omega
            · have hz : ((l.map nV).take i).toArray.size = i := by simp; omega
              show _ = some (if j < i then nV (l.getD j 0) else .int .i64 0)
              by_cases h1 : j < i
              · rw [if_pos h1, Array.append_assoc, Array.getElem?_append_left (by omega)]
                rw [List.getElem?_toArray, List.getElem?_take_of_lt h1, List.getElem?_map, getD_of (by omega)]
                rfl
              · rw [if_neg h1, Array.append_assoc, Array.getElem?_append_right (by omega), hz]
                by_cases h2 : j - i < l.length + 1 - i
                · rw [Array.getElem?_append_left (by rw [zc_len]; exact h2)]
                  exact zc_at h2
                · rw [Array.getElem?_append_right (by rw [zc_len]; omega), zc_len]
                  exact zc_at (by omega)
          have hr1 := Go.rowIs_setCells [nV x] i _ _ hr0.drew
          have hr2 := Go.rowIs_setCells ((l.map nV).drop i) (i + 1) _ _ hr1.drew
          refine hfin _ _ _ hr2 (fun j hj => ?_) (by omega) hle
          rw [insAt_at hi]
          try dsimp only
          by_cases h1 : j < i
          · rw [if_neg (by simp; omega), if_neg (by simp; omega), if_pos h1, if_pos h1]
          · by_cases h2 : j = i
            · rw [if_neg (by simp; omega), if_pos (by simp; omega), if_neg h1, if_pos h2]
              subst h2
              simp
            · rw [if_pos (by simp; omega), if_neg h1, if_neg h2]
              rw [List.getElem?_drop, List.getElem?_map, show i + (j - (i + 1)) = j - 1 by omega, getD_of (by omega)]
              rfl
        · subst hw
          have h0 : Chg (fun k => k = w.heap.size) w (w.alloc (.cells (((l.map nV).take i).toArray ++ Builtin.zeroCells (Value.int .i64 0).cells (l.length + 1 - i) ++ Builtin.zeroCells (Value.int .i64 0).cells (grownCap w (l.length + 1) cap (insR.t 3) - (l.length + 1))) (insR.t 3))) := Chg.of_below ((Below.refl _ _).alloc (Nat.le_refl _) _)
          have h1 := ((h0.drew.setCells (b := w.heap.size) rfl [nV x] i).drew).setCells (b := w.heap.size) rfl ((l.map nV).drop i) (i + 1)
          exact (Chg.refl w).trans' h1 fun k hk e => by omega
    · obtain rfl : i = l.length := by omega
      by_cases hroom : l.length + 1 ≤ cap
      · have := Any2.slices_Insert_int_end_room insL g 0 l.length cap vb 0 1 1 [nV x] w (by omega) hroom (by unfold maxLen at hm; omega) rfl (fun j hj => by have := hsome (l.length + j) (by omega); simpa [Nat.add_assoc] using this) (fun j hj => by have := hfz (l.length + j); simpa [Nat.add_assoc] using this) hvs h1v
        refine this.mono fun e w' ⟨he, hw⟩ => ⟨_, he, ?_, ?_, .inl rfl⟩
        · subst hw
          have hr2 := Go.rowIs_setCells [nV x] (0 + l.length) w f hr
          refine hfin _ _ _ hr2 (fun j hj => ?_) (by omega) hm
          rw [insAt_at hi]
          try dsimp only
          by_cases h1 : j < l.length
          · rw [if_neg (by simp; omega), if_pos h1, hf j h1]
          · rw [if_neg h1, if_pos (by simp; omega), if_pos (by omega)]
            obtain rfl : j = l.length := by omega
            simp
        · subst hw
          exact hC _ _ _ (Chg.refl w)
      · have := Any2.slices_Insert_int_end_grow insL (some ⟨g, 0, none⟩) l.length cap vb 0 1 1 (l.map nV) [nV x] w (by omega) hnc (by omega) (by omega) hcl rfl (fun e => by cases e) (fun a e j u hu => by injection e with e; subst e; rw [Go.WideShapes.add_plain]; exact hcs j u hu) hvs h1v
        refine this.mono fun e w' ⟨he, hw⟩ => ⟨_, he, ?_, ?_, .inr ⟨_, rfl, Nat.le_refl _⟩⟩
        · subst hw
          have hge := grownCap_ge w (l.length + 1) cap (insR.t 3)
          have hle := grownCap_le_maxLen w (l.length + 1) cap (insR.t 3) (by unfold maxLen; omega)
          revert hge hle
          generalize grownCap w (l.length + 1) cap (insR.t 3) = G
          intro hge hle
          refine hfin _ _ (fun j => if j < l.length then nV (l.getD j 0) else if j = l.length then nV x else .int .i64 0) ⟨_, heap_alloc_new w.drew _, ?_, fun j hj => ?_⟩ (fun j hj => ?_) (by omega) hle
          · simp [Builtin.zeroCells, Value.cells]; omega
          · have hz : (l.map nV ++ [nV x]).toArray.size = l.length + 1 := by simp
            show _ = some (if j < l.length then nV (l.getD j 0) else if j = l.length then nV x else .int .i64 0)
            by_cases h1 : j < l.length + 1
            · rw [Array.getElem?_append_left (by omega)]
              by_cases h2 : j < l.length
              · rw [if_pos h2]
                simp [List.getElem?_append_left, h2]
              · rw [if_neg h2, if_pos (by omega)]
                obtain rfl : j = l.length := by omega
                simp
            · rw [if_neg (by omega), if_neg (by omega), Array.getElem?_append_right (by omega), hz]
              exact zc_at (by omega)
          · rw [insAt_at hi]
            try dsimp only
            by_cases h1 : j < l.length
            · rw [if_pos h1, if_pos h1]
            · rw [if_neg h1, if_neg h1, if_pos (by omega), if_pos (by omega)]
        · subst hw
          exact Chg.of_below ((Below.refl _ _).drew.alloc (Nat.le_refl _) _)
end Go.Proofs.Ytkbafiepnnldeaa
