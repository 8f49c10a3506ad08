/-
  The document's answer: a step of a task.
-/
import Derived.Test.YtdhanenbcjmfkaaDoorRunsA
namespace Go.Proofs.YtdhanenbcjmfkaaDoor
open Go.RowKit

/-- A document's task in cells. -/
def dC (t : Tk) : List Value := [.int .i64 t.kind, .int .i64 t.at', .int .i64 t.left, .bool t.has, .int .u32 t.v, .bool t.done]
/-- Six cells of a block. -/
def Box6 (w : World) (b : Nat) (t : Tk) : Prop := w.cell? ⟨b, 0, none⟩ = some (.int .i64 t.kind) ∧ w.cell? ⟨b, 1, none⟩ = some (.int .i64 t.at') ∧ w.cell? ⟨b, 2, none⟩ = some (.int .i64 t.left) ∧ w.cell? ⟨b, 3, none⟩ = some (.bool t.has) ∧ w.cell? ⟨b, 4, none⟩ = some (.int .u32 t.v) ∧ w.cell? ⟨b, 5, none⟩ = some (.bool t.done)
theorem Box6.keep {w w' : World} {b : Nat} {t : Tk} (h : Box6 w b t) (hB : Below w.heap.size w w') : Box6 w' b t :=
  ⟨kept h.1 hB, kept h.2.1 hB, kept h.2.2.1 hB, kept h.2.2.2.1 hB, kept h.2.2.2.2.1 hB, kept h.2.2.2.2.2 hB⟩
/-- The old address, or one that lies behind all. -/
def Anew (U : Option Addr) (H : Nat) (U' : Option Addr) : Prop := U' = U ∨ ∃ G, U' = some ⟨G, 0, none⟩ ∧ H ≤ G
/-- What Step does. -/
def RStepP (t : Tk) (f : Nat → Int) (U : Option Addr) (w : World) (e : Ending) (w' : World) : Prop :=
  ∃ U' d, e = .returned (.tuple #[dV (t.next 3 (f t.at'.toNat)), .slice U' 3 d]) ∧ Us w' U' 3 (upd f t.at'.toNat (t.word 3 (f t.at'.toNat))) ∧ Below w.heap.size w w' ∧ Anew U w.heap.size U'
/-- The world in which Step works: its task, its result. -/
noncomputable def WS (w : World) (t : Tk) : World := (w.alloc (.cells #[.int .i64 t.kind, .int .i64 t.at', .int .i64 t.left, .bool t.has, .int .u32 t.v, .bool t.done] 35)).alloc (.cells #[.int .i64 0, .int .i64 0, .int .i64 0, .bool false, .int .u32 0, .bool false] 35)
theorem ws_facts (w : World) (t : Tk) : Box6 (WS w t) w.heap.size t ∧ (WS w t).cell? ⟨w.heap.size + 1, 0, none⟩ = some (.int .i64 0) ∧ (WS w t).cell? ⟨w.heap.size + 1, 1, none⟩ = some (.int .i64 0) ∧ (WS w t).cell? ⟨w.heap.size + 1, 2, none⟩ = some (.int .i64 0) ∧ (WS w t).cell? ⟨w.heap.size + 1, 3, none⟩ = some (.bool false) ∧ (WS w t).cell? ⟨w.heap.size + 1, 4, none⟩ = some (.int .u32 0) ∧ (WS w t).cell? ⟨w.heap.size + 1, 5, none⟩ = some (.bool false) ∧
    (∀ j, (WS w t).frozen? ⟨w.heap.size, j, none⟩ = false) ∧ (∀ j, (WS w t).frozen? ⟨w.heap.size + 1, j, none⟩ = false) ∧ Below w.heap.size w (WS w t) ∧ (WS w t).heap.size = w.heap.size + 2 := by
  refine ⟨⟨al_cell (al_new _ _ _ 0 _ rfl rfl), al_cell (al_new _ _ _ 1 _ rfl rfl), al_cell (al_new _ _ _ 2 _ rfl rfl), al_cell (al_new _ _ _ 3 _ rfl rfl), al_cell (al_new _ _ _ 4 _ rfl rfl), al_cell (al_new _ _ _ 5 _ rfl rfl)⟩, al_new _ _ _ 0 _ (by simp) rfl, al_new _ _ _ 1 _ (by simp) rfl, al_new _ _ _ 2 _ (by simp) rfl, al_new _ _ _ 3 _ (by simp) rfl, al_new _ _ _ 4 _ (by simp) rfl, al_new _ _ _ 5 _ (by simp) rfl, fun j => ?_, fun j => ?_, ?_, ?_⟩
  · unfold WS; rw [frozen_old _ _ _ (by simp)]; exact frozen_at _ _ _ j _ rfl
  · exact frozen_at _ _ _ j _ (by simp)
  · exact ((Below.refl _ _).alloc (Nat.le_refl _) _).alloc (by simp) _
  · simp [WS]
/-- The words in a row of their own, behind the copy. -/
theorem words_own {w : World} {base : Nat} {v : Value} {f : Nat → Int} (h : w.ownsRow base 33 1 v 3 ((List.range 3).map fun i => .int .u32 (f i))) : ∃ G cap, v = .slice (some ⟨G, 0, none⟩) 3 cap ∧ base ≤ G ∧ G < w.heap.size ∧ Us w (some ⟨G, 0, none⟩) 3 f ∧ ∀ j, w.frozen? ⟨G, j, none⟩ = false := by
  rcases h.2 with ⟨_, h0⟩ | ⟨g, cap, cur, rfl, hg, hr, _, _, _, _⟩
  · omega
  · have hc : ∀ i, i < 3 → w.cell? ⟨g, 0 + i, none⟩ = some (.int .u32 (f i)) := fun i hi => by
      rw [Nat.zero_add, World.ownsRow.cellAt h i (by omega), List.getElem?_map, List.getElem?_range hi]
      rfl
    exact ⟨g, cap, rfl, hg, by have := cell_lt (hc 0 (by omega)); exact this, fun i hi => ⟨g, 0, rfl, hc i hi⟩, fun j => World.ownsRow.frozenAt h j⟩
theorem info33' : (Tryd.prog.info? 33).map (fun i => (i.zero, i.size, i.bytes)) = some (some (.int .u32 0), 1, 4) := by kernel_rfl
/-- The append of the words to an empty list. -/
theorem wpList_append_words {ops : Array Oper} {rest : List Oper} {o : Oper} {a : Act} {Q : Exit → Act → World → Prop} (hgd : o.guard = none) (s x : Operand)
    (ho : o.op = .call { callee := .builtin .append, args := #[s, x], argTypes := #[42, 42] }) {w : World} {cp : Nat} {U : Option Addr} {f : Nat → Int} (hU : Us w U 3 f) (H : Nat) (hH : w.heap.size = H)
    (hs : a.eval s = .slice (some ⟨H, 0, none⟩) 0 0) (hx : a.eval x = .slice U 3 cp)
    (hQ : ∀ G cap' w2, H ≤ G → G < w2.heap.size → Us w2 (some ⟨G, 0, none⟩) 3 f → (∀ j, w2.frozen? ⟨G, j, none⟩ = false) → Below w.heap.size w w2 → wpList Tryd.prog ops Q rest (a.put o.dst (.slice (some ⟨G, 0, none⟩) 3 cap')) w2) :
    wpList Tryd.prog ops Q (o :: rest) a (w.alloc (.cells #[] 33)) := by
  subst hH
  obtain ⟨i0, hi, hz0, hz1, hz2⟩ := info_parts info33'
  have hA : Below w.heap.size w (w.alloc (.cells #[] 33)) := (Below.refl _ _).alloc (Nat.le_refl _) _
  have hown : (w.alloc (.cells #[] 33)).ownsRow w.heap.size 33 1 (.slice (some ⟨w.heap.size, 0, none⟩) 0 0) 0 [] := World.ownsRow_lit w #[] 0 (Nat.le_refl _) (by decide) rfl
  obtain ⟨b, o', rfl⟩ := hU.head (i := 0) (by omega)
  refine wpList_append_own _ hgd s x 42 ho w.heap.size 33 i0 (.int .u32 0) 1 4 Tryd.underlying42 hi hz0 hz1 hz2 rfl (by decide) _ 0 [] hs hown ⟨b, o', none⟩ 3 cp ((List.range 3).map fun i => .int .u32 (f i)) hx (by simp) ?_ ?_ (by unfold maxLen; omega) (by omega) (by simp) ?_
  · intro j u hu
    have hj : j < 3 := by have := (List.getElem?_eq_some_iff.1 hu).1; simpa using this
    rw [List.getElem?_map, List.getElem?_range hj] at hu
    injection hu with hu
    subst hu
    rw [add_off]
    exact kept (hU.cell hj) hA
  · intro u hu
    obtain ⟨i, _, rfl⟩ := List.mem_map.1 hu
    rfl
  · intro v' w' hown' hgrow _
    have hO : w'.ownsRow w.heap.size 33 1 v' 3 ((List.range 3).map fun i => .int .u32 (f i)) := by simpa using hown'
    obtain ⟨G, cap', rfl, h1, h2, h3, h4⟩ := words_own hO
    exact hQ G cap' w' h1 h2 h3 h4 (hA.grown hgrow (by simp) (fun k hk => (World.ownsRow.lt hown k hk).1))
theorem keptn {n : Nat} {w w' : World} {a : Addr} {v : Value} (hc : w.cell? a = some v) (h : Below n w w') (hl : a.block < n) : w'.cell? a = some v := by rw [h.cell (p := a) hl]; exact hc
theorem Us.set {w : World} {b o n : Nat} {f : Nat → Int} (h : Us w (some ⟨b, o, none⟩) n f) {i : Nat} (hi : i < n) (v : Int) : Us (w.setCell ⟨b, o + i, none⟩ (.int .u32 v)) (some ⟨b, o, none⟩) n (upd f i v) := fun j hj => by
  refine ⟨b, o, rfl, ?_⟩
  unfold upd
  by_cases e : j = i
  · subst e
    rw [if_pos rfl]
    exact World.cell?_setCell_same _ _ _ (h.cell hj)
  · rw [if_neg e, World.cell?_setCell_other _ _ _ _ (by simp only [ne_eq, Addr.mk.injEq, not_and]; omega)]
    exact h.cell hj
theorem Us.set0 {w : World} {b n : Nat} {f : Nat → Int} (h : Us w (some ⟨b, 0, none⟩) n f) {i : Nat} (hi : i < n) (v : Int) : Us (w.setCell ⟨b, i, none⟩ (.int .u32 v)) (some ⟨b, 0, none⟩) n (upd f i v) := by
  have := h.set hi v
  rwa [Nat.zero_add] at this
theorem Us.out {w : World} {b n : Nat} {f : Nat → Int} {a : Addr} {v : Value} (h : Us w (some ⟨b, 0, none⟩) n f) (ha : a.block ≠ b) : Us (w.setCell a v) (some ⟨b, 0, none⟩) n f := fun j hj => by
  refine ⟨b, 0, rfl, ?_⟩
  rw [World.cell?_setCell_other _ _ _ _ (by intro e; apply ha; rw [e])]
  exact h.cell hj
set_option maxHeartbeats 4000000 in
set_option maxRecDepth 100000 in
theorem rstep_over (t : Tk) (U : Option Addr) (cp : Nat) (f : Nat → Int) (w : World) (hU : Us w U 3 f) (ho : t.over 3 = true) :
    Calls Tryd.prog 27 #[dV t, .slice U 3 cp] w fun e w' => RStepP t f U w e w' := by
  have HO := Lib.hid ho
  have HU := Lib.hid hU
  have hcase : t.left < 1 ∨ (¬ t.left < 1 ∧ t.at' < 0) ∨ (¬ t.left < 1 ∧ ¬ t.at' < 0 ∧ 3 ≤ t.at') := by
    unfold Tk.over at ho
    by_cases h1 : t.left < 1
    · exact .inl h1
    · simp [h1] at ho
      have := inM_no ho
      omega
  obtain ⟨K, a, left, has, v, done⟩ := t
  simp only [dV] at *
  clear hU ho
  rcases hcase with h1 | ⟨h1, h2⟩ | ⟨h1, h2, h3⟩
  all_goals
    go_enter Tryd.func27, Tryd.ntmps27
    go_wp2_with fail
    refine bodyPost_ret (v := .tuple #[.agg #[.int .i64 K, .int .i64 a, .int .i64 left, .bool has, .int .u32 v, .bool true], .slice U 3 cp]) (by simp [results, Tryd.results27, go_sem]) rfl ⟨U, cp, by rw [next_over HO.out]; rfl, ?_, ?_, .inl rfl⟩
    · rw [word_over HO.out]
      exact (HU.out.keep (((Below.refl _ _).alloc (Nat.le_refl _) _).alloc (by simp) _)).congr fun i _ => (upd_self f _ i).symm
    · exact ((Below.refl _ _).alloc (Nat.le_refl _) _).alloc (by simp) _
theorem us_drewN {w : World} {A : Option Addr} {n : Nat} {f : Nat → Int} {m : Nat} (h : Us w A n f) : Us (w.drewN m) A n f := h.keep (below_drewN (Below.refl _ _) m)
theorem us_drew {w : World} {A : Option Addr} {n : Nat} {f : Nat → Int} (h : Us w A n f) : Us w.drew A n f := h
theorem bset {n : Nat} {w V : World} {a : Addr} {v : Value} (h : Below n w V) (ha : n ≤ a.block) : Below n w (V.setCell a v) := h.setCell ha v
theorem tail_us {V : World} {G H n : Nat} {f : Nat → Int} (h : Us V (some ⟨G, 0, none⟩) n f) (h1 : H ≠ G) (h2 : H + 1 ≠ G) (v u0 u1 u2 u3 u4 u5 : Value) :
    Us (((((((V.setCell ⟨H, 5, none⟩ v).setCell ⟨H + 1, 0, none⟩ u0).setCell ⟨H + 1, 1, none⟩ u1).setCell ⟨H + 1, 2, none⟩ u2).setCell ⟨H + 1, 3, none⟩ u3).setCell ⟨H + 1, 4, none⟩ u4).setCell ⟨H + 1, 5, none⟩ u5) (some ⟨G, 0, none⟩) n f :=
  Us.out (Us.out (Us.out (Us.out (Us.out (Us.out (Us.out h h1) h2) h2) h2) h2) h2) h2
theorem tail_be {w V : World} {H n : Nat} (h : Below n w V) (h1 : n ≤ H) (v u0 u1 u2 u3 u4 u5 : Value) :
    Below n w (((((((V.setCell ⟨H, 5, none⟩ v).setCell ⟨H + 1, 0, none⟩ u0).setCell ⟨H + 1, 1, none⟩ u1).setCell ⟨H + 1, 2, none⟩ u2).setCell ⟨H + 1, 3, none⟩ u3).setCell ⟨H + 1, 4, none⟩ u4).setCell ⟨H + 1, 5, none⟩ u5) := by
  have h2 : n ≤ H + 1 := by omega
  exact bset (bset (bset (bset (bset (bset (bset h h1) h2) h2) h2) h2) h2) h2
theorem same_some {w : World} {a : Addr} {v : Value} (h : (w.cell? a).isSome = true) : (w.setCell a v).cell? a = some v := by
  obtain ⟨o, ho⟩ := Option.isSome_iff_exists.1 h
  exact World.cell?_setCell_same _ _ _ ho
theorem cell_drewN (w : World) (k : Nat) (a : Addr) : (w.drewN k).cell? a = w.cell? a := by simp only [World.cell?, heap_drewN]
theorem left_b (left : Int) : (left - 1 == 0) = decide (left = 1) := by rw [Bool.eq_iff_iff]; simp; omega
theorem rs_less0 {K : Nat} (hK : K = 0) (a left v : Int) (has : Bool) (S : Value) : Ending.returned (.tuple #[.agg #[.int .i64 K, .int .i64 a, .int .i64 (left - 1), .bool has, .int .u32 v, .bool (left - 1 == 0)], S]) = .returned (.tuple #[dV (Tk.less ⟨K, a, left, has, v, false⟩), S]) := by
  subst hK; rw [left_b]; rfl
theorem rs_less1 {K : Nat} (hK : K ≠ 0) (a left v : Int) (S : Value) : Ending.returned (.tuple #[.agg #[.int .i64 K, .int .i64 a, .int .i64 (left - 1), .bool false, .int .u32 v, .bool (left - 1 == 0)], S]) = .returned (.tuple #[dV (Tk.less ⟨K, a, left, true, v, false⟩), S]) := by
  have : (K == 0) = false := by simpa using hK
  rw [left_b]
  unfold dV Tk.less
  simp only [this, Bool.false_and]
theorem rs_load {K : Nat} {a left v x : Int} {S : Value} (h : 1 ≤ left) : Ending.returned (.tuple #[.agg #[.int .i64 K, .int .i64 a, .int .i64 left, .bool true, .int .u32 x, .bool (left == 0)], S]) = .returned (.tuple #[dV (Tk.load ⟨K, a, left, false, v, false⟩ x), S]) := by
  have : (left == 0) = false := by simp; omega
  rw [this]; rfl
theorem rs_miss {K : Nat} {a left v : Int} {S : Value} (h : 1 ≤ left) : Ending.returned (.tuple #[.agg #[.int .i64 K, .int .i64 a, .int .i64 left, .bool false, .int .u32 v, .bool (left == 0)], S]) = .returned (.tuple #[dV (Tk.miss ⟨K, a, left, true, v, false⟩), S]) := by
  have : (left == 0) = false := by simp; omega
  rw [this]; rfl
theorem puts0 {t : Tk} (h : t.kind = 0) {x : Int} : t.puts x = (x + 1) % 4294967296 := by unfold Tk.puts; rw [if_pos h]; rfl
theorem puts1 {t : Tk} (h : t.kind ≠ 0) {x : Int} : t.puts x = (t.v + 1) % 4294967296 := by unfold Tk.puts; rw [if_neg h]; rfl
set_option maxHeartbeats 8000000 in
set_option maxRecDepth 100000 in
theorem rstep_go (K i : Nat) (left v : Int) (has : Bool) (U : Option Addr) (cp : Nat) (f : Nat → Int) (w : World) (hU : Us w U 3 f) (hl : 1 ≤ left) (hl2 : left ≤ 1000) (hi : i < 3) :
    Calls Tryd.prog 27 #[dV ⟨K, i, left, has, v, false⟩, .slice U 3 cp] w fun e w' => RStepP ⟨K, i, left, has, v, false⟩ f U w e w' := by
  have HF := ws_facts w ⟨K, i, left, has, v, false⟩
  simp only [WS, Box6] at HF
  have HFH := Lib.hid HF
  have HUW := Lib.hid (hU.keep HF.2.2.2.2.2.2.2.2.2.1)
  have HOV : Hid (Tk.over 3 ⟨K, i, left, has, v, false⟩ = false) := Lib.hid (by
    unfold Tk.over
    rw [inM_of ⟨by show (0 : Int) ≤ (i : Int); omega, by show (i : Int) < 3; omega⟩]
    simp; omega)
  simp only [dV]
  have hi0 : (0 : Int) ≤ (i : Int) := by omega
  have hi1 : (i : Int) < 3 := by omega
  have hi2 : ¬ (i : Int) < 0 := by omega
  have hi3 : ¬ (3 : Int) ≤ (i : Int) := by omega
  have hl1 : ¬ left < 1 := by omega
  have HK : Hid (∃ z : Int, z = K) := Lib.hid ⟨_, rfl⟩
  clear hU HF
  go_enter Tryd.func27, Tryd.ntmps27
  go_wp2_with (at_builtin; refine wpList_append_words rfl _ _ rfl HUW.out (w.heap.size + 2) (by simp) (by rfl) (by rfl) ?_)
  intro G cap' w2 hG1 hG2 hUs hFz hB2
  have HUS := Lib.hid hUs
  have hx := hUs.cell hi
  rw [Nat.zero_add] at hx
  have hfx := hFz i
  obtain ⟨⟨c0, c1, c2, c3, c4, c5⟩, z0, z1, z2, z3, z4, z5, f0, f1, hB0, hs0⟩ := HFH.out
  have k0 := keptn c0 hB2 (by dsimp only; omega)
  have k1 := keptn c1 hB2 (by dsimp only; omega)
  have k2 := keptn c2 hB2 (by dsimp only; omega)
  have k3 := keptn c3 hB2 (by dsimp only; omega)
  have k4 := keptn c4 hB2 (by dsimp only; omega)
  have k5 := keptn c5 hB2 (by dsimp only; omega)
  have m0 := keptn z0 hB2 (by dsimp only; omega)
  have m1 := keptn z1 hB2 (by dsimp only; omega)
  have m2 := keptn z2 hB2 (by dsimp only; omega)
  have m3 := keptn z3 hB2 (by dsimp only; omega)
  have m4 := keptn z4 hB2 (by dsimp only; omega)
  have m5 := keptn z5 hB2 (by dsimp only; omega)
  have q2 : w2.frozen? ⟨w.heap.size, 2, none⟩ = false := by rw [hB2.frozen (p := ⟨w.heap.size, 2, none⟩) (by dsimp only; omega)]; exact f0 2
  have q3 : w2.frozen? ⟨w.heap.size, 3, none⟩ = false := by rw [hB2.frozen (p := ⟨w.heap.size, 3, none⟩) (by dsimp only; omega)]; exact f0 3
  have q4 : w2.frozen? ⟨w.heap.size, 4, none⟩ = false := by rw [hB2.frozen (p := ⟨w.heap.size, 4, none⟩) (by dsimp only; omega)]; exact f0 4
  have q5 : w2.frozen? ⟨w.heap.size, 5, none⟩ = false := by rw [hB2.frozen (p := ⟨w.heap.size, 5, none⟩) (by dsimp only; omega)]; exact f0 5
  have y0 : w2.frozen? ⟨w.heap.size + 1, 0, none⟩ = false := by rw [hB2.frozen (p := ⟨w.heap.size + 1, 0, none⟩) (by dsimp only; omega)]; exact f1 0
  have y1 : w2.frozen? ⟨w.heap.size + 1, 1, none⟩ = false := by rw [hB2.frozen (p := ⟨w.heap.size + 1, 1, none⟩) (by dsimp only; omega)]; exact f1 1
  have y2 : w2.frozen? ⟨w.heap.size + 1, 2, none⟩ = false := by rw [hB2.frozen (p := ⟨w.heap.size + 1, 2, none⟩) (by dsimp only; omega)]; exact f1 2
  have y3 : w2.frozen? ⟨w.heap.size + 1, 3, none⟩ = false := by rw [hB2.frozen (p := ⟨w.heap.size + 1, 3, none⟩) (by dsimp only; omega)]; exact f1 3
  have y4 : w2.frozen? ⟨w.heap.size + 1, 4, none⟩ = false := by rw [hB2.frozen (p := ⟨w.heap.size + 1, 4, none⟩) (by dsimp only; omega)]; exact f1 4
  have y5 : w2.frozen? ⟨w.heap.size + 1, 5, none⟩ = false := by rw [hB2.frozen (p := ⟨w.heap.size + 1, 5, none⟩) (by dsimp only; omega)]; exact f1 5
  have HBW := Lib.hid (hB0.trans (hB2.mono (by omega)))
  have hG0 : w.heap.size ≠ G := by omega
  have hG3 : G ≠ w.heap.size := by omega
  have hG4 : w.heap.size + 1 ≠ G := by omega
  have hG5 : G ≠ w.heap.size + 1 := by omega
  clear hUs hFz hB2 f0 f1 hB0 hs0 c0 c1 c2 c3 c4 c5 z0 z1 z2 z3 z4 z5
  obtain ⟨x, hxx⟩ : ∃ x, x = f i := ⟨_, rfl⟩
  rw [← hxx] at hx
  have HX := Lib.hid hxx
  clear hxx
  by_cases hK0 : (K : Int) = 0
  · have hK1 : ((K : Int) == 0) = true := by simpa using hK0
    have HH : Hid (∀ y, Tk.hot ⟨K, i, left, has, v, false⟩ y = true) := Lib.hid (fun y => by
      unfold Tk.hot
      show (K == 0 || _) = true
      rw [show (K == 0) = true by simp; omega]
      rfl)
    have HK0 := Lib.hid (show K = 0 by omega)
    clear hK0
    go_wp2_with fail
    refine bodyPost_ret (v := .tuple #[.agg #[.int .i64 K, .int .i64 i, .int .i64 (left - 1), .bool has, .int .u32 v, .bool (left - 1 == 0)], .slice (some ⟨G, 0, none⟩) 3 cap']) (by simp [results, Tryd.results27, go_sem, same_some, m0, m1, m2, m3, m4, m5]) rfl ⟨some ⟨G, 0, none⟩, cap', ?_, ?_, ?_, .inr ⟨G, rfl, by omega⟩⟩
    · show _ = Ending.returned (.tuple #[dV (Tk.next 3 _ (f i)), _])
      rw [← HX.out]
      rw [next_hot HOV.out (HH.out _)]
      exact rs_less0 HK0.out _ _ _ _ _
    · show Us _ _ 3 (upd f i (Tk.word 3 _ (f i)))
      rw [← HX.out]
      rw [word_hot HOV.out (HH.out _), puts0 HK0.out]
      exact tail_us (Us.out (a := ⟨w.heap.size, 2, none⟩) (HUS.out.set0 hi _) hG0) hG0 hG4 _ _ _ _ _ _ _
    · exact tail_be (bset (bset HBW.out (show w.heap.size ≤ G by omega)) (Nat.le_refl _)) (Nat.le_refl _) _ _ _ _ _ _ _
  · have hK1 : ((K : Int) == 0) = false := by simpa using hK0
    have HK0 := Lib.hid (show K ≠ 0 by omega)
    clear hK0
    cases has
    · have HH : Hid (∀ y, Tk.hot ⟨K, i, left, false, v, false⟩ y = false) := Lib.hid (fun y => by
        unfold Tk.hot
        have : (K == 0) = false := by simpa using HK0.out
        show (K == 0 || (false && _)) = false
        rw [this]; rfl)
      have hk1 : ∀ u, (w2.setCell ⟨w.heap.size, 3, none⟩ u).cell? ⟨w.heap.size, 1, none⟩ = some (.int .i64 i) := fun u => by rw [World.cell?_setCell_other _ _ _ _ (by simp)]; exact k1
      have hk2 : ∀ u, (w2.setCell ⟨w.heap.size, 4, none⟩ u).cell? ⟨w.heap.size, 1, none⟩ = some (.int .i64 i) := fun u => by rw [World.cell?_setCell_other _ _ _ _ (by simp)]; exact k1
      have hk3 : ∀ u u', ((w2.setCell ⟨w.heap.size, 3, none⟩ u).setCell ⟨w.heap.size, 4, none⟩ u').cell? ⟨w.heap.size, 1, none⟩ = some (.int .i64 i) := fun u u' => by rw [World.cell?_setCell_other _ _ _ _ (by simp), World.cell?_setCell_other _ _ _ _ (by simp)]; exact k1
      have hk4 : ∀ u u', ((w2.setCell ⟨w.heap.size, 4, none⟩ u).setCell ⟨w.heap.size, 3, none⟩ u').cell? ⟨w.heap.size, 1, none⟩ = some (.int .i64 i) := fun u u' => by rw [World.cell?_setCell_other _ _ _ _ (by simp), World.cell?_setCell_other _ _ _ _ (by simp)]; exact k1
      go_wp2_with fail
      go_region_held3 (fun w' => w'.cell? ⟨w.heap.size, 1, none⟩ = some (.int .i64 i) ∧ w'.cell? ⟨G, i, none⟩ = some (.int .u32 x)) (go_keep) (fail)
      all_goals
        go_wp2_with fail
        refine bodyPost_ret (v := .tuple #[.agg #[.int .i64 K, .int .i64 i, .int .i64 left, .bool true, .int .u32 x, .bool (left == 0)], .slice (some ⟨G, 0, none⟩) 3 cap']) (by simp [results, Tryd.results27, go_sem, same_some, m0, m1, m2, m3, m4, m5]) rfl ⟨some ⟨G, 0, none⟩, cap', ?_, ?_, ?_, .inr ⟨G, rfl, by omega⟩⟩
        · show _ = Ending.returned (.tuple #[dV (Tk.next 3 _ (f i)), _])
          rw [← HX.out]
          rw [next_load HOV.out (HH.out _) rfl]
          exact rs_load (by omega)
        · show Us _ _ 3 (upd f i (Tk.word 3 _ (f i)))
          rw [← HX.out]
          rw [word_not (HH.out _), HX.out]
          refine Us.congr ?_ (fun j _ => (upd_self f i j).symm)
          exact us_drew (tail_us (Us.out (a := ⟨w.heap.size, 4, none⟩) (Us.out (a := ⟨w.heap.size, 3, none⟩) HUS.out hG0) hG0) hG0 hG4 _ _ _ _ _ _ _)
        · exact (tail_be (bset (bset HBW.out (Nat.le_refl _)) (Nat.le_refl _)) (Nat.le_refl _) _ _ _ _ _ _ _).drew
    · by_cases hK1' : (K : Int) = 1
      · have hK2 : ((K : Int) == 1) = true := by simpa using hK1'
        have HH : Hid (∀ y, Tk.hot ⟨K, i, left, true, v, false⟩ y = true) := Lib.hid (fun y => by
          unfold Tk.hot
          show (K == 0 || (true && (K == 1 || _))) = true
          rw [show (K == 1) = true by simp; omega]
          simp)
        clear hK1'
        go_wp2_with fail
        go_quiet (fail)
        go_wp2_with fail
        refine bodyPost_ret (v := .tuple #[.agg #[.int .i64 K, .int .i64 i, .int .i64 (left - 1), .bool false, .int .u32 v, .bool (left - 1 == 0)], .slice (some ⟨G, 0, none⟩) 3 cap']) (by simp [results, Tryd.results27, go_sem, same_some, m0, m1, m2, m3, m4, m5]) rfl ⟨some ⟨G, 0, none⟩, cap', ?_, ?_, ?_, .inr ⟨G, rfl, by omega⟩⟩
        · show _ = Ending.returned (.tuple #[dV (Tk.next 3 _ (f i)), _])
          rw [← HX.out]
          rw [next_hot HOV.out (HH.out _)]
          exact rs_less1 HK0.out _ _ _ _
        · show Us _ _ 3 (upd f i (Tk.word 3 _ (f i)))
          rw [← HX.out]
          rw [word_hot HOV.out (HH.out _), puts1 HK0.out]
          exact tail_us (Us.out (a := ⟨w.heap.size, 2, none⟩) (Us.set0 (us_drewN (Us.out (a := ⟨w.heap.size, 3, none⟩) HUS.out hG0)) hi _) hG0) hG0 hG4 _ _ _ _ _ _ _
        · exact tail_be (bset (bset (below_drewN (bset HBW.out (Nat.le_refl _)) _) (show w.heap.size ≤ G by omega)) (Nat.le_refl _)) (Nat.le_refl _) _ _ _ _ _ _ _
      · have hK2 : ((K : Int) == 1) = false := by simpa using hK1'
        have HK1 := Lib.hid (show K ≠ 1 by omega)
        clear hK1'
        by_cases hxv : x = v
        · have hxv2 : (x == v) = true := by simpa using hxv
          have HH : Hid (Tk.hot ⟨K, i, left, true, v, false⟩ x = true) := Lib.hid (by
            unfold Tk.hot
            show (K == 0 || (true && (K == 1 || x == v))) = true
            rw [hxv2]; simp)
          clear hxv
          go_wp2_with fail
          go_quiet (fail)
          go_wp2_with fail
          refine bodyPost_ret (v := .tuple #[.agg #[.int .i64 K, .int .i64 i, .int .i64 (left - 1), .bool false, .int .u32 v, .bool (left - 1 == 0)], .slice (some ⟨G, 0, none⟩) 3 cap']) (by simp [results, Tryd.results27, go_sem, same_some, m0, m1, m2, m3, m4, m5]) rfl ⟨some ⟨G, 0, none⟩, cap', ?_, ?_, ?_, .inr ⟨G, rfl, by omega⟩⟩
          · show _ = Ending.returned (.tuple #[dV (Tk.next 3 _ (f i)), _])
            rw [← HX.out]
            rw [next_hot HOV.out HH.out]
            exact rs_less1 HK0.out _ _ _ _
          · show Us _ _ 3 (upd f i (Tk.word 3 _ (f i)))
            rw [← HX.out]
            rw [word_hot HOV.out HH.out, puts1 HK0.out]
            exact tail_us (Us.out (a := ⟨w.heap.size, 2, none⟩) (Us.set0 (us_drewN (Us.out (a := ⟨w.heap.size, 3, none⟩) HUS.out hG0)) hi _) hG0) hG0 hG4 _ _ _ _ _ _ _
          · exact tail_be (bset (bset (below_drewN (bset HBW.out (Nat.le_refl _)) _) (show w.heap.size ≤ G by omega)) (Nat.le_refl _)) (Nat.le_refl _) _ _ _ _ _ _ _
        · have hxv2 : (x == v) = false := by simpa using hxv
          have HH : Hid (Tk.hot ⟨K, i, left, true, v, false⟩ x = false) := Lib.hid (by
            unfold Tk.hot
            show (K == 0 || (true && (K == 1 || x == v))) = false
            rw [hxv2, show (K == 0) = false by simpa using HK0.out, show (K == 1) = false by simpa using HK1.out]; rfl)
          clear hxv
          go_wp2_with fail
          go_quiet (fail)
          go_wp2_with fail
          refine bodyPost_ret (v := .tuple #[.agg #[.int .i64 K, .int .i64 i, .int .i64 left, .bool false, .int .u32 v, .bool (left == 0)], .slice (some ⟨G, 0, none⟩) 3 cap']) (by simp [results, Tryd.results27, go_sem, same_some, m0, m1, m2, m3, m4, m5]) rfl ⟨some ⟨G, 0, none⟩, cap', ?_, ?_, ?_, .inr ⟨G, rfl, by omega⟩⟩
          · show _ = Ending.returned (.tuple #[dV (Tk.next 3 _ (f i)), _])
            rw [← HX.out]
            rw [next_miss HOV.out HH.out rfl]
            exact rs_miss (by omega)
          · show Us _ _ 3 (upd f i (Tk.word 3 _ (f i)))
            rw [← HX.out]
            rw [word_not HH.out, HX.out]
            refine Us.congr ?_ (fun j _ => (upd_self f i j).symm)
            exact tail_us (us_drewN (Us.out (a := ⟨w.heap.size, 3, none⟩) HUS.out hG0)) hG0 hG4 _ _ _ _ _ _ _
          · exact tail_be (below_drewN (bset HBW.out (Nat.le_refl _)) _) (Nat.le_refl _) _ _ _ _ _ _ _
end Go.Proofs.YtdhanenbcjmfkaaDoor
