/-
  The document's answer: a step of a waiter.
-/
import Derived.Test.YtcjhbmkpfclmfaaDoorGood
import Derived.Deep.QuietTactic
import Derived.BigQuiet
import Derived.Deep.DeepCutAuto
namespace Go.Proofs.YtcjhbmkpfclmfaaDoor
open Go.RowKit

/-- A waiter of the document's. -/
structure RT where
  a : Int
  n : Int
  r : Int
  next : Int
  cm : Int
  ps : Int
  done : Bool
/-- In cells. -/
def rC (r : RT) : List Value := [.int .i64 r.a, .int .i64 r.n, .int .i64 r.r, .int .i64 r.next, .int .i64 r.cm, .int .i64 r.ps, .bool r.done]
def rV (r : RT) : Value := .agg #[.int .i64 r.a, .int .i64 r.n, .int .i64 r.r, .int .i64 r.next, .int .i64 r.cm, .int .i64 r.ps, .bool r.done]
/-- From address A on lie the words f. -/
def Us (w : World) (A : Option Addr) (n : Nat) (f : Nat → Int) : Prop := ∀ i, i < n → ∃ b o, A = some ⟨b, o, none⟩ ∧ w.cell? ⟨b, o + i, none⟩ = some (.int .u32 (f i))
theorem Us.keep {w w' : World} {A : Option Addr} {n : Nat} {f : Nat → Int} (h : Us w A n f) (hb : Below w.heap.size w w') : Us w' A n f := fun i hi => by
  obtain ⟨b, o, e, hc⟩ := h i hi
  exact ⟨b, o, e, kept hc hb⟩
theorem Us.cell {w : World} {b o n : Nat} {f : Nat → Int} (h : Us w (some ⟨b, o, none⟩) n f) {i : Nat} (hi : i < n) : w.cell? ⟨b, o + i, none⟩ = some (.int .u32 (f i)) := by
  obtain ⟨b', o', e, hc⟩ := h i hi
  injection e with e
  injection e with e1 e2
  subst e1 e2
  exact hc
theorem Us.head {w : World} {A : Option Addr} {n : Nat} {f : Nat → Int} (h : Us w A n f) {i : Nat} (hi : i < n) : ∃ b o, A = some ⟨b, o, none⟩ := by
  obtain ⟨b, o, e, _⟩ := h i hi
  exact ⟨b, o, e⟩
theorem Us.of_row {w : World} {b n : Nat} {f : Nat → Int} (h : OwnU w b n f) : Us w (some ⟨b, 0, none⟩) n f := fun i hi => ⟨b, 0, rfl, by rw [Nat.zero_add]; exact h.cell hi⟩
theorem Us.congr {w : World} {A : Option Addr} {n : Nat} {f g : Nat → Int} (h : Us w A n f) (e : ∀ i, i < n → f i = g i) : Us w A n g := fun i hi => by
  obtain ⟨b, o, e1, hc⟩ := h i hi
  exact ⟨b, o, e1, by rw [← e i hi]; exact hc⟩
theorem us_drewN {w : World} {A : Option Addr} {n : Nat} {f : Nat → Int} {m : Nat} (h : Us w A n f) : Us (w.drewN m) A n f := h.keep (below_drewN (Below.refl _ _) m)
theorem us_drew {w : World} {A : Option Addr} {n : Nat} {f : Nat → Int} (h : Us w A n f) : Us w.drew A n f := h
theorem Us.set {w : World} {b o n : Nat} {f : Nat → Int} (h : Us w (some ⟨b, o, none⟩) n f) {i : Nat} (hi : i < n) (v : Int) : Us (w.setCell ⟨b, o + i, none⟩ (.int .u32 v)) (some ⟨b, o, none⟩) n (upd f i v) := fun j hj => by
  refine ⟨b, o, rfl, ?_⟩
  unfold upd
  by_cases e : j = i
  · subst e
    rw [if_pos rfl]
    exact World.cell?_setCell_same _ _ _ (h.cell hj)
  · rw [if_neg e, World.cell?_setCell_other _ _ _ _ (by simp only [ne_eq, Addr.mk.injEq, not_and]; omega)]
    exact h.cell hj
theorem Us.set0 {w : World} {b n : Nat} {f : Nat → Int} (h : Us w (some ⟨b, 0, none⟩) n f) {i : Nat} (hi : i < n) (v : Int) : Us (w.setCell ⟨b, i, none⟩ (.int .u32 v)) (some ⟨b, 0, none⟩) n (upd f i v) := by
  have := h.set hi v
  rwa [Nat.zero_add] at this
theorem Us.out {w : World} {b n : Nat} {f : Nat → Int} {a : Addr} {v : Value} (h : Us w (some ⟨b, 0, none⟩) n f) (ha : a.block ≠ b) : Us (w.setCell a v) (some ⟨b, 0, none⟩) n f := fun j hj => by
  refine ⟨b, 0, rfl, ?_⟩
  rw [World.cell?_setCell_other _ _ _ _ (by intro e; apply ha; rw [e])]
  exact h.cell hj
theorem bset {n : Nat} {w V : World} {a : Addr} {v : Value} (h : Below n w V) (ha : n ≤ a.block) : Below n w (V.setCell a v) := h.setCell ha v
theorem keptn {n : Nat} {w w' : World} {a : Addr} {v : Value} (hc : w.cell? a = some v) (h : Below n w w') (hl : a.block < n) : w'.cell? a = some v := by rw [h.cell (p := a) hl]; exact hc
theorem same_some {w : World} {a : Addr} {v : Value} (h : (w.cell? a).isSome = true) : (w.setCell a v).cell? a = some v := by
  obtain ⟨o, ho⟩ := Option.isSome_iff_exists.1 h
  exact World.cell?_setCell_same _ _ _ ho
/-- The old address, or one that lies behind all. -/
def Anew (U : Option Addr) (H : Nat) (U' : Option Addr) : Prop := U' = U ∨ ∃ G, U' = some ⟨G, 0, none⟩ ∧ H ≤ G
/-- What Step leaves. -/
def RGo (r' : RT) (f' : Nat → Int) (U : Option Addr) (w : World) (e : Ending) (w' : World) : Prop := ∃ U' d, e = .returned (.tuple #[rV r', .slice U' 4 d]) ∧ Us w' U' 4 f' ∧ Below w.heap.size w w' ∧ Anew U w.heap.size U'
/-- Seven cells of a block. -/
def Box7 (w : World) (b : Nat) (r : RT) : Prop := w.cell? ⟨b, 0, none⟩ = some (.int .i64 r.a) ∧ w.cell? ⟨b, 1, none⟩ = some (.int .i64 r.n) ∧ w.cell? ⟨b, 2, none⟩ = some (.int .i64 r.r) ∧ w.cell? ⟨b, 3, none⟩ = some (.int .i64 r.next) ∧ w.cell? ⟨b, 4, none⟩ = some (.int .i64 r.cm) ∧ w.cell? ⟨b, 5, none⟩ = some (.int .i64 r.ps) ∧ w.cell? ⟨b, 6, none⟩ = some (.bool r.done)
def rZ : RT := ⟨0, 0, 0, 0, 0, 0, false⟩
/-- The world in which Step works: its taker, its result. -/
noncomputable def WS (w : World) (r : RT) : World := (w.alloc (.cells #[.int .i64 r.a, .int .i64 r.n, .int .i64 r.r, .int .i64 r.next, .int .i64 r.cm, .int .i64 r.ps, .bool r.done] 41)).alloc (.cells #[.int .i64 0, .int .i64 0, .int .i64 0, .int .i64 0, .int .i64 0, .int .i64 0, .bool false] 41)
theorem ws_facts (w : World) (r : RT) : Box7 (WS w r) w.heap.size r ∧ Box7 (WS w r) (w.heap.size + 1) rZ ∧ (∀ j, (WS w r).frozen? ⟨w.heap.size, j, none⟩ = false) ∧ (∀ j, (WS w r).frozen? ⟨w.heap.size + 1, j, none⟩ = false) ∧ Below w.heap.size w (WS w r) ∧ (WS w r).heap.size = w.heap.size + 2 := by
  refine ⟨⟨al_cell (al_new _ _ _ 0 _ rfl rfl), al_cell (al_new _ _ _ 1 _ rfl rfl), al_cell (al_new _ _ _ 2 _ rfl rfl), al_cell (al_new _ _ _ 3 _ rfl rfl), al_cell (al_new _ _ _ 4 _ rfl rfl), al_cell (al_new _ _ _ 5 _ rfl rfl), al_cell (al_new _ _ _ 6 _ rfl rfl)⟩, ⟨al_new _ _ _ 0 _ (by simp) rfl, al_new _ _ _ 1 _ (by simp) rfl, al_new _ _ _ 2 _ (by simp) rfl, al_new _ _ _ 3 _ (by simp) rfl, al_new _ _ _ 4 _ (by simp) rfl, al_new _ _ _ 5 _ (by simp) rfl, al_new _ _ _ 6 _ (by simp) rfl⟩, fun j => ?_, fun j => ?_, ?_, ?_⟩
  · unfold WS; rw [frozen_old _ _ _ (by simp)]; exact frozen_at _ _ _ j _ rfl
  · exact frozen_at _ _ _ j _ (by simp)
  · exact ((Below.refl _ _).alloc (Nat.le_refl _) _).alloc (by simp) _
  · simp [WS]
/-- The words in a row of their own, behind the copy. -/
theorem words_own {w : World} {base : Nat} {v : Value} {f : Nat → Int} (h : w.ownsRow base 23 1 v 4 ((List.range 4).map fun i => .int .u32 (f i))) : ∃ G cap, v = .slice (some ⟨G, 0, none⟩) 4 cap ∧ base ≤ G ∧ G < w.heap.size ∧ Us w (some ⟨G, 0, none⟩) 4 f ∧ ∀ j, w.frozen? ⟨G, j, none⟩ = false := by
  rcases h.2 with ⟨_, h0⟩ | ⟨g, cap, cur, rfl, hg, hr, _, _, _, _⟩
  · omega
  · have hc : ∀ i, i < 4 → w.cell? ⟨g, 0 + i, none⟩ = some (.int .u32 (f i)) := fun i hi => by
      rw [Nat.zero_add, World.ownsRow.cellAt h i (by omega), List.getElem?_map, List.getElem?_range hi]
      rfl
    exact ⟨g, cap, rfl, hg, by have := cell_lt (hc 0 (by omega)); exact this, fun i hi => ⟨g, 0, rfl, hc i hi⟩, fun j => World.ownsRow.frozenAt h j⟩
theorem info23' : (Tryd.prog.info? 23).map (fun i => (i.zero, i.size, i.bytes)) = some (some (.int .u32 0), 1, 4) := by kernel_rfl
/-- The append of the words to an empty list. -/
theorem wpList_append_words {ops : Array Oper} {rest : List Oper} {o : Oper} {a : Act} {Q : Exit → Act → World → Prop} (hgd : o.guard = none) (s x : Operand)
    (ho : o.op = .call { callee := .builtin .append, args := #[s, x], argTypes := #[32, 32] }) {w : World} {cp : Nat} {U : Option Addr} {f : Nat → Int} (hU : Us w U 4 f) (H : Nat) (hH : w.heap.size = H)
    (hs : a.eval s = .slice (some ⟨H, 0, none⟩) 0 0) (hx : a.eval x = .slice U 4 cp)
    (hQ : ∀ G cap' w2, H ≤ G → G < w2.heap.size → Us w2 (some ⟨G, 0, none⟩) 4 f → (∀ j, w2.frozen? ⟨G, j, none⟩ = false) → Below w.heap.size w w2 → wpList Tryd.prog ops Q rest (a.put o.dst (.slice (some ⟨G, 0, none⟩) 4 cap')) w2) :
    wpList Tryd.prog ops Q (o :: rest) a (w.alloc (.cells #[] 23)) := by
  subst hH
  obtain ⟨i0, hi, hz0, hz1, hz2⟩ := info_parts info23'
  have hA : Below w.heap.size w (w.alloc (.cells #[] 23)) := (Below.refl _ _).alloc (Nat.le_refl _) _
  have hown : (w.alloc (.cells #[] 23)).ownsRow w.heap.size 23 1 (.slice (some ⟨w.heap.size, 0, none⟩) 0 0) 0 [] := World.ownsRow_lit w #[] 0 (Nat.le_refl _) (by decide) rfl
  obtain ⟨b, o', rfl⟩ := hU.head (i := 0) (by omega)
  refine wpList_append_own _ hgd s x 32 ho w.heap.size 23 i0 (.int .u32 0) 1 4 Tryd.underlying32 hi hz0 hz1 hz2 rfl (by decide) _ 0 [] hs hown ⟨b, o', none⟩ 4 cp ((List.range 4).map fun i => .int .u32 (f i)) hx (by simp) ?_ ?_ (by unfold maxLen; omega) (by omega) (by simp) ?_
  · intro j u hu
    have hj : j < 4 := by have := (List.getElem?_eq_some_iff.1 hu).1; simpa using this
    rw [List.getElem?_map, List.getElem?_range hj] at hu
    injection hu with hu
    subst hu
    rw [add_off]
    exact kept (hU.cell hj) hA
  · intro u hu
    obtain ⟨i, _, rfl⟩ := List.mem_map.1 hu
    rfl
  · intro v' w' hown' hgrow _
    have hO : w'.ownsRow w.heap.size 23 1 v' 4 ((List.range 4).map fun i => .int .u32 (f i)) := by simpa using hown'
    obtain ⟨G, cap', rfl, h1, h2, h3, h4⟩ := words_own hO
    exact hQ G cap' w' h1 h2 h3 h4 (hA.grown hgrow (by simp) (fun k hk => (World.ownsRow.lt hown k hk).1))
theorem tail_us {V : World} {G H n : Nat} {f : Nat → Int} (h : Us V (some ⟨G, 0, none⟩) n f) (h2 : H ≠ G) (u0 u1 u2 u3 u4 u5 u6 : Value) :
    Us (((((((V.setCell ⟨H, 0, none⟩ u0).setCell ⟨H, 1, none⟩ u1).setCell ⟨H, 2, none⟩ u2).setCell ⟨H, 3, none⟩ u3).setCell ⟨H, 4, none⟩ u4).setCell ⟨H, 5, none⟩ u5).setCell ⟨H, 6, none⟩ u6) (some ⟨G, 0, none⟩) n f :=
  Us.out (Us.out (Us.out (Us.out (Us.out (Us.out (Us.out h h2) h2) h2) h2) h2) h2) h2
theorem tail_be {w V : World} {H n : Nat} (h : Below n w V) (h2 : n ≤ H) (u0 u1 u2 u3 u4 u5 u6 : Value) :
    Below n w (((((((V.setCell ⟨H, 0, none⟩ u0).setCell ⟨H, 1, none⟩ u1).setCell ⟨H, 2, none⟩ u2).setCell ⟨H, 3, none⟩ u3).setCell ⟨H, 4, none⟩ u4).setCell ⟨H, 5, none⟩ u5).setCell ⟨H, 6, none⟩ u6) :=
  bset (bset (bset (bset (bset (bset (bset h h2) h2) h2) h2) h2) h2) h2

/-- The waiter and the result, that can be written. -/
structure F2 (W : World) (H : Nat) (r : RT) : Prop where
  b : Box7 W H r
  z : Box7 W (H + 1) rZ
  fb : ∀ j, W.frozen? ⟨H, j, none⟩ = false
  fz : ∀ j, W.frozen? ⟨H + 1, j, none⟩ = false
theorem box_out {W : World} {H : Nat} {r : RT} (h : Box7 W H r) {a : Addr} (h1 : a.block ≠ H) (v : Value) : Box7 (W.setCell a v) H r := by
  have key : ∀ (j : Nat) (u : Value), W.cell? ⟨H, j, none⟩ = some u → (W.setCell a v).cell? ⟨H, j, none⟩ = some u := fun j u hc => by
    rw [World.cell?_setCell_other _ _ _ _ (by intro e; first | exact h1 (by rw [e]) | exact h1 (by rw [← e]))]; exact hc
  exact ⟨key _ _ h.1, key _ _ h.2.1, key _ _ h.2.2.1, key _ _ h.2.2.2.1, key _ _ h.2.2.2.2.1, key _ _ h.2.2.2.2.2.1, key _ _ h.2.2.2.2.2.2⟩
theorem F2.out {W : World} {H : Nat} {r : RT} (h : F2 W H r) {a : Addr} (h1 : a.block ≠ H) (h2 : a.block ≠ H + 1) (v : Value) : F2 (W.setCell a v) H r :=
  ⟨box_out h.b h1 v, box_out h.z h2 v, fun j => by rw [World.frozen?_setCell]; exact h.fb j, fun j => by rw [World.frozen?_setCell]; exact h.fz j⟩
theorem F2.set3 {W : World} {H : Nat} {r : RT} (h : F2 W H r) (x : Int) : F2 (W.setCell ⟨H, 3, none⟩ (.int .i64 x)) H { r with next := x } := by
  have key : ∀ (j : Nat) (u : Value), j ≠ 3 → W.cell? ⟨H, j, none⟩ = some u → (W.setCell ⟨H, 3, none⟩ (.int .i64 x)).cell? ⟨H, j, none⟩ = some u := fun j u hj hc => by
    rw [World.cell?_setCell_other _ _ _ _ (by simp only [ne_eq, Addr.mk.injEq, not_and]; omega)]; exact hc
  exact ⟨⟨key _ _ (by omega) h.b.1, key _ _ (by omega) h.b.2.1, key _ _ (by omega) h.b.2.2.1, World.cell?_setCell_same _ _ _ h.b.2.2.2.1, key _ _ (by omega) h.b.2.2.2.2.1, key _ _ (by omega) h.b.2.2.2.2.2.1, key _ _ (by omega) h.b.2.2.2.2.2.2⟩,
    box_out h.z (by show H ≠ H + 1; omega) _, fun j => by rw [World.frozen?_setCell]; exact h.fb j, fun j => by rw [World.frozen?_setCell]; exact h.fz j⟩
theorem F2.set4 {W : World} {H : Nat} {r : RT} (h : F2 W H r) (x : Int) : F2 (W.setCell ⟨H, 4, none⟩ (.int .i64 x)) H { r with cm := x } := by
  have key : ∀ (j : Nat) (u : Value), j ≠ 4 → W.cell? ⟨H, j, none⟩ = some u → (W.setCell ⟨H, 4, none⟩ (.int .i64 x)).cell? ⟨H, j, none⟩ = some u := fun j u hj hc => by
    rw [World.cell?_setCell_other _ _ _ _ (by simp only [ne_eq, Addr.mk.injEq, not_and]; omega)]; exact hc
  exact ⟨⟨key _ _ (by omega) h.b.1, key _ _ (by omega) h.b.2.1, key _ _ (by omega) h.b.2.2.1, key _ _ (by omega) h.b.2.2.2.1, World.cell?_setCell_same _ _ _ h.b.2.2.2.2.1, key _ _ (by omega) h.b.2.2.2.2.2.1, key _ _ (by omega) h.b.2.2.2.2.2.2⟩,
    box_out h.z (by show H ≠ H + 1; omega) _, fun j => by rw [World.frozen?_setCell]; exact h.fb j, fun j => by rw [World.frozen?_setCell]; exact h.fz j⟩
/-- All rounds are passed, or the word is missing. -/
def rEnd (r : RT) : RT := { r with done := true }

set_option maxHeartbeats 4000000 in
set_option maxRecDepth 100000 in
theorem rstep_zero (a n r cm ps : Int) (done : Bool) (U : Option Addr) (cp : Nat) (f : Nat → Int) (w : World) (hU : Us w U 4 f) (hl : ps = r) :
    Calls Tryd.prog 12 #[rV ⟨a, n, r, 1, cm, ps, done⟩, .slice U 4 cp] w fun e w' => RGo (rEnd ⟨a, n, r, 1, cm, ps, done⟩) f U w e w' := by
  have HU := Lib.hid hU
  subst hl
  simp only [rV]
  clear hU
  go_enter Tryd.func12, Tryd.ntmps12
  go_wp2_with fail
  refine bodyPost_ret (v := .tuple #[.agg #[.int .i64 (a), .int .i64 (n), .int .i64 (ps), .int .i64 1, .int .i64 (cm), .int .i64 (ps), .bool true], .slice U 4 cp]) (by simp [results, Tryd.results12, go_sem]) rfl ⟨U, cp, rfl, ?_, ?_, .inl rfl⟩
  · exact HU.out.keep (((Below.refl _ _).alloc (Nat.le_refl _) _).alloc (by simp) _)
  · exact ((Below.refl _ _).alloc (Nat.le_refl _) _).alloc (by simp) _

set_option maxHeartbeats 4000000 in
set_option maxRecDepth 100000 in
theorem rstep_miss1a (a n r cm ps : Int) (done : Bool) (U : Option Addr) (cp : Nat) (f : Nat → Int) (w : World) (hU : Us w U 4 f) (hl : ¬ ps = r) (ha : -1000 ≤ a ∧ a ≤ 1000) (hi : a < 0) :
    Calls Tryd.prog 12 #[rV ⟨a, n, r, 1, cm, ps, done⟩, .slice U 4 cp] w fun e w' => RGo (rEnd ⟨a, n, r, 1, cm, ps, done⟩) f U w e w' := by
  have HU := Lib.hid hU
  obtain ⟨ha1, ha2⟩ := ha
  simp only [rV]
  clear hU
  go_enter Tryd.func12, Tryd.ntmps12
  go_wp2_with fail
  refine bodyPost_ret (v := .tuple #[.agg #[.int .i64 (a), .int .i64 (n), .int .i64 (r), .int .i64 1, .int .i64 (cm), .int .i64 (ps), .bool true], .slice U 4 cp]) (by simp [results, Tryd.results12, go_sem]) rfl ⟨U, cp, rfl, ?_, ?_, .inl rfl⟩
  · exact HU.out.keep (((Below.refl _ _).alloc (Nat.le_refl _) _).alloc (by simp) _)
  · exact ((Below.refl _ _).alloc (Nat.le_refl _) _).alloc (by simp) _

set_option maxHeartbeats 4000000 in
set_option maxRecDepth 100000 in
theorem rstep_miss1b (a n r cm ps : Int) (done : Bool) (U : Option Addr) (cp : Nat) (f : Nat → Int) (w : World) (hU : Us w U 4 f) (hl : ¬ ps = r) (ha : -1000 ≤ a ∧ a ≤ 1000) (hi : (0 ≤ a ∧ 4 ≤ a)) :
    Calls Tryd.prog 12 #[rV ⟨a, n, r, 1, cm, ps, done⟩, .slice U 4 cp] w fun e w' => RGo (rEnd ⟨a, n, r, 1, cm, ps, done⟩) f U w e w' := by
  have HU := Lib.hid hU
  obtain ⟨ha1, ha2⟩ := ha
  obtain ⟨hi0, hi⟩ := hi
  simp only [rV]
  clear hU
  go_enter Tryd.func12, Tryd.ntmps12
  go_wp2_with fail
  refine bodyPost_ret (v := .tuple #[.agg #[.int .i64 (a), .int .i64 (n), .int .i64 (r), .int .i64 1, .int .i64 (cm), .int .i64 (ps), .bool true], .slice U 4 cp]) (by simp [results, Tryd.results12, go_sem]) rfl ⟨U, cp, rfl, ?_, ?_, .inl rfl⟩
  · exact HU.out.keep (((Below.refl _ _).alloc (Nat.le_refl _) _).alloc (by simp) _)
  · exact ((Below.refl _ _).alloc (Nat.le_refl _) _).alloc (by simp) _

set_option maxHeartbeats 4000000 in
set_option maxRecDepth 100000 in
theorem rstep_miss2a (a n r cm ps : Int) (done : Bool) (U : Option Addr) (cp : Nat) (f : Nat → Int) (w : World) (hU : Us w U 4 f) (hl : ¬ ps = r) (ha : -1000 ≤ a ∧ a ≤ 1000) (hi : a < 0) :
    Calls Tryd.prog 12 #[rV ⟨a, n, r, 2, cm, ps, done⟩, .slice U 4 cp] w fun e w' => RGo (rEnd ⟨a, n, r, 2, cm, ps, done⟩) f U w e w' := by
  have HU := Lib.hid hU
  obtain ⟨ha1, ha2⟩ := ha
  simp only [rV]
  clear hU
  go_enter Tryd.func12, Tryd.ntmps12
  go_wp2_with fail
  refine bodyPost_ret (v := .tuple #[.agg #[.int .i64 (a), .int .i64 (n), .int .i64 (r), .int .i64 2, .int .i64 (cm), .int .i64 (ps), .bool true], .slice U 4 cp]) (by simp [results, Tryd.results12, go_sem]) rfl ⟨U, cp, rfl, ?_, ?_, .inl rfl⟩
  · exact HU.out.keep (((Below.refl _ _).alloc (Nat.le_refl _) _).alloc (by simp) _)
  · exact ((Below.refl _ _).alloc (Nat.le_refl _) _).alloc (by simp) _

set_option maxHeartbeats 4000000 in
set_option maxRecDepth 100000 in
theorem rstep_miss2b (a n r cm ps : Int) (done : Bool) (U : Option Addr) (cp : Nat) (f : Nat → Int) (w : World) (hU : Us w U 4 f) (hl : ¬ ps = r) (ha : -1000 ≤ a ∧ a ≤ 1000) (hi : (0 ≤ a ∧ 4 ≤ a)) :
    Calls Tryd.prog 12 #[rV ⟨a, n, r, 2, cm, ps, done⟩, .slice U 4 cp] w fun e w' => RGo (rEnd ⟨a, n, r, 2, cm, ps, done⟩) f U w e w' := by
  have HU := Lib.hid hU
  obtain ⟨ha1, ha2⟩ := ha
  obtain ⟨hi0, hi⟩ := hi
  simp only [rV]
  clear hU
  go_enter Tryd.func12, Tryd.ntmps12
  go_wp2_with fail
  refine bodyPost_ret (v := .tuple #[.agg #[.int .i64 (a), .int .i64 (n), .int .i64 (r), .int .i64 2, .int .i64 (cm), .int .i64 (ps), .bool true], .slice U 4 cp]) (by simp [results, Tryd.results12, go_sem]) rfl ⟨U, cp, rfl, ?_, ?_, .inl rfl⟩
  · exact HU.out.keep (((Below.refl _ _).alloc (Nat.le_refl _) _).alloc (by simp) _)
  · exact ((Below.refl _ _).alloc (Nat.le_refl _) _).alloc (by simp) _

set_option maxHeartbeats 4000000 in
set_option maxRecDepth 100000 in
theorem rstep_miss3a (a n r cm ps : Int) (done : Bool) (U : Option Addr) (cp : Nat) (f : Nat → Int) (w : World) (hU : Us w U 4 f) (hl : ¬ ps = r) (ha : -1000 ≤ a ∧ a ≤ 1000) (hi : (a + 1) < 0) :
    Calls Tryd.prog 12 #[rV ⟨a, n, r, 3, cm, ps, done⟩, .slice U 4 cp] w fun e w' => RGo (rEnd ⟨a, n, r, 3, cm, ps, done⟩) f U w e w' := by
  have HU := Lib.hid hU
  obtain ⟨ha1, ha2⟩ := ha
  simp only [rV]
  clear hU
  go_enter Tryd.func12, Tryd.ntmps12
  go_wp2_with fail
  refine bodyPost_ret (v := .tuple #[.agg #[.int .i64 (a), .int .i64 (n), .int .i64 (r), .int .i64 3, .int .i64 (cm), .int .i64 (ps), .bool true], .slice U 4 cp]) (by simp [results, Tryd.results12, go_sem]) rfl ⟨U, cp, rfl, ?_, ?_, .inl rfl⟩
  · exact HU.out.keep (((Below.refl _ _).alloc (Nat.le_refl _) _).alloc (by simp) _)
  · exact ((Below.refl _ _).alloc (Nat.le_refl _) _).alloc (by simp) _

set_option maxHeartbeats 4000000 in
set_option maxRecDepth 100000 in
theorem rstep_miss3b (a n r cm ps : Int) (done : Bool) (U : Option Addr) (cp : Nat) (f : Nat → Int) (w : World) (hU : Us w U 4 f) (hl : ¬ ps = r) (ha : -1000 ≤ a ∧ a ≤ 1000) (hi : (0 ≤ (a + 1) ∧ 4 ≤ (a + 1))) :
    Calls Tryd.prog 12 #[rV ⟨a, n, r, 3, cm, ps, done⟩, .slice U 4 cp] w fun e w' => RGo (rEnd ⟨a, n, r, 3, cm, ps, done⟩) f U w e w' := by
  have HU := Lib.hid hU
  obtain ⟨ha1, ha2⟩ := ha
  obtain ⟨hi0, hi⟩ := hi
  simp only [rV]
  clear hU
  go_enter Tryd.func12, Tryd.ntmps12
  go_wp2_with fail
  refine bodyPost_ret (v := .tuple #[.agg #[.int .i64 (a), .int .i64 (n), .int .i64 (r), .int .i64 3, .int .i64 (cm), .int .i64 (ps), .bool true], .slice U 4 cp]) (by simp [results, Tryd.results12, go_sem]) rfl ⟨U, cp, rfl, ?_, ?_, .inl rfl⟩
  · exact HU.out.keep (((Below.refl _ _).alloc (Nat.le_refl _) _).alloc (by simp) _)
  · exact ((Below.refl _ _).alloc (Nat.le_refl _) _).alloc (by simp) _

set_option maxHeartbeats 4000000 in
set_option maxRecDepth 100000 in
theorem rstep_miss4a (a n r cm ps : Int) (done : Bool) (U : Option Addr) (cp : Nat) (f : Nat → Int) (w : World) (hU : Us w U 4 f) (hl : ¬ ps = r) (ha : -1000 ≤ a ∧ a ≤ 1000) (hi : (a + 1) < 0) :
    Calls Tryd.prog 12 #[rV ⟨a, n, r, 4, cm, ps, done⟩, .slice U 4 cp] w fun e w' => RGo (rEnd ⟨a, n, r, 4, cm, ps, done⟩) f U w e w' := by
  have HU := Lib.hid hU
  obtain ⟨ha1, ha2⟩ := ha
  simp only [rV]
  clear hU
  go_enter Tryd.func12, Tryd.ntmps12
  go_wp2_with fail
  refine bodyPost_ret (v := .tuple #[.agg #[.int .i64 (a), .int .i64 (n), .int .i64 (r), .int .i64 4, .int .i64 (cm), .int .i64 (ps), .bool true], .slice U 4 cp]) (by simp [results, Tryd.results12, go_sem]) rfl ⟨U, cp, rfl, ?_, ?_, .inl rfl⟩
  · exact HU.out.keep (((Below.refl _ _).alloc (Nat.le_refl _) _).alloc (by simp) _)
  · exact ((Below.refl _ _).alloc (Nat.le_refl _) _).alloc (by simp) _

set_option maxHeartbeats 4000000 in
set_option maxRecDepth 100000 in
theorem rstep_miss4b (a n r cm ps : Int) (done : Bool) (U : Option Addr) (cp : Nat) (f : Nat → Int) (w : World) (hU : Us w U 4 f) (hl : ¬ ps = r) (ha : -1000 ≤ a ∧ a ≤ 1000) (hi : (0 ≤ (a + 1) ∧ 4 ≤ (a + 1))) :
    Calls Tryd.prog 12 #[rV ⟨a, n, r, 4, cm, ps, done⟩, .slice U 4 cp] w fun e w' => RGo (rEnd ⟨a, n, r, 4, cm, ps, done⟩) f U w e w' := by
  have HU := Lib.hid hU
  obtain ⟨ha1, ha2⟩ := ha
  obtain ⟨hi0, hi⟩ := hi
  simp only [rV]
  clear hU
  go_enter Tryd.func12, Tryd.ntmps12
  go_wp2_with fail
  refine bodyPost_ret (v := .tuple #[.agg #[.int .i64 (a), .int .i64 (n), .int .i64 (r), .int .i64 4, .int .i64 (cm), .int .i64 (ps), .bool true], .slice U 4 cp]) (by simp [results, Tryd.results12, go_sem]) rfl ⟨U, cp, rfl, ?_, ?_, .inl rfl⟩
  · exact HU.out.keep (((Below.refl _ _).alloc (Nat.le_refl _) _).alloc (by simp) _)
  · exact ((Below.refl _ _).alloc (Nat.le_refl _) _).alloc (by simp) _

set_option maxHeartbeats 8000000 in
set_option maxRecDepth 100000 in
theorem rstep_go1 (a n r cm ps : Int) (done : Bool) (i : Nat) (U : Option Addr) (cp : Nat) (f : Nat → Int) (w : World) (hU : Us w U 4 f) (hl : ¬ ps = r) (hw : a = i) (hi : i < 4) (_ : 0 ≤ cm ∧ cm ≤ 1001) (_ : 0 ≤ ps ∧ ps ≤ 1000) (_ : 1 ≤ n ∧ n ≤ 8) (v n2 : Int) (hfv : inc (f i) = v) (hn2 : n2 = if v = n then 2 else 4) :
    Calls Tryd.prog 12 #[rV ⟨a, n, r, 1, cm, ps, done⟩, .slice U 4 cp] w fun e w' => RGo { (⟨a, n, r, 1, cm, ps, done⟩ : RT) with cm := cm + 1, next := n2, done := false } (upd f i v) U w e w' := by
  have HF := ws_facts w ⟨a, n, r, 1, cm, ps, done⟩
  simp only [WS, Box7, rZ] at HF
  have HFH := Lib.hid HF
  have HUW := Lib.hid (hU.keep HF.2.2.2.2.1)
  have hi0 : (0 : Int) ≤ (i : Int) := by omega
  have hi1 : (i : Int) < 4 := by omega
  have hpr : (ps == r) = false := beq_eq_false_iff_ne.2 hl
  have hi2 : ¬ (i : Int) < 0 := by omega
  have hi3 : ¬ 4 ≤ (i : Int) := by omega
  have hm2 : cm.tmod 2 = cm % 2 := Int.tmod_eq_emod_of_nonneg (by omega)
  have hw1 : IntKind.u32.wrap (cm % 2) = cm % 2 := by rw [IntKind.wrap_u32']; omega
  have hw2 : IntKind.u32.wrap n = n := by rw [IntKind.wrap_u32']; omega
  simp only [rV]
  subst hw
  clear hU HF
  go_enter Tryd.func12, Tryd.ntmps12
  go_wp2_with (at_builtin; refine wpList_append_words rfl _ _ rfl HUW.out (w.heap.size + 2) (by simp) (by rfl) (by rfl) ?_)
  intro G cap' w2 hG1 hG2 hUs hFz hB2
  have HUS := Lib.hid hUs
  have hx := hUs.cell hi
  rw [Nat.zero_add] at hx
  have hfx := hFz i
  obtain ⟨⟨c0, c1, c2, c3, c4, c5, c6⟩, ⟨z0, z1, z2, z3, z4, z5, z6⟩, f0, f1, hB0, hs0⟩ := HFH.out
  have k0 := keptn c0 hB2 (by dsimp only; omega)
  have k1 := keptn c1 hB2 (by dsimp only; omega)
  have k2 := keptn c2 hB2 (by dsimp only; omega)
  have k3 := keptn c3 hB2 (by dsimp only; omega)
  have k4 := keptn c4 hB2 (by dsimp only; omega)
  have k5 := keptn c5 hB2 (by dsimp only; omega)
  have k6 := keptn c6 hB2 (by dsimp only; omega)
  have m0 := keptn z0 hB2 (by dsimp only; omega)
  have m1 := keptn z1 hB2 (by dsimp only; omega)
  have m2 := keptn z2 hB2 (by dsimp only; omega)
  have m3 := keptn z3 hB2 (by dsimp only; omega)
  have m4 := keptn z4 hB2 (by dsimp only; omega)
  have m5 := keptn z5 hB2 (by dsimp only; omega)
  have m6 := keptn z6 hB2 (by dsimp only; omega)
  have q3 : w2.frozen? ⟨w.heap.size, 3, none⟩ = false := by rw [hB2.frozen (p := ⟨w.heap.size, 3, none⟩) (by dsimp only; omega)]; exact f0 3
  have q4 : w2.frozen? ⟨w.heap.size, 4, none⟩ = false := by rw [hB2.frozen (p := ⟨w.heap.size, 4, none⟩) (by dsimp only; omega)]; exact f0 4
  have q5 : w2.frozen? ⟨w.heap.size, 5, none⟩ = false := by rw [hB2.frozen (p := ⟨w.heap.size, 5, none⟩) (by dsimp only; omega)]; exact f0 5
  have q6 : w2.frozen? ⟨w.heap.size, 6, none⟩ = false := by rw [hB2.frozen (p := ⟨w.heap.size, 6, none⟩) (by dsimp only; omega)]; exact f0 6
  have y0 : w2.frozen? ⟨w.heap.size + 1, 0, none⟩ = false := by rw [hB2.frozen (p := ⟨w.heap.size + 1, 0, none⟩) (by dsimp only; omega)]; exact f1 0
  have y1 : w2.frozen? ⟨w.heap.size + 1, 1, none⟩ = false := by rw [hB2.frozen (p := ⟨w.heap.size + 1, 1, none⟩) (by dsimp only; omega)]; exact f1 1
  have y2 : w2.frozen? ⟨w.heap.size + 1, 2, none⟩ = false := by rw [hB2.frozen (p := ⟨w.heap.size + 1, 2, none⟩) (by dsimp only; omega)]; exact f1 2
  have y3 : w2.frozen? ⟨w.heap.size + 1, 3, none⟩ = false := by rw [hB2.frozen (p := ⟨w.heap.size + 1, 3, none⟩) (by dsimp only; omega)]; exact f1 3
  have y4 : w2.frozen? ⟨w.heap.size + 1, 4, none⟩ = false := by rw [hB2.frozen (p := ⟨w.heap.size + 1, 4, none⟩) (by dsimp only; omega)]; exact f1 4
  have y5 : w2.frozen? ⟨w.heap.size + 1, 5, none⟩ = false := by rw [hB2.frozen (p := ⟨w.heap.size + 1, 5, none⟩) (by dsimp only; omega)]; exact f1 5
  have y6 : w2.frozen? ⟨w.heap.size + 1, 6, none⟩ = false := by rw [hB2.frozen (p := ⟨w.heap.size + 1, 6, none⟩) (by dsimp only; omega)]; exact f1 6
  have HFB := Lib.hid (fun j => show w2.frozen? ⟨w.heap.size, j, none⟩ = false by rw [hB2.frozen (p := ⟨w.heap.size, j, none⟩) (by dsimp only; omega)]; exact f0 j)
  have HFC := Lib.hid (fun j => show w2.frozen? ⟨w.heap.size + 1, j, none⟩ = false by rw [hB2.frozen (p := ⟨w.heap.size + 1, j, none⟩) (by dsimp only; omega)]; exact f1 j)
  have HBW := Lib.hid (hB0.trans (hB2.mono (by omega)))
  have hG0 : w.heap.size ≠ G := by omega
  have hG3 : G ≠ w.heap.size := by omega
  have hG4 : w.heap.size + 1 ≠ G := by omega
  have hG5 : G ≠ w.heap.size + 1 := by omega
  clear hUs hFz hB2 f0 f1 hB0 hs0 c0 c1 c2 c3 c4 c5 c6 z0 z1 z2 z3 z4 z5 z6
  obtain ⟨x, hxx⟩ : ∃ x, x = f i := ⟨_, rfl⟩
  rw [← hxx] at hx
  have HX := Lib.hid hxx
  clear hxx
  have hv1 : IntKind.u32.wrap (x + 1) = v := by rw [IntKind.wrap_u32', HX.out]; exact hfv
  have HN2 := Lib.hid hn2
  clear hfv hn2
  have HF2 : Hid (F2 w2 w.heap.size ⟨i, n, r, 1, cm, ps, done⟩) := Lib.hid ⟨⟨k0, k1, k2, k3, k4, k5, k6⟩, ⟨m0, m1, m2, m3, m4, m5, m6⟩, HFB.out, HFC.out⟩
  go_upto_region 17 with fail
  have hF3 := ((HF2.out.out (a := ⟨G, i, none⟩) hG3 hG5 (.int .u32 v)).set4 (cm + 1)).set3 4
  have HU3 := Lib.hid (Us.out (a := ⟨w.heap.size, 3, none⟩) (v := .int .i64 4) (Us.out (a := ⟨w.heap.size, 4, none⟩) (v := .int .i64 (cm + 1)) (Us.set0 HUS.out hi v) hG0) hG0)
  have HB3 := Lib.hid (bset (a := ⟨w.heap.size, 3, none⟩) (v := .int .i64 4) (bset (a := ⟨w.heap.size, 4, none⟩) (v := .int .i64 (cm + 1)) (bset (a := ⟨G, i, none⟩) (v := .int .u32 v) HBW.out (show w.heap.size ≤ G by omega)) (Nat.le_refl _)) (Nat.le_refl _))
  generalize hW3 : ((w2.setCell ⟨G, i, none⟩ (.int .u32 v)).setCell ⟨w.heap.size, 4, none⟩ (.int .i64 (cm + 1))).setCell ⟨w.heap.size, 3, none⟩ (.int .i64 4) = w3 at *
  have hx3 := HU3.out.cell hi
  rw [Nat.zero_add, show upd f i v i = v by simp [upd]] at hx3
  clear k0 k1 k2 k3 k4 k5 k6 m0 m1 m2 m3 m4 m5 m6 q3 q4 q5 q6 y0 y1 y2 y3 y4 y5 y6 hfx hx hW3 HF2 HBW HUS
  obtain ⟨⟨k0, k1, k2, k3, k4, k5, k6⟩, ⟨m0, m1, m2, m3, m4, m5, m6⟩, fb, fz⟩ := hF3
  simp only [rZ] at m0 m1 m2 m3 m4 m5 m6
  have q3 := fb 3
  have q6 := fb 6
  have y0 := fz 0
  have y1 := fz 1
  have y2 := fz 2
  have y3 := fz 3
  have y4 := fz 4
  have y5 := fz 5
  have y6 := fz 6
  clear fb fz
  go_quiet (fail)
  by_cases hvn : v = n
  · have HE2 := Lib.hid (show n2 = 2 by rw [HN2.out, if_pos hvn])
    clear HN2
    subst hvn
    go_wp2_with fail
    refine bodyPost_ret (v := .tuple #[.agg #[.int .i64 ((i : Int)), .int .i64 (v), .int .i64 (r), .int .i64 2, .int .i64 (cm + 1), .int .i64 (ps), .bool false], .slice (some ⟨G, 0, none⟩) 4 cap']) (by simp [results, Tryd.results12, go_sem, same_some, m0, m1, m2, m3, m4, m5, m6]) rfl ⟨some ⟨G, 0, none⟩, cap', by simp [rV, HE2.out], ?_, ?_, .inr ⟨G, rfl, by omega⟩⟩
    · exact tail_us (Us.out (a := ⟨w.heap.size, 6, none⟩) (Us.out (a := ⟨w.heap.size, 3, none⟩) (us_drewN HU3.out) hG0) hG0) hG4 _ _ _ _ _ _ _
    · exact tail_be (bset (bset (below_drewN HB3.out _) (Nat.le_refl _)) (Nat.le_refl _)) (by omega) _ _ _ _ _ _ _
  · have hvb : (v == n) = false := beq_eq_false_iff_ne.2 hvn
    have HE2 := Lib.hid (show n2 = 4 by rw [HN2.out, if_neg hvn])
    clear HN2
    go_wp2_with fail
    refine bodyPost_ret (v := .tuple #[.agg #[.int .i64 ((i : Int)), .int .i64 (n), .int .i64 (r), .int .i64 4, .int .i64 (cm + 1), .int .i64 (ps), .bool false], .slice (some ⟨G, 0, none⟩) 4 cap']) (by simp [results, Tryd.results12, go_sem, same_some, m0, m1, m2, m3, m4, m5, m6]) rfl ⟨some ⟨G, 0, none⟩, cap', by simp [rV, HE2.out], ?_, ?_, .inr ⟨G, rfl, by omega⟩⟩
    · exact tail_us (Us.out (a := ⟨w.heap.size, 6, none⟩) (us_drewN HU3.out) hG0) hG4 _ _ _ _ _ _ _
    · exact tail_be (bset (below_drewN HB3.out _) (Nat.le_refl _)) (by omega) _ _ _ _ _ _ _


set_option maxHeartbeats 8000000 in
set_option maxRecDepth 100000 in
theorem rstep_go2 (a n r cm ps : Int) (done : Bool) (i : Nat) (U : Option Addr) (cp : Nat) (f : Nat → Int) (w : World) (hU : Us w U 4 f) (hl : ¬ ps = r) (hw : a = i) (hi : i < 4) (_ : 0 ≤ cm ∧ cm ≤ 1001) (_ : 0 ≤ ps ∧ ps ≤ 1000) (_ : 1 ≤ n ∧ n ≤ 8) :
    Calls Tryd.prog 12 #[rV ⟨a, n, r, 2, cm, ps, done⟩, .slice U 4 cp] w fun e w' => RGo { (⟨a, n, r, 2, cm, ps, done⟩ : RT) with next := 3, done := false } (upd f i 0) U w e w' := by
  have HF := ws_facts w ⟨a, n, r, 2, cm, ps, done⟩
  simp only [WS, Box7, rZ] at HF
  have HFH := Lib.hid HF
  have HUW := Lib.hid (hU.keep HF.2.2.2.2.1)
  have hi0 : (0 : Int) ≤ (i : Int) := by omega
  have hi1 : (i : Int) < 4 := by omega
  have hpr : (ps == r) = false := beq_eq_false_iff_ne.2 hl
  have hi2 : ¬ (i : Int) < 0 := by omega
  have hi3 : ¬ 4 ≤ (i : Int) := by omega
  have hm2 : cm.tmod 2 = cm % 2 := Int.tmod_eq_emod_of_nonneg (by omega)
  have hw1 : IntKind.u32.wrap (cm % 2) = cm % 2 := by rw [IntKind.wrap_u32']; omega
  have hw2 : IntKind.u32.wrap n = n := by rw [IntKind.wrap_u32']; omega
  simp only [rV]
  subst hw
  clear hU HF
  go_enter Tryd.func12, Tryd.ntmps12
  go_wp2_with (at_builtin; refine wpList_append_words rfl _ _ rfl HUW.out (w.heap.size + 2) (by simp) (by rfl) (by rfl) ?_)
  intro G cap' w2 hG1 hG2 hUs hFz hB2
  have HUS := Lib.hid hUs
  have hx := hUs.cell hi
  rw [Nat.zero_add] at hx
  have hfx := hFz i
  obtain ⟨⟨c0, c1, c2, c3, c4, c5, c6⟩, ⟨z0, z1, z2, z3, z4, z5, z6⟩, f0, f1, hB0, hs0⟩ := HFH.out
  have k0 := keptn c0 hB2 (by dsimp only; omega)
  have k1 := keptn c1 hB2 (by dsimp only; omega)
  have k2 := keptn c2 hB2 (by dsimp only; omega)
  have k3 := keptn c3 hB2 (by dsimp only; omega)
  have k4 := keptn c4 hB2 (by dsimp only; omega)
  have k5 := keptn c5 hB2 (by dsimp only; omega)
  have k6 := keptn c6 hB2 (by dsimp only; omega)
  have m0 := keptn z0 hB2 (by dsimp only; omega)
  have m1 := keptn z1 hB2 (by dsimp only; omega)
  have m2 := keptn z2 hB2 (by dsimp only; omega)
  have m3 := keptn z3 hB2 (by dsimp only; omega)
  have m4 := keptn z4 hB2 (by dsimp only; omega)
  have m5 := keptn z5 hB2 (by dsimp only; omega)
  have m6 := keptn z6 hB2 (by dsimp only; omega)
  have q3 : w2.frozen? ⟨w.heap.size, 3, none⟩ = false := by rw [hB2.frozen (p := ⟨w.heap.size, 3, none⟩) (by dsimp only; omega)]; exact f0 3
  have q4 : w2.frozen? ⟨w.heap.size, 4, none⟩ = false := by rw [hB2.frozen (p := ⟨w.heap.size, 4, none⟩) (by dsimp only; omega)]; exact f0 4
  have q5 : w2.frozen? ⟨w.heap.size, 5, none⟩ = false := by rw [hB2.frozen (p := ⟨w.heap.size, 5, none⟩) (by dsimp only; omega)]; exact f0 5
  have q6 : w2.frozen? ⟨w.heap.size, 6, none⟩ = false := by rw [hB2.frozen (p := ⟨w.heap.size, 6, none⟩) (by dsimp only; omega)]; exact f0 6
  have y0 : w2.frozen? ⟨w.heap.size + 1, 0, none⟩ = false := by rw [hB2.frozen (p := ⟨w.heap.size + 1, 0, none⟩) (by dsimp only; omega)]; exact f1 0
  have y1 : w2.frozen? ⟨w.heap.size + 1, 1, none⟩ = false := by rw [hB2.frozen (p := ⟨w.heap.size + 1, 1, none⟩) (by dsimp only; omega)]; exact f1 1
  have y2 : w2.frozen? ⟨w.heap.size + 1, 2, none⟩ = false := by rw [hB2.frozen (p := ⟨w.heap.size + 1, 2, none⟩) (by dsimp only; omega)]; exact f1 2
  have y3 : w2.frozen? ⟨w.heap.size + 1, 3, none⟩ = false := by rw [hB2.frozen (p := ⟨w.heap.size + 1, 3, none⟩) (by dsimp only; omega)]; exact f1 3
  have y4 : w2.frozen? ⟨w.heap.size + 1, 4, none⟩ = false := by rw [hB2.frozen (p := ⟨w.heap.size + 1, 4, none⟩) (by dsimp only; omega)]; exact f1 4
  have y5 : w2.frozen? ⟨w.heap.size + 1, 5, none⟩ = false := by rw [hB2.frozen (p := ⟨w.heap.size + 1, 5, none⟩) (by dsimp only; omega)]; exact f1 5
  have y6 : w2.frozen? ⟨w.heap.size + 1, 6, none⟩ = false := by rw [hB2.frozen (p := ⟨w.heap.size + 1, 6, none⟩) (by dsimp only; omega)]; exact f1 6
  have HBW := Lib.hid (hB0.trans (hB2.mono (by omega)))
  have hG0 : w.heap.size ≠ G := by omega
  have hG3 : G ≠ w.heap.size := by omega
  have hG4 : w.heap.size + 1 ≠ G := by omega
  have hG5 : G ≠ w.heap.size + 1 := by omega
  clear hUs hFz hB2 f0 f1 hB0 hs0 c0 c1 c2 c3 c4 c5 c6 z0 z1 z2 z3 z4 z5 z6
  obtain ⟨x, hxx⟩ : ∃ x, x = f i := ⟨_, rfl⟩
  rw [← hxx] at hx
  have HX := Lib.hid hxx
  clear hxx
  go_wp2_with fail
  refine bodyPost_ret (v := .tuple #[.agg #[.int .i64 ((i : Int)), .int .i64 (n), .int .i64 (r), .int .i64 3, .int .i64 (cm), .int .i64 (ps), .bool false], .slice (some ⟨G, 0, none⟩) 4 cap']) (by simp [results, Tryd.results12, go_sem, same_some, m0, m1, m2, m3, m4, m5, m6]) rfl ⟨some ⟨G, 0, none⟩, cap', by simp [rV], ?_, ?_, .inr ⟨G, rfl, by omega⟩⟩
  · exact tail_us (Us.out (a := ⟨w.heap.size, 6, none⟩) (Us.out (a := ⟨w.heap.size, 3, none⟩) (Us.set0 HUS.out hi _) hG0) hG0) hG4 _ _ _ _ _ _ _
  · exact tail_be (bset (bset (bset HBW.out (show w.heap.size ≤ G by omega)) (Nat.le_refl _)) (Nat.le_refl _)) (by omega) _ _ _ _ _ _ _


set_option maxHeartbeats 8000000 in
set_option maxRecDepth 100000 in
theorem rstep_go3 (a n r cm ps : Int) (done : Bool) (i : Nat) (U : Option Addr) (cp : Nat) (f : Nat → Int) (w : World) (hU : Us w U 4 f) (hl : ¬ ps = r) (hw : (a + 1) = i) (hi : i < 4) (_ : 0 ≤ cm ∧ cm ≤ 1001) (_ : 0 ≤ ps ∧ ps ≤ 1000) (_ : 1 ≤ n ∧ n ≤ 8) :
    Calls Tryd.prog 12 #[rV ⟨a, n, r, 3, cm, ps, done⟩, .slice U 4 cp] w fun e w' => RGo { (⟨a, n, r, 3, cm, ps, done⟩ : RT) with ps := ps + 1, next := 1, done := (ps + 1 == r) } (upd f i (cm % 2)) U w e w' := by
  have HF := ws_facts w ⟨a, n, r, 3, cm, ps, done⟩
  simp only [WS, Box7, rZ] at HF
  have HFH := Lib.hid HF
  have HUW := Lib.hid (hU.keep HF.2.2.2.2.1)
  have hi0 : (0 : Int) ≤ (i : Int) := by omega
  have hi1 : (i : Int) < 4 := by omega
  have hpr : (ps == r) = false := beq_eq_false_iff_ne.2 hl
  have hi2 : ¬ (i : Int) < 0 := by omega
  have hi3 : ¬ 4 ≤ (i : Int) := by omega
  have hm2 : cm.tmod 2 = cm % 2 := Int.tmod_eq_emod_of_nonneg (by omega)
  have hw1 : IntKind.u32.wrap (cm % 2) = cm % 2 := by rw [IntKind.wrap_u32']; omega
  have hw2 : IntKind.u32.wrap n = n := by rw [IntKind.wrap_u32']; omega
  simp only [rV]
  obtain rfl : a = (i : Int) - 1 := by omega
  have hai : (i : Int) - 1 + 1 = i := by omega
  clear hU HF
  go_enter Tryd.func12, Tryd.ntmps12
  go_wp2_with (at_builtin; refine wpList_append_words rfl _ _ rfl HUW.out (w.heap.size + 2) (by simp) (by rfl) (by rfl) ?_)
  intro G cap' w2 hG1 hG2 hUs hFz hB2
  have HUS := Lib.hid hUs
  have hx := hUs.cell hi
  rw [Nat.zero_add] at hx
  have hfx := hFz i
  obtain ⟨⟨c0, c1, c2, c3, c4, c5, c6⟩, ⟨z0, z1, z2, z3, z4, z5, z6⟩, f0, f1, hB0, hs0⟩ := HFH.out
  have k0 := keptn c0 hB2 (by dsimp only; omega)
  have k1 := keptn c1 hB2 (by dsimp only; omega)
  have k2 := keptn c2 hB2 (by dsimp only; omega)
  have k3 := keptn c3 hB2 (by dsimp only; omega)
  have k4 := keptn c4 hB2 (by dsimp only; omega)
  have k5 := keptn c5 hB2 (by dsimp only; omega)
  have k6 := keptn c6 hB2 (by dsimp only; omega)
  have m0 := keptn z0 hB2 (by dsimp only; omega)
  have m1 := keptn z1 hB2 (by dsimp only; omega)
  have m2 := keptn z2 hB2 (by dsimp only; omega)
  have m3 := keptn z3 hB2 (by dsimp only; omega)
  have m4 := keptn z4 hB2 (by dsimp only; omega)
  have m5 := keptn z5 hB2 (by dsimp only; omega)
  have m6 := keptn z6 hB2 (by dsimp only; omega)
  have q3 : w2.frozen? ⟨w.heap.size, 3, none⟩ = false := by rw [hB2.frozen (p := ⟨w.heap.size, 3, none⟩) (by dsimp only; omega)]; exact f0 3
  have q4 : w2.frozen? ⟨w.heap.size, 4, none⟩ = false := by rw [hB2.frozen (p := ⟨w.heap.size, 4, none⟩) (by dsimp only; omega)]; exact f0 4
  have q5 : w2.frozen? ⟨w.heap.size, 5, none⟩ = false := by rw [hB2.frozen (p := ⟨w.heap.size, 5, none⟩) (by dsimp only; omega)]; exact f0 5
  have q6 : w2.frozen? ⟨w.heap.size, 6, none⟩ = false := by rw [hB2.frozen (p := ⟨w.heap.size, 6, none⟩) (by dsimp only; omega)]; exact f0 6
  have y0 : w2.frozen? ⟨w.heap.size + 1, 0, none⟩ = false := by rw [hB2.frozen (p := ⟨w.heap.size + 1, 0, none⟩) (by dsimp only; omega)]; exact f1 0
  have y1 : w2.frozen? ⟨w.heap.size + 1, 1, none⟩ = false := by rw [hB2.frozen (p := ⟨w.heap.size + 1, 1, none⟩) (by dsimp only; omega)]; exact f1 1
  have y2 : w2.frozen? ⟨w.heap.size + 1, 2, none⟩ = false := by rw [hB2.frozen (p := ⟨w.heap.size + 1, 2, none⟩) (by dsimp only; omega)]; exact f1 2
  have y3 : w2.frozen? ⟨w.heap.size + 1, 3, none⟩ = false := by rw [hB2.frozen (p := ⟨w.heap.size + 1, 3, none⟩) (by dsimp only; omega)]; exact f1 3
  have y4 : w2.frozen? ⟨w.heap.size + 1, 4, none⟩ = false := by rw [hB2.frozen (p := ⟨w.heap.size + 1, 4, none⟩) (by dsimp only; omega)]; exact f1 4
  have y5 : w2.frozen? ⟨w.heap.size + 1, 5, none⟩ = false := by rw [hB2.frozen (p := ⟨w.heap.size + 1, 5, none⟩) (by dsimp only; omega)]; exact f1 5
  have y6 : w2.frozen? ⟨w.heap.size + 1, 6, none⟩ = false := by rw [hB2.frozen (p := ⟨w.heap.size + 1, 6, none⟩) (by dsimp only; omega)]; exact f1 6
  have HBW := Lib.hid (hB0.trans (hB2.mono (by omega)))
  have hG0 : w.heap.size ≠ G := by omega
  have hG3 : G ≠ w.heap.size := by omega
  have hG4 : w.heap.size + 1 ≠ G := by omega
  have hG5 : G ≠ w.heap.size + 1 := by omega
  clear hUs hFz hB2 f0 f1 hB0 hs0 c0 c1 c2 c3 c4 c5 c6 z0 z1 z2 z3 z4 z5 z6
  obtain ⟨x, hxx⟩ : ∃ x, x = f i := ⟨_, rfl⟩
  rw [← hxx] at hx
  have HX := Lib.hid hxx
  clear hxx
  go_wp2_with fail
  refine bodyPost_ret (v := .tuple #[.agg #[.int .i64 ((i : Int) - 1), .int .i64 (n), .int .i64 (r), .int .i64 1, .int .i64 (cm), .int .i64 (ps + 1), .bool (ps + 1 == r)], .slice (some ⟨G, 0, none⟩) 4 cap']) (by simp [results, Tryd.results12, go_sem, same_some, m0, m1, m2, m3, m4, m5, m6]) rfl ⟨some ⟨G, 0, none⟩, cap', by simp [rV], ?_, ?_, .inr ⟨G, rfl, by omega⟩⟩
  · exact tail_us (Us.out (a := ⟨w.heap.size, 6, none⟩) (Us.out (a := ⟨w.heap.size, 3, none⟩) (Us.out (a := ⟨w.heap.size, 5, none⟩) (Us.set0 HUS.out hi _) hG0) hG0) hG0) hG4 _ _ _ _ _ _ _
  · exact tail_be (bset (bset (bset (bset HBW.out (show w.heap.size ≤ G by omega)) (Nat.le_refl _)) (Nat.le_refl _)) (Nat.le_refl _)) (by omega) _ _ _ _ _ _ _


set_option maxHeartbeats 8000000 in
set_option maxRecDepth 100000 in
theorem rstep_go4a (a n r cm ps : Int) (done : Bool) (i : Nat) (U : Option Addr) (cp : Nat) (f : Nat → Int) (w : World) (hU : Us w U 4 f) (hl : ¬ ps = r) (hw : (a + 1) = i) (hi : i < 4) (_ : 0 ≤ cm ∧ cm ≤ 1001) (_ : 0 ≤ ps ∧ ps ≤ 1000) (_ : 1 ≤ n ∧ n ≤ 8) (hyp : f i = cm % 2) :
    Calls Tryd.prog 12 #[rV ⟨a, n, r, 4, cm, ps, done⟩, .slice U 4 cp] w fun e w' => RGo { (⟨a, n, r, 4, cm, ps, done⟩ : RT) with ps := ps + 1, next := 1, done := (ps + 1 == r) } f U w e w' := by
  have HF := ws_facts w ⟨a, n, r, 4, cm, ps, done⟩
  simp only [WS, Box7, rZ] at HF
  have HFH := Lib.hid HF
  have HUW := Lib.hid (hU.keep HF.2.2.2.2.1)
  have hi0 : (0 : Int) ≤ (i : Int) := by omega
  have hi1 : (i : Int) < 4 := by omega
  have hpr : (ps == r) = false := beq_eq_false_iff_ne.2 hl
  have hi2 : ¬ (i : Int) < 0 := by omega
  have hi3 : ¬ 4 ≤ (i : Int) := by omega
  have hm2 : cm.tmod 2 = cm % 2 := Int.tmod_eq_emod_of_nonneg (by omega)
  have hw1 : IntKind.u32.wrap (cm % 2) = cm % 2 := by rw [IntKind.wrap_u32']; omega
  have hw2 : IntKind.u32.wrap n = n := by rw [IntKind.wrap_u32']; omega
  simp only [rV]
  obtain rfl : a = (i : Int) - 1 := by omega
  have hai : (i : Int) - 1 + 1 = i := by omega
  clear hU HF
  go_enter Tryd.func12, Tryd.ntmps12
  go_wp2_with (at_builtin; refine wpList_append_words rfl _ _ rfl HUW.out (w.heap.size + 2) (by simp) (by rfl) (by rfl) ?_)
  intro G cap' w2 hG1 hG2 hUs hFz hB2
  have HUS := Lib.hid hUs
  have hx := hUs.cell hi
  rw [Nat.zero_add] at hx
  have hfx := hFz i
  obtain ⟨⟨c0, c1, c2, c3, c4, c5, c6⟩, ⟨z0, z1, z2, z3, z4, z5, z6⟩, f0, f1, hB0, hs0⟩ := HFH.out
  have k0 := keptn c0 hB2 (by dsimp only; omega)
  have k1 := keptn c1 hB2 (by dsimp only; omega)
  have k2 := keptn c2 hB2 (by dsimp only; omega)
  have k3 := keptn c3 hB2 (by dsimp only; omega)
  have k4 := keptn c4 hB2 (by dsimp only; omega)
  have k5 := keptn c5 hB2 (by dsimp only; omega)
  have k6 := keptn c6 hB2 (by dsimp only; omega)
  have m0 := keptn z0 hB2 (by dsimp only; omega)
  have m1 := keptn z1 hB2 (by dsimp only; omega)
  have m2 := keptn z2 hB2 (by dsimp only; omega)
  have m3 := keptn z3 hB2 (by dsimp only; omega)
  have m4 := keptn z4 hB2 (by dsimp only; omega)
  have m5 := keptn z5 hB2 (by dsimp only; omega)
  have m6 := keptn z6 hB2 (by dsimp only; omega)
  have q3 : w2.frozen? ⟨w.heap.size, 3, none⟩ = false := by rw [hB2.frozen (p := ⟨w.heap.size, 3, none⟩) (by dsimp only; omega)]; exact f0 3
  have q4 : w2.frozen? ⟨w.heap.size, 4, none⟩ = false := by rw [hB2.frozen (p := ⟨w.heap.size, 4, none⟩) (by dsimp only; omega)]; exact f0 4
  have q5 : w2.frozen? ⟨w.heap.size, 5, none⟩ = false := by rw [hB2.frozen (p := ⟨w.heap.size, 5, none⟩) (by dsimp only; omega)]; exact f0 5
  have q6 : w2.frozen? ⟨w.heap.size, 6, none⟩ = false := by rw [hB2.frozen (p := ⟨w.heap.size, 6, none⟩) (by dsimp only; omega)]; exact f0 6
  have y0 : w2.frozen? ⟨w.heap.size + 1, 0, none⟩ = false := by rw [hB2.frozen (p := ⟨w.heap.size + 1, 0, none⟩) (by dsimp only; omega)]; exact f1 0
  have y1 : w2.frozen? ⟨w.heap.size + 1, 1, none⟩ = false := by rw [hB2.frozen (p := ⟨w.heap.size + 1, 1, none⟩) (by dsimp only; omega)]; exact f1 1
  have y2 : w2.frozen? ⟨w.heap.size + 1, 2, none⟩ = false := by rw [hB2.frozen (p := ⟨w.heap.size + 1, 2, none⟩) (by dsimp only; omega)]; exact f1 2
  have y3 : w2.frozen? ⟨w.heap.size + 1, 3, none⟩ = false := by rw [hB2.frozen (p := ⟨w.heap.size + 1, 3, none⟩) (by dsimp only; omega)]; exact f1 3
  have y4 : w2.frozen? ⟨w.heap.size + 1, 4, none⟩ = false := by rw [hB2.frozen (p := ⟨w.heap.size + 1, 4, none⟩) (by dsimp only; omega)]; exact f1 4
  have y5 : w2.frozen? ⟨w.heap.size + 1, 5, none⟩ = false := by rw [hB2.frozen (p := ⟨w.heap.size + 1, 5, none⟩) (by dsimp only; omega)]; exact f1 5
  have y6 : w2.frozen? ⟨w.heap.size + 1, 6, none⟩ = false := by rw [hB2.frozen (p := ⟨w.heap.size + 1, 6, none⟩) (by dsimp only; omega)]; exact f1 6
  have HBW := Lib.hid (hB0.trans (hB2.mono (by omega)))
  have hG0 : w.heap.size ≠ G := by omega
  have hG3 : G ≠ w.heap.size := by omega
  have hG4 : w.heap.size + 1 ≠ G := by omega
  have hG5 : G ≠ w.heap.size + 1 := by omega
  clear hUs hFz hB2 f0 f1 hB0 hs0 c0 c1 c2 c3 c4 c5 c6 z0 z1 z2 z3 z4 z5 z6
  obtain ⟨x, hxx⟩ : ∃ x, x = f i := ⟨_, rfl⟩
  rw [← hxx] at hx
  have HX := Lib.hid hxx
  clear hxx
  have hxc : x = cm % 2 := by rw [HX.out]; exact hyp
  clear hyp
  go_wp2_with fail
  refine bodyPost_ret (v := .tuple #[.agg #[.int .i64 ((i : Int) - 1), .int .i64 (n), .int .i64 (r), .int .i64 1, .int .i64 (cm), .int .i64 (ps + 1), .bool (ps + 1 == r)], .slice (some ⟨G, 0, none⟩) 4 cap']) (by simp [results, Tryd.results12, go_sem, same_some, m0, m1, m2, m3, m4, m5, m6]) rfl ⟨some ⟨G, 0, none⟩, cap', by simp [rV], ?_, ?_, .inr ⟨G, rfl, by omega⟩⟩
  · exact tail_us (Us.out (a := ⟨w.heap.size, 6, none⟩) (Us.out (a := ⟨w.heap.size, 3, none⟩) (Us.out (a := ⟨w.heap.size, 5, none⟩) (HUS.out) hG0) hG0) hG0) hG4 _ _ _ _ _ _ _
  · exact tail_be (bset (bset (bset (HBW.out) (Nat.le_refl _)) (Nat.le_refl _)) (Nat.le_refl _)) (by omega) _ _ _ _ _ _ _


set_option maxHeartbeats 8000000 in
set_option maxRecDepth 100000 in
theorem rstep_go4b (a n r cm ps : Int) (done : Bool) (i : Nat) (U : Option Addr) (cp : Nat) (f : Nat → Int) (w : World) (hU : Us w U 4 f) (hl : ¬ ps = r) (hw : (a + 1) = i) (hi : i < 4) (_ : 0 ≤ cm ∧ cm ≤ 1001) (_ : 0 ≤ ps ∧ ps ≤ 1000) (_ : 1 ≤ n ∧ n ≤ 8) (hyp : ¬ f i = cm % 2) :
    Calls Tryd.prog 12 #[rV ⟨a, n, r, 4, cm, ps, done⟩, .slice U 4 cp] w fun e w' => RGo { (⟨a, n, r, 4, cm, ps, done⟩ : RT) with done := false } f U w e w' := by
  have HF := ws_facts w ⟨a, n, r, 4, cm, ps, done⟩
  simp only [WS, Box7, rZ] at HF
  have HFH := Lib.hid HF
  have HUW := Lib.hid (hU.keep HF.2.2.2.2.1)
  have hi0 : (0 : Int) ≤ (i : Int) := by omega
  have hi1 : (i : Int) < 4 := by omega
  have hpr : (ps == r) = false := beq_eq_false_iff_ne.2 hl
  have hi2 : ¬ (i : Int) < 0 := by omega
  have hi3 : ¬ 4 ≤ (i : Int) := by omega
  have hm2 : cm.tmod 2 = cm % 2 := Int.tmod_eq_emod_of_nonneg (by omega)
  have hw1 : IntKind.u32.wrap (cm % 2) = cm % 2 := by rw [IntKind.wrap_u32']; omega
  have hw2 : IntKind.u32.wrap n = n := by rw [IntKind.wrap_u32']; omega
  simp only [rV]
  obtain rfl : a = (i : Int) - 1 := by omega
  have hai : (i : Int) - 1 + 1 = i := by omega
  clear hU HF
  go_enter Tryd.func12, Tryd.ntmps12
  go_wp2_with (at_builtin; refine wpList_append_words rfl _ _ rfl HUW.out (w.heap.size + 2) (by simp) (by rfl) (by rfl) ?_)
  intro G cap' w2 hG1 hG2 hUs hFz hB2
  have HUS := Lib.hid hUs
  have hx := hUs.cell hi
  rw [Nat.zero_add] at hx
  have hfx := hFz i
  obtain ⟨⟨c0, c1, c2, c3, c4, c5, c6⟩, ⟨z0, z1, z2, z3, z4, z5, z6⟩, f0, f1, hB0, hs0⟩ := HFH.out
  have k0 := keptn c0 hB2 (by dsimp only; omega)
  have k1 := keptn c1 hB2 (by dsimp only; omega)
  have k2 := keptn c2 hB2 (by dsimp only; omega)
  have k3 := keptn c3 hB2 (by dsimp only; omega)
  have k4 := keptn c4 hB2 (by dsimp only; omega)
  have k5 := keptn c5 hB2 (by dsimp only; omega)
  have k6 := keptn c6 hB2 (by dsimp only; omega)
  have m0 := keptn z0 hB2 (by dsimp only; omega)
  have m1 := keptn z1 hB2 (by dsimp only; omega)
  have m2 := keptn z2 hB2 (by dsimp only; omega)
  have m3 := keptn z3 hB2 (by dsimp only; omega)
  have m4 := keptn z4 hB2 (by dsimp only; omega)
  have m5 := keptn z5 hB2 (by dsimp only; omega)
  have m6 := keptn z6 hB2 (by dsimp only; omega)
  have q3 : w2.frozen? ⟨w.heap.size, 3, none⟩ = false := by rw [hB2.frozen (p := ⟨w.heap.size, 3, none⟩) (by dsimp only; omega)]; exact f0 3
  have q4 : w2.frozen? ⟨w.heap.size, 4, none⟩ = false := by rw [hB2.frozen (p := ⟨w.heap.size, 4, none⟩) (by dsimp only; omega)]; exact f0 4
  have q5 : w2.frozen? ⟨w.heap.size, 5, none⟩ = false := by rw [hB2.frozen (p := ⟨w.heap.size, 5, none⟩) (by dsimp only; omega)]; exact f0 5
  have q6 : w2.frozen? ⟨w.heap.size, 6, none⟩ = false := by rw [hB2.frozen (p := ⟨w.heap.size, 6, none⟩) (by dsimp only; omega)]; exact f0 6
  have y0 : w2.frozen? ⟨w.heap.size + 1, 0, none⟩ = false := by rw [hB2.frozen (p := ⟨w.heap.size + 1, 0, none⟩) (by dsimp only; omega)]; exact f1 0
  have y1 : w2.frozen? ⟨w.heap.size + 1, 1, none⟩ = false := by rw [hB2.frozen (p := ⟨w.heap.size + 1, 1, none⟩) (by dsimp only; omega)]; exact f1 1
  have y2 : w2.frozen? ⟨w.heap.size + 1, 2, none⟩ = false := by rw [hB2.frozen (p := ⟨w.heap.size + 1, 2, none⟩) (by dsimp only; omega)]; exact f1 2
  have y3 : w2.frozen? ⟨w.heap.size + 1, 3, none⟩ = false := by rw [hB2.frozen (p := ⟨w.heap.size + 1, 3, none⟩) (by dsimp only; omega)]; exact f1 3
  have y4 : w2.frozen? ⟨w.heap.size + 1, 4, none⟩ = false := by rw [hB2.frozen (p := ⟨w.heap.size + 1, 4, none⟩) (by dsimp only; omega)]; exact f1 4
  have y5 : w2.frozen? ⟨w.heap.size + 1, 5, none⟩ = false := by rw [hB2.frozen (p := ⟨w.heap.size + 1, 5, none⟩) (by dsimp only; omega)]; exact f1 5
  have y6 : w2.frozen? ⟨w.heap.size + 1, 6, none⟩ = false := by rw [hB2.frozen (p := ⟨w.heap.size + 1, 6, none⟩) (by dsimp only; omega)]; exact f1 6
  have HBW := Lib.hid (hB0.trans (hB2.mono (by omega)))
  have hG0 : w.heap.size ≠ G := by omega
  have hG3 : G ≠ w.heap.size := by omega
  have hG4 : w.heap.size + 1 ≠ G := by omega
  have hG5 : G ≠ w.heap.size + 1 := by omega
  clear hUs hFz hB2 f0 f1 hB0 hs0 c0 c1 c2 c3 c4 c5 c6 z0 z1 z2 z3 z4 z5 z6
  obtain ⟨x, hxx⟩ : ∃ x, x = f i := ⟨_, rfl⟩
  rw [← hxx] at hx
  have HX := Lib.hid hxx
  clear hxx
  have hxc : ¬ x = cm % 2 := by rw [HX.out]; exact hyp
  clear hyp
  go_wp2_with fail
  refine bodyPost_ret (v := .tuple #[.agg #[.int .i64 ((i : Int) - 1), .int .i64 (n), .int .i64 (r), .int .i64 4, .int .i64 (cm), .int .i64 (ps), .bool false], .slice (some ⟨G, 0, none⟩) 4 cap']) (by simp [results, Tryd.results12, go_sem, same_some, m0, m1, m2, m3, m4, m5, m6]) rfl ⟨some ⟨G, 0, none⟩, cap', by simp [rV], ?_, ?_, .inr ⟨G, rfl, by omega⟩⟩
  · exact tail_us (Us.out (a := ⟨w.heap.size, 6, none⟩) (HUS.out) hG0) hG4 _ _ _ _ _ _ _
  · exact tail_be (bset (HBW.out) (Nat.le_refl _)) (by omega) _ _ _ _ _ _ _


end Go.Proofs.YtcjhbmkpfclmfaaDoor
