/-
  The document's answer: a step of a taker.
-/
import Derived.Test.YtdegfadahlcgnaaDoorGood
import Derived.Deep.QuietTactic
import Derived.BigQuiet
namespace Go.Proofs.YtdegfadahlcgnaaDoor
open Go.RowKit

/-- A taker of the document's. -/
structure RT where
  a : Int
  c : Int
  left : Int
  next : Int
  tk : Int
  v : Int
  done : Bool
/-- In cells. -/
def rC (r : RT) : List Value := [.int .i64 r.a, .int .i64 r.c, .int .i64 r.left, .int .i64 r.next, .int .u32 r.tk, .int .u32 r.v, .bool r.done]
def rV (r : RT) : Value := .agg #[.int .i64 r.a, .int .i64 r.c, .int .i64 r.left, .int .i64 r.next, .int .u32 r.tk, .int .u32 r.v, .bool r.done]
/-- From address A on lie the words f. -/
def Us (w : World) (A : Option Addr) (n : Nat) (f : Nat → Int) : Prop := ∀ i, i < n → ∃ b o, A = some ⟨b, o, none⟩ ∧ w.cell? ⟨b, o + i, none⟩ = some (.int .u32 (f i))
theorem Us.keep {w w' : World} {A : Option Addr} {n : Nat} {f : Nat → Int} (h : Us w A n f) (hb : Below w.heap.size w w') : Us w' A n f := fun i hi => by
  obtain ⟨b, o, e, hc⟩ := h i hi
  exact ⟨b, o, e, kept hc hb⟩
theorem Us.cell {w : World} {b o n : Nat} {f : Nat → Int} (h : Us w (some ⟨b, o, none⟩) n f) {i : Nat} (hi : i < n) : w.cell? ⟨b, o + i, none⟩ = some (.int .u32 (f i)) := by
  obtain ⟨b', o', e, hc⟩ := h i hi
  injection e with e
  injection e with e1 e2
  subst e1 e2
  exact hc
theorem Us.head {w : World} {A : Option Addr} {n : Nat} {f : Nat → Int} (h : Us w A n f) {i : Nat} (hi : i < n) : ∃ b o, A = some ⟨b, o, none⟩ := by
  obtain ⟨b, o, e, _⟩ := h i hi
  exact ⟨b, o, e⟩
theorem Us.of_row {w : World} {b n : Nat} {f : Nat → Int} (h : OwnU w b n f) : Us w (some ⟨b, 0, none⟩) n f := fun i hi => ⟨b, 0, rfl, by rw [Nat.zero_add]; exact h.cell hi⟩
theorem Us.congr {w : World} {A : Option Addr} {n : Nat} {f g : Nat → Int} (h : Us w A n f) (e : ∀ i, i < n → f i = g i) : Us w A n g := fun i hi => by
  obtain ⟨b, o, e1, hc⟩ := h i hi
  exact ⟨b, o, e1, by rw [← e i hi]; exact hc⟩
theorem us_drewN {w : World} {A : Option Addr} {n : Nat} {f : Nat → Int} {m : Nat} (h : Us w A n f) : Us (w.drewN m) A n f := h.keep (below_drewN (Below.refl _ _) m)
theorem us_drew {w : World} {A : Option Addr} {n : Nat} {f : Nat → Int} (h : Us w A n f) : Us w.drew A n f := h
theorem Us.set {w : World} {b o n : Nat} {f : Nat → Int} (h : Us w (some ⟨b, o, none⟩) n f) {i : Nat} (hi : i < n) (v : Int) : Us (w.setCell ⟨b, o + i, none⟩ (.int .u32 v)) (some ⟨b, o, none⟩) n (upd f i v) := fun j hj => by
  refine ⟨b, o, rfl, ?_⟩
  unfold upd
  by_cases e : j = i
  · subst e
    rw [if_pos rfl]
    exact World.cell?_setCell_same _ _ _ (h.cell hj)
  · rw [if_neg e, World.cell?_setCell_other _ _ _ _ (by simp only [ne_eq, Addr.mk.injEq, not_and]; omega)]
    exact h.cell hj
theorem Us.set0 {w : World} {b n : Nat} {f : Nat → Int} (h : Us w (some ⟨b, 0, none⟩) n f) {i : Nat} (hi : i < n) (v : Int) : Us (w.setCell ⟨b, i, none⟩ (.int .u32 v)) (some ⟨b, 0, none⟩) n (upd f i v) := by
  have := h.set hi v
  rwa [Nat.zero_add] at this
theorem Us.out {w : World} {b n : Nat} {f : Nat → Int} {a : Addr} {v : Value} (h : Us w (some ⟨b, 0, none⟩) n f) (ha : a.block ≠ b) : Us (w.setCell a v) (some ⟨b, 0, none⟩) n f := fun j hj => by
  refine ⟨b, 0, rfl, ?_⟩
  rw [World.cell?_setCell_other _ _ _ _ (by intro e; apply ha; rw [e])]
  exact h.cell hj
theorem bset {n : Nat} {w V : World} {a : Addr} {v : Value} (h : Below n w V) (ha : n ≤ a.block) : Below n w (V.setCell a v) := h.setCell ha v
theorem keptn {n : Nat} {w w' : World} {a : Addr} {v : Value} (hc : w.cell? a = some v) (h : Below n w w') (hl : a.block < n) : w'.cell? a = some v := by rw [h.cell (p := a) hl]; exact hc
theorem same_some {w : World} {a : Addr} {v : Value} (h : (w.cell? a).isSome = true) : (w.setCell a v).cell? a = some v := by
  obtain ⟨o, ho⟩ := Option.isSome_iff_exists.1 h
  exact World.cell?_setCell_same _ _ _ ho
/-- The old address, or one that lies behind all. -/
def Anew (U : Option Addr) (H : Nat) (U' : Option Addr) : Prop := U' = U ∨ ∃ G, U' = some ⟨G, 0, none⟩ ∧ H ≤ G
/-- What Step leaves. -/
def RGo (r' : RT) (f' : Nat → Int) (U : Option Addr) (w : World) (e : Ending) (w' : World) : Prop := ∃ U' d, e = .returned (.tuple #[rV r', .slice U' 4 d]) ∧ Us w' U' 4 f' ∧ Below w.heap.size w w' ∧ Anew U w.heap.size U'
/-- Seven cells of a block. -/
def Box7 (w : World) (b : Nat) (r : RT) : Prop := w.cell? ⟨b, 0, none⟩ = some (.int .i64 r.a) ∧ w.cell? ⟨b, 1, none⟩ = some (.int .i64 r.c) ∧ w.cell? ⟨b, 2, none⟩ = some (.int .i64 r.left) ∧ w.cell? ⟨b, 3, none⟩ = some (.int .i64 r.next) ∧ w.cell? ⟨b, 4, none⟩ = some (.int .u32 r.tk) ∧ w.cell? ⟨b, 5, none⟩ = some (.int .u32 r.v) ∧ w.cell? ⟨b, 6, none⟩ = some (.bool r.done)
def rZ : RT := ⟨0, 0, 0, 0, 0, 0, false⟩
/-- The world in which Step works: its taker, its result. -/
noncomputable def WS (w : World) (r : RT) : World := (w.alloc (.cells #[.int .i64 r.a, .int .i64 r.c, .int .i64 r.left, .int .i64 r.next, .int .u32 r.tk, .int .u32 r.v, .bool r.done] 40)).alloc (.cells #[.int .i64 0, .int .i64 0, .int .i64 0, .int .i64 0, .int .u32 0, .int .u32 0, .bool false] 40)
theorem ws_facts (w : World) (r : RT) : Box7 (WS w r) w.heap.size r ∧ Box7 (WS w r) (w.heap.size + 1) rZ ∧ (∀ j, (WS w r).frozen? ⟨w.heap.size, j, none⟩ = false) ∧ (∀ j, (WS w r).frozen? ⟨w.heap.size + 1, j, none⟩ = false) ∧ Below w.heap.size w (WS w r) ∧ (WS w r).heap.size = w.heap.size + 2 := by
  refine ⟨⟨al_cell (al_new _ _ _ 0 _ rfl rfl), al_cell (al_new _ _ _ 1 _ rfl rfl), al_cell (al_new _ _ _ 2 _ rfl rfl), al_cell (al_new _ _ _ 3 _ rfl rfl), al_cell (al_new _ _ _ 4 _ rfl rfl), al_cell (al_new _ _ _ 5 _ rfl rfl), al_cell (al_new _ _ _ 6 _ rfl rfl)⟩, ⟨al_new _ _ _ 0 _ (by simp) rfl, al_new _ _ _ 1 _ (by simp) rfl, al_new _ _ _ 2 _ (by simp) rfl, al_new _ _ _ 3 _ (by simp) rfl, al_new _ _ _ 4 _ (by simp) rfl, al_new _ _ _ 5 _ (by simp) rfl, al_new _ _ _ 6 _ (by simp) rfl⟩, fun j => ?_, fun j => ?_, ?_, ?_⟩
  · unfold WS; rw [frozen_old _ _ _ (by simp)]; exact frozen_at _ _ _ j _ rfl
  · exact frozen_at _ _ _ j _ (by simp)
  · exact ((Below.refl _ _).alloc (Nat.le_refl _) _).alloc (by simp) _
  · simp [WS]
/-- The words in a row of their own, behind the copy. -/
theorem words_own {w : World} {base : Nat} {v : Value} {f : Nat → Int} (h : w.ownsRow base 23 1 v 4 ((List.range 4).map fun i => .int .u32 (f i))) : ∃ G cap, v = .slice (some ⟨G, 0, none⟩) 4 cap ∧ base ≤ G ∧ G < w.heap.size ∧ Us w (some ⟨G, 0, none⟩) 4 f ∧ ∀ j, w.frozen? ⟨G, j, none⟩ = false := by
  rcases h.2 with ⟨_, h0⟩ | ⟨g, cap, cur, rfl, hg, hr, _, _, _, _⟩
  · omega
  · have hc : ∀ i, i < 4 → w.cell? ⟨g, 0 + i, none⟩ = some (.int .u32 (f i)) := fun i hi => by
      rw [Nat.zero_add, World.ownsRow.cellAt h i (by omega), List.getElem?_map, List.getElem?_range hi]
      rfl
    exact ⟨g, cap, rfl, hg, by have := cell_lt (hc 0 (by omega)); exact this, fun i hi => ⟨g, 0, rfl, hc i hi⟩, fun j => World.ownsRow.frozenAt h j⟩
theorem info23' : (Tryd.prog.info? 23).map (fun i => (i.zero, i.size, i.bytes)) = some (some (.int .u32 0), 1, 4) := by kernel_rfl
/-- The append of the words to an empty list. -/
theorem wpList_append_words {ops : Array Oper} {rest : List Oper} {o : Oper} {a : Act} {Q : Exit → Act → World → Prop} (hgd : o.guard = none) (s x : Operand)
    (ho : o.op = .call { callee := .builtin .append, args := #[s, x], argTypes := #[32, 32] }) {w : World} {cp : Nat} {U : Option Addr} {f : Nat → Int} (hU : Us w U 4 f) (H : Nat) (hH : w.heap.size = H)
    (hs : a.eval s = .slice (some ⟨H, 0, none⟩) 0 0) (hx : a.eval x = .slice U 4 cp)
    (hQ : ∀ G cap' w2, H ≤ G → G < w2.heap.size → Us w2 (some ⟨G, 0, none⟩) 4 f → (∀ j, w2.frozen? ⟨G, j, none⟩ = false) → Below w.heap.size w w2 → wpList Tryd.prog ops Q rest (a.put o.dst (.slice (some ⟨G, 0, none⟩) 4 cap')) w2) :
    wpList Tryd.prog ops Q (o :: rest) a (w.alloc (.cells #[] 23)) := by
  subst hH
  obtain ⟨i0, hi, hz0, hz1, hz2⟩ := info_parts info23'
  have hA : Below w.heap.size w (w.alloc (.cells #[] 23)) := (Below.refl _ _).alloc (Nat.le_refl _) _
  have hown : (w.alloc (.cells #[] 23)).ownsRow w.heap.size 23 1 (.slice (some ⟨w.heap.size, 0, none⟩) 0 0) 0 [] := World.ownsRow_lit w #[] 0 (Nat.le_refl _) (by decide) rfl
  obtain ⟨b, o', rfl⟩ := hU.head (i := 0) (by omega)
  refine wpList_append_own _ hgd s x 32 ho w.heap.size 23 i0 (.int .u32 0) 1 4 Tryd.underlying32 hi hz0 hz1 hz2 rfl (by decide) _ 0 [] hs hown ⟨b, o', none⟩ 4 cp ((List.range 4).map fun i => .int .u32 (f i)) hx (by simp) ?_ ?_ (by unfold maxLen; omega) (by omega) (by simp) ?_
  · intro j u hu
    have hj : j < 4 := by have := (List.getElem?_eq_some_iff.1 hu).1; simpa using this
    rw [List.getElem?_map, List.getElem?_range hj] at hu
    injection hu with hu
    subst hu
    rw [add_off]
    exact kept (hU.cell hj) hA
  · intro u hu
    obtain ⟨i, _, rfl⟩ := List.mem_map.1 hu
    rfl
  · intro v' w' hown' hgrow _
    have hO : w'.ownsRow w.heap.size 23 1 v' 4 ((List.range 4).map fun i => .int .u32 (f i)) := by simpa using hown'
    obtain ⟨G, cap', rfl, h1, h2, h3, h4⟩ := words_own hO
    exact hQ G cap' w' h1 h2 h3 h4 (hA.grown hgrow (by simp) (fun k hk => (World.ownsRow.lt hown k hk).1))
theorem there_any (U : Option Addr) (cp : Nat) (k : Int) (w : World) : Calls Tryd.prog 31 #[.slice U 4 cp, .int .i64 k] w fun e w' => e = .returned (.bool (inM 4 k)) ∧ w = w' := by
  by_cases h0 : 0 ≤ k
  · by_cases h1 : k < 4
    · have e : inM 4 k = true := inM_of ⟨h0, h1⟩
      rw [e]
      go_enter Tryd.func31, Tryd.ntmps31
      go_wp2_with fail
      go_ret
      exact ⟨rfl, rfl⟩
    · have e : inM 4 k = false := inM_ne (by omega)
      rw [e]
      go_enter Tryd.func31, Tryd.ntmps31
      go_wp2_with fail
      go_ret
      exact ⟨rfl, rfl⟩
  · have e : inM 4 k = false := inM_ne (by omega)
    rw [e]
    go_enter Tryd.func31, Tryd.ntmps31
    go_wp2_with fail
    go_ret
    exact ⟨rfl, rfl⟩
theorem tail_us {V : World} {G H n : Nat} {f : Nat → Int} (h : Us V (some ⟨G, 0, none⟩) n f) (h2 : H ≠ G) (u0 u1 u2 u3 u4 u5 u6 : Value) :
    Us (((((((V.setCell ⟨H, 0, none⟩ u0).setCell ⟨H, 1, none⟩ u1).setCell ⟨H, 2, none⟩ u2).setCell ⟨H, 3, none⟩ u3).setCell ⟨H, 4, none⟩ u4).setCell ⟨H, 5, none⟩ u5).setCell ⟨H, 6, none⟩ u6) (some ⟨G, 0, none⟩) n f :=
  Us.out (Us.out (Us.out (Us.out (Us.out (Us.out (Us.out h h2) h2) h2) h2) h2) h2) h2
theorem tail_be {w V : World} {H n : Nat} (h : Below n w V) (h2 : n ≤ H) (u0 u1 u2 u3 u4 u5 u6 : Value) :
    Below n w (((((((V.setCell ⟨H, 0, none⟩ u0).setCell ⟨H, 1, none⟩ u1).setCell ⟨H, 2, none⟩ u2).setCell ⟨H, 3, none⟩ u3).setCell ⟨H, 4, none⟩ u4).setCell ⟨H, 5, none⟩ u5).setCell ⟨H, 6, none⟩ u6) :=
  bset (bset (bset (bset (bset (bset (bset h h2) h2) h2) h2) h2) h2) h2
/-- Nothing is left, or the word is missing. -/
def rEnd (r : RT) : RT := { r with next := 1, done := true }

set_option maxHeartbeats 4000000 in
set_option maxRecDepth 100000 in
theorem rstep_zero (a c left tk v : Int) (done : Bool) (U : Option Addr) (cp : Nat) (f : Nat → Int) (w : World) (hU : Us w U 4 f) (hl : left = 0) :
    Calls Tryd.prog 14 #[rV ⟨a, c, left, 1, tk, v, done⟩, .slice U 4 cp] w fun e w' => RGo (rEnd ⟨a, c, left, 1, tk, v, done⟩) f U w e w' := by
  have HU := Lib.hid hU
  subst hl
  simp only [rV]
  clear hU
  go_enter Tryd.func14, Tryd.ntmps14
  go_wp2_with fail
  refine bodyPost_ret (v := .tuple #[.agg #[.int .i64 a, .int .i64 c, .int .i64 0, .int .i64 1, .int .u32 tk, .int .u32 v, .bool true], .slice U 4 cp]) (by simp [results, Tryd.results14, go_sem]) rfl ⟨U, cp, rfl, ?_, ?_, .inl rfl⟩
  · exact HU.out.keep (((Below.refl _ _).alloc (Nat.le_refl _) _).alloc (by simp) _)
  · exact ((Below.refl _ _).alloc (Nat.le_refl _) _).alloc (by simp) _

set_option maxHeartbeats 4000000 in
set_option maxRecDepth 100000 in
theorem rstep_miss0 (a c left tk v : Int) (done : Bool) (U : Option Addr) (cp : Nat) (f : Nat → Int) (w : World) (hU : Us w U 4 f) (hl : ¬ left = 0) (ha : -1000 ≤ a ∧ a ≤ 1000) (hi : ¬ (0 ≤ a ∧ a < 4)) :
    Calls Tryd.prog 14 #[rV ⟨a, c, left, 1, tk, v, done⟩, .slice U 4 cp] w fun e w' => RGo (rEnd ⟨a, c, left, 1, tk, v, done⟩) f U w e w' := by
  have HU := Lib.hid hU
  have HTh := Lib.hid (fun W => there_any U cp a W)
  rw [inM_ne hi] at HTh
  obtain ⟨ha1, ha2⟩ := ha
  clear hi
  simp only [rV]
  clear hU
  go_enter Tryd.func14, Tryd.ntmps14
  go_wp2_with fail
  with_reducible refine (HTh.out _).mono ?_
  rintro e w1 ⟨rfl, rfl⟩
  go_wp2_with fail
  refine bodyPost_ret (v := .tuple #[.agg #[.int .i64 a, .int .i64 c, .int .i64 left, .int .i64 1, .int .u32 tk, .int .u32 v, .bool true], .slice U 4 cp]) (by simp [results, Tryd.results14, go_sem]) rfl ⟨U, cp, rfl, ?_, ?_, .inl rfl⟩
  · exact HU.out.keep (((Below.refl _ _).alloc (Nat.le_refl _) _).alloc (by simp) _)
  · exact ((Below.refl _ _).alloc (Nat.le_refl _) _).alloc (by simp) _

set_option maxHeartbeats 4000000 in
set_option maxRecDepth 100000 in
theorem rstep_miss1 (a c left tk v : Int) (done : Bool) (U : Option Addr) (cp : Nat) (f : Nat → Int) (w : World) (hU : Us w U 4 f) (hl : ¬ left = 0) (ha : -1000 ≤ a ∧ a ≤ 1000) (hi : ¬ (0 ≤ (a + 1) ∧ (a + 1) < 4)) :
    Calls Tryd.prog 14 #[rV ⟨a, c, left, 2, tk, v, done⟩, .slice U 4 cp] w fun e w' => RGo (rEnd ⟨a, c, left, 2, tk, v, done⟩) f U w e w' := by
  have HU := Lib.hid hU
  have HTh := Lib.hid (fun W => there_any U cp (a + 1) W)
  rw [inM_ne hi] at HTh
  obtain ⟨ha1, ha2⟩ := ha
  clear hi
  simp only [rV]
  clear hU
  go_enter Tryd.func14, Tryd.ntmps14
  go_wp2_with fail
  with_reducible refine (HTh.out _).mono ?_
  rintro e w1 ⟨rfl, rfl⟩
  go_wp2_with fail
  refine bodyPost_ret (v := .tuple #[.agg #[.int .i64 a, .int .i64 c, .int .i64 left, .int .i64 1, .int .u32 tk, .int .u32 v, .bool true], .slice U 4 cp]) (by simp [results, Tryd.results14, go_sem]) rfl ⟨U, cp, rfl, ?_, ?_, .inl rfl⟩
  · exact HU.out.keep (((Below.refl _ _).alloc (Nat.le_refl _) _).alloc (by simp) _)
  · exact ((Below.refl _ _).alloc (Nat.le_refl _) _).alloc (by simp) _

set_option maxHeartbeats 4000000 in
set_option maxRecDepth 100000 in
theorem rstep_miss2 (a c left tk v : Int) (done : Bool) (U : Option Addr) (cp : Nat) (f : Nat → Int) (w : World) (hU : Us w U 4 f) (hl : ¬ left = 0) (ha : -1000 ≤ a ∧ a ≤ 1000) (hi : ¬ (0 ≤ c ∧ c < 4)) :
    Calls Tryd.prog 14 #[rV ⟨a, c, left, 3, tk, v, done⟩, .slice U 4 cp] w fun e w' => RGo (rEnd ⟨a, c, left, 3, tk, v, done⟩) f U w e w' := by
  have HU := Lib.hid hU
  have HTh := Lib.hid (fun W => there_any U cp c W)
  rw [inM_ne hi] at HTh
  obtain ⟨ha1, ha2⟩ := ha
  clear hi
  simp only [rV]
  clear hU
  go_enter Tryd.func14, Tryd.ntmps14
  go_wp2_with fail
  with_reducible refine (HTh.out _).mono ?_
  rintro e w1 ⟨rfl, rfl⟩
  go_wp2_with fail
  refine bodyPost_ret (v := .tuple #[.agg #[.int .i64 a, .int .i64 c, .int .i64 left, .int .i64 1, .int .u32 tk, .int .u32 v, .bool true], .slice U 4 cp]) (by simp [results, Tryd.results14, go_sem]) rfl ⟨U, cp, rfl, ?_, ?_, .inl rfl⟩
  · exact HU.out.keep (((Below.refl _ _).alloc (Nat.le_refl _) _).alloc (by simp) _)
  · exact ((Below.refl _ _).alloc (Nat.le_refl _) _).alloc (by simp) _

set_option maxHeartbeats 4000000 in
set_option maxRecDepth 100000 in
theorem rstep_miss3 (a c left tk v : Int) (done : Bool) (U : Option Addr) (cp : Nat) (f : Nat → Int) (w : World) (hU : Us w U 4 f) (hl : ¬ left = 0) (ha : -1000 ≤ a ∧ a ≤ 1000) (hi : ¬ (0 ≤ c ∧ c < 4)) :
    Calls Tryd.prog 14 #[rV ⟨a, c, left, 4, tk, v, done⟩, .slice U 4 cp] w fun e w' => RGo (rEnd ⟨a, c, left, 4, tk, v, done⟩) f U w e w' := by
  have HU := Lib.hid hU
  have HTh := Lib.hid (fun W => there_any U cp c W)
  rw [inM_ne hi] at HTh
  obtain ⟨ha1, ha2⟩ := ha
  clear hi
  simp only [rV]
  clear hU
  go_enter Tryd.func14, Tryd.ntmps14
  go_wp2_with fail
  with_reducible refine (HTh.out _).mono ?_
  rintro e w1 ⟨rfl, rfl⟩
  go_wp2_with fail
  refine bodyPost_ret (v := .tuple #[.agg #[.int .i64 a, .int .i64 c, .int .i64 left, .int .i64 1, .int .u32 tk, .int .u32 v, .bool true], .slice U 4 cp]) (by simp [results, Tryd.results14, go_sem]) rfl ⟨U, cp, rfl, ?_, ?_, .inl rfl⟩
  · exact HU.out.keep (((Below.refl _ _).alloc (Nat.le_refl _) _).alloc (by simp) _)
  · exact ((Below.refl _ _).alloc (Nat.le_refl _) _).alloc (by simp) _

set_option maxHeartbeats 4000000 in
set_option maxRecDepth 100000 in
theorem rstep_miss4 (a c left tk v : Int) (done : Bool) (U : Option Addr) (cp : Nat) (f : Nat → Int) (w : World) (hU : Us w U 4 f) (hl : ¬ left = 0) (ha : -1000 ≤ a ∧ a ≤ 1000) (hi : ¬ (0 ≤ (a + 1) ∧ (a + 1) < 4)) :
    Calls Tryd.prog 14 #[rV ⟨a, c, left, 5, tk, v, done⟩, .slice U 4 cp] w fun e w' => RGo (rEnd ⟨a, c, left, 5, tk, v, done⟩) f U w e w' := by
  have HU := Lib.hid hU
  have HTh := Lib.hid (fun W => there_any U cp (a + 1) W)
  rw [inM_ne hi] at HTh
  obtain ⟨ha1, ha2⟩ := ha
  clear hi
  simp only [rV]
  clear hU
  go_enter Tryd.func14, Tryd.ntmps14
  go_wp2_with fail
  with_reducible refine (HTh.out _).mono ?_
  rintro e w1 ⟨rfl, rfl⟩
  go_wp2_with fail
  refine bodyPost_ret (v := .tuple #[.agg #[.int .i64 a, .int .i64 c, .int .i64 left, .int .i64 1, .int .u32 tk, .int .u32 v, .bool true], .slice U 4 cp]) (by simp [results, Tryd.results14, go_sem]) rfl ⟨U, cp, rfl, ?_, ?_, .inl rfl⟩
  · exact HU.out.keep (((Below.refl _ _).alloc (Nat.le_refl _) _).alloc (by simp) _)
  · exact ((Below.refl _ _).alloc (Nat.le_refl _) _).alloc (by simp) _

set_option maxHeartbeats 8000000 in
set_option maxRecDepth 100000 in
theorem rstep_go0 (a c left tk v : Int) (done : Bool) (i : Nat) (U : Option Addr) (cp : Nat) (f : Nat → Int) (w : World) (hU : Us w U 4 f) (hl : 1 ≤ left) (hl2 : left ≤ 1000) (ha : -1000 ≤ a ∧ a ≤ 1000) (hw : a = i) (hi : i < 4) :
    Calls Tryd.prog 14 #[rV ⟨a, c, left, 1, tk, v, done⟩, .slice U 4 cp] w fun e w' => RGo { (⟨a, c, left, 1, tk, v, done⟩ : RT) with tk := f i, next := 2 } (upd f i (inc (f i))) U w e w' := by
  have HF := ws_facts w ⟨a, c, left, 1, tk, v, done⟩
  simp only [WS, Box7, rZ] at HF
  have HFH := Lib.hid HF
  have HUW := Lib.hid (hU.keep HF.2.2.2.2.1)
  have HTh := Lib.hid (fun W => there_any U cp (i : Int) W)
  rw [inM_of (n := 4) (a := (i : Int)) ⟨by omega, by omega⟩] at HTh
  have hl0 : ¬ left = 0 := by omega
  have hi0 : (0 : Int) ≤ (i : Int) := by omega
  have hi1 : (i : Int) < 4 := by omega
  simp only [rV]
  subst hw
  clear hU HF
  go_enter Tryd.func14, Tryd.ntmps14
  go_wp2_with fail
  with_reducible refine (HTh.out _).mono ?_
  rintro e w1 ⟨rfl, rfl⟩
  go_wp2_with (at_builtin; refine wpList_append_words rfl _ _ rfl HUW.out (w.heap.size + 2) (by simp) (by rfl) (by rfl) ?_)
  intro G cap' w2 hG1 hG2 hUs hFz hB2
  have HUS := Lib.hid hUs
  have hx := hUs.cell hi
  rw [Nat.zero_add] at hx
  have hfx := hFz i
  obtain ⟨⟨c0, c1, c2, c3, c4, c5, c6⟩, ⟨z0, z1, z2, z3, z4, z5, z6⟩, f0, f1, hB0, hs0⟩ := HFH.out
  have k0 := keptn c0 hB2 (by dsimp only; omega)
  have k1 := keptn c1 hB2 (by dsimp only; omega)
  have k2 := keptn c2 hB2 (by dsimp only; omega)
  have k3 := keptn c3 hB2 (by dsimp only; omega)
  have k4 := keptn c4 hB2 (by dsimp only; omega)
  have k5 := keptn c5 hB2 (by dsimp only; omega)
  have k6 := keptn c6 hB2 (by dsimp only; omega)
  have m0 := keptn z0 hB2 (by dsimp only; omega)
  have m1 := keptn z1 hB2 (by dsimp only; omega)
  have m2 := keptn z2 hB2 (by dsimp only; omega)
  have m3 := keptn z3 hB2 (by dsimp only; omega)
  have m4 := keptn z4 hB2 (by dsimp only; omega)
  have m5 := keptn z5 hB2 (by dsimp only; omega)
  have m6 := keptn z6 hB2 (by dsimp only; omega)
  have q2 : w2.frozen? ⟨w.heap.size, 2, none⟩ = false := by rw [hB2.frozen (p := ⟨w.heap.size, 2, none⟩) (by dsimp only; omega)]; exact f0 2
  have q3 : w2.frozen? ⟨w.heap.size, 3, none⟩ = false := by rw [hB2.frozen (p := ⟨w.heap.size, 3, none⟩) (by dsimp only; omega)]; exact f0 3
  have q4 : w2.frozen? ⟨w.heap.size, 4, none⟩ = false := by rw [hB2.frozen (p := ⟨w.heap.size, 4, none⟩) (by dsimp only; omega)]; exact f0 4
  have q5 : w2.frozen? ⟨w.heap.size, 5, none⟩ = false := by rw [hB2.frozen (p := ⟨w.heap.size, 5, none⟩) (by dsimp only; omega)]; exact f0 5
  have q6 : w2.frozen? ⟨w.heap.size, 6, none⟩ = false := by rw [hB2.frozen (p := ⟨w.heap.size, 6, none⟩) (by dsimp only; omega)]; exact f0 6
  have y0 : w2.frozen? ⟨w.heap.size + 1, 0, none⟩ = false := by rw [hB2.frozen (p := ⟨w.heap.size + 1, 0, none⟩) (by dsimp only; omega)]; exact f1 0
  have y1 : w2.frozen? ⟨w.heap.size + 1, 1, none⟩ = false := by rw [hB2.frozen (p := ⟨w.heap.size + 1, 1, none⟩) (by dsimp only; omega)]; exact f1 1
  have y2 : w2.frozen? ⟨w.heap.size + 1, 2, none⟩ = false := by rw [hB2.frozen (p := ⟨w.heap.size + 1, 2, none⟩) (by dsimp only; omega)]; exact f1 2
  have y3 : w2.frozen? ⟨w.heap.size + 1, 3, none⟩ = false := by rw [hB2.frozen (p := ⟨w.heap.size + 1, 3, none⟩) (by dsimp only; omega)]; exact f1 3
  have y4 : w2.frozen? ⟨w.heap.size + 1, 4, none⟩ = false := by rw [hB2.frozen (p := ⟨w.heap.size + 1, 4, none⟩) (by dsimp only; omega)]; exact f1 4
  have y5 : w2.frozen? ⟨w.heap.size + 1, 5, none⟩ = false := by rw [hB2.frozen (p := ⟨w.heap.size + 1, 5, none⟩) (by dsimp only; omega)]; exact f1 5
  have y6 : w2.frozen? ⟨w.heap.size + 1, 6, none⟩ = false := by rw [hB2.frozen (p := ⟨w.heap.size + 1, 6, none⟩) (by dsimp only; omega)]; exact f1 6
  have HBW := Lib.hid (hB0.trans (hB2.mono (by omega)))
  have hG0 : w.heap.size ≠ G := by omega
  have hG3 : G ≠ w.heap.size := by omega
  have hG4 : w.heap.size + 1 ≠ G := by omega
  have hG5 : G ≠ w.heap.size + 1 := by omega
  clear hUs hFz hB2 f0 f1 hB0 hs0 c0 c1 c2 c3 c4 c5 c6 z0 z1 z2 z3 z4 z5 z6
  obtain ⟨x, hxx⟩ : ∃ x, x = f i := ⟨_, rfl⟩
  rw [← hxx] at hx
  have HX := Lib.hid hxx
  clear hxx
  go_wp2_with fail
  refine bodyPost_ret (v := .tuple #[.agg #[.int .i64 ((i : Int)), .int .i64 (c), .int .i64 left, .int .i64 2, .int .u32 x, .int .u32 v, .bool done], .slice (some ⟨G, 0, none⟩) 4 cap']) (by simp [results, Tryd.results14, go_sem, same_some, m0, m1, m2, m3, m4, m5, m6]) rfl ⟨some ⟨G, 0, none⟩, cap', by simp [rV, HX.out], ?_, ?_, .inr ⟨G, rfl, by omega⟩⟩
  · rw [← HX.out]; exact tail_us (Us.out (a := ⟨w.heap.size, 3, none⟩) (Us.set0 (Us.out (a := ⟨w.heap.size, 4, none⟩) HUS.out hG0) hi _) hG0) hG4 _ _ _ _ _ _ _
  · exact tail_be (bset (bset (bset HBW.out (Nat.le_refl _)) (show w.heap.size ≤ G by omega)) (Nat.le_refl _)) (by omega) _ _ _ _ _ _ _

set_option maxHeartbeats 8000000 in
set_option maxRecDepth 100000 in
theorem rstep_go1 (a c left tk v : Int) (done : Bool) (i : Nat) (U : Option Addr) (cp : Nat) (f : Nat → Int) (w : World) (hU : Us w U 4 f) (hl : 1 ≤ left) (hl2 : left ≤ 1000) (ha : -1000 ≤ a ∧ a ≤ 1000) (hw : (a + 1) = i) (hi : i < 4) (n2 : Int) (hn2 : n2 = if f i = tk then 3 else 2) :
    Calls Tryd.prog 14 #[rV ⟨a, c, left, 2, tk, v, done⟩, .slice U 4 cp] w fun e w' => RGo { (⟨a, c, left, 2, tk, v, done⟩ : RT) with next := n2 } (f) U w e w' := by
  have HF := ws_facts w ⟨a, c, left, 2, tk, v, done⟩
  simp only [WS, Box7, rZ] at HF
  have HFH := Lib.hid HF
  have HUW := Lib.hid (hU.keep HF.2.2.2.2.1)
  have HTh := Lib.hid (fun W => there_any U cp (i : Int) W)
  rw [inM_of (n := 4) (a := (i : Int)) ⟨by omega, by omega⟩] at HTh
  have hl0 : ¬ left = 0 := by omega
  have hi0 : (0 : Int) ≤ (i : Int) := by omega
  have hi1 : (i : Int) < 4 := by omega
  simp only [rV]
  have HN2 := Lib.hid hn2
  clear hn2
  obtain rfl : a = (i : Int) - 1 := by omega
  have hai : (i : Int) - 1 + 1 = i := by omega
  clear hU HF
  go_enter Tryd.func14, Tryd.ntmps14
  go_wp2_with fail
  with_reducible refine (HTh.out _).mono ?_
  rintro e w1 ⟨rfl, rfl⟩
  go_wp2_with (at_builtin; refine wpList_append_words rfl _ _ rfl HUW.out (w.heap.size + 2) (by simp) (by rfl) (by rfl) ?_)
  intro G cap' w2 hG1 hG2 hUs hFz hB2
  have HUS := Lib.hid hUs
  have hx := hUs.cell hi
  rw [Nat.zero_add] at hx
  have hfx := hFz i
  obtain ⟨⟨c0, c1, c2, c3, c4, c5, c6⟩, ⟨z0, z1, z2, z3, z4, z5, z6⟩, f0, f1, hB0, hs0⟩ := HFH.out
  have k0 := keptn c0 hB2 (by dsimp only; omega)
  have k1 := keptn c1 hB2 (by dsimp only; omega)
  have k2 := keptn c2 hB2 (by dsimp only; omega)
  have k3 := keptn c3 hB2 (by dsimp only; omega)
  have k4 := keptn c4 hB2 (by dsimp only; omega)
  have k5 := keptn c5 hB2 (by dsimp only; omega)
  have k6 := keptn c6 hB2 (by dsimp only; omega)
  have m0 := keptn z0 hB2 (by dsimp only; omega)
  have m1 := keptn z1 hB2 (by dsimp only; omega)
  have m2 := keptn z2 hB2 (by dsimp only; omega)
  have m3 := keptn z3 hB2 (by dsimp only; omega)
  have m4 := keptn z4 hB2 (by dsimp only; omega)
  have m5 := keptn z5 hB2 (by dsimp only; omega)
  have m6 := keptn z6 hB2 (by dsimp only; omega)
  have q2 : w2.frozen? ⟨w.heap.size, 2, none⟩ = false := by rw [hB2.frozen (p := ⟨w.heap.size, 2, none⟩) (by dsimp only; omega)]; exact f0 2
  have q3 : w2.frozen? ⟨w.heap.size, 3, none⟩ = false := by rw [hB2.frozen (p := ⟨w.heap.size, 3, none⟩) (by dsimp only; omega)]; exact f0 3
  have q4 : w2.frozen? ⟨w.heap.size, 4, none⟩ = false := by rw [hB2.frozen (p := ⟨w.heap.size, 4, none⟩) (by dsimp only; omega)]; exact f0 4
  have q5 : w2.frozen? ⟨w.heap.size, 5, none⟩ = false := by rw [hB2.frozen (p := ⟨w.heap.size, 5, none⟩) (by dsimp only; omega)]; exact f0 5
  have q6 : w2.frozen? ⟨w.heap.size, 6, none⟩ = false := by rw [hB2.frozen (p := ⟨w.heap.size, 6, none⟩) (by dsimp only; omega)]; exact f0 6
  have y0 : w2.frozen? ⟨w.heap.size + 1, 0, none⟩ = false := by rw [hB2.frozen (p := ⟨w.heap.size + 1, 0, none⟩) (by dsimp only; omega)]; exact f1 0
  have y1 : w2.frozen? ⟨w.heap.size + 1, 1, none⟩ = false := by rw [hB2.frozen (p := ⟨w.heap.size + 1, 1, none⟩) (by dsimp only; omega)]; exact f1 1
  have y2 : w2.frozen? ⟨w.heap.size + 1, 2, none⟩ = false := by rw [hB2.frozen (p := ⟨w.heap.size + 1, 2, none⟩) (by dsimp only; omega)]; exact f1 2
  have y3 : w2.frozen? ⟨w.heap.size + 1, 3, none⟩ = false := by rw [hB2.frozen (p := ⟨w.heap.size + 1, 3, none⟩) (by dsimp only; omega)]; exact f1 3
  have y4 : w2.frozen? ⟨w.heap.size + 1, 4, none⟩ = false := by rw [hB2.frozen (p := ⟨w.heap.size + 1, 4, none⟩) (by dsimp only; omega)]; exact f1 4
  have y5 : w2.frozen? ⟨w.heap.size + 1, 5, none⟩ = false := by rw [hB2.frozen (p := ⟨w.heap.size + 1, 5, none⟩) (by dsimp only; omega)]; exact f1 5
  have y6 : w2.frozen? ⟨w.heap.size + 1, 6, none⟩ = false := by rw [hB2.frozen (p := ⟨w.heap.size + 1, 6, none⟩) (by dsimp only; omega)]; exact f1 6
  have HBW := Lib.hid (hB0.trans (hB2.mono (by omega)))
  have hG0 : w.heap.size ≠ G := by omega
  have hG3 : G ≠ w.heap.size := by omega
  have hG4 : w.heap.size + 1 ≠ G := by omega
  have hG5 : G ≠ w.heap.size + 1 := by omega
  clear hUs hFz hB2 f0 f1 hB0 hs0 c0 c1 c2 c3 c4 c5 c6 z0 z1 z2 z3 z4 z5 z6
  obtain ⟨x, hxx⟩ : ∃ x, x = f i := ⟨_, rfl⟩
  rw [← hxx] at hx
  have HX := Lib.hid hxx
  clear hxx
  go_wp2_with fail
  go_quiet (fail)
  by_cases hxt : x = tk
  · subst hxt
    go_wp2_with fail
    refine bodyPost_ret (v := .tuple #[.agg #[.int .i64 ((i : Int) - 1), .int .i64 (c), .int .i64 left, .int .i64 3, .int .u32 x, .int .u32 v, .bool done], .slice (some ⟨G, 0, none⟩) 4 cap']) (by simp [results, Tryd.results14, go_sem, same_some, m0, m1, m2, m3, m4, m5, m6]) rfl ⟨some ⟨G, 0, none⟩, cap', by simp [rV, HN2.out, ← HX.out], ?_, ?_, .inr ⟨G, rfl, by omega⟩⟩
    · exact tail_us (Us.out (a := ⟨w.heap.size, 3, none⟩) (us_drewN HUS.out) hG0) hG4 _ _ _ _ _ _ _
    · exact tail_be (bset (below_drewN HBW.out _) (Nat.le_refl _)) (by omega) _ _ _ _ _ _ _
  · go_wp2_with fail
    refine bodyPost_ret (v := .tuple #[.agg #[.int .i64 ((i : Int) - 1), .int .i64 (c), .int .i64 left, .int .i64 2, .int .u32 tk, .int .u32 v, .bool done], .slice (some ⟨G, 0, none⟩) 4 cap']) (by simp [results, Tryd.results14, go_sem, same_some, m0, m1, m2, m3, m4, m5, m6]) rfl ⟨some ⟨G, 0, none⟩, cap', by simp [rV, HN2.out, ← HX.out, hxt], ?_, ?_, .inr ⟨G, rfl, by omega⟩⟩
    · exact tail_us (us_drewN HUS.out) hG4 _ _ _ _ _ _ _
    · exact tail_be (below_drewN HBW.out _) (by omega) _ _ _ _ _ _ _

set_option maxHeartbeats 8000000 in
set_option maxRecDepth 100000 in
theorem rstep_go2 (a c left tk v : Int) (done : Bool) (i : Nat) (U : Option Addr) (cp : Nat) (f : Nat → Int) (w : World) (hU : Us w U 4 f) (hl : 1 ≤ left) (hl2 : left ≤ 1000) (_ : -1000 ≤ a ∧ a ≤ 1000) (hw : c = i) (hi : i < 4) :
    Calls Tryd.prog 14 #[rV ⟨a, c, left, 3, tk, v, done⟩, .slice U 4 cp] w fun e w' => RGo { (⟨a, c, left, 3, tk, v, done⟩ : RT) with v := f i, next := 4 } (f) U w e w' := by
  have HF := ws_facts w ⟨a, c, left, 3, tk, v, done⟩
  simp only [WS, Box7, rZ] at HF
  have HFH := Lib.hid HF
  have HUW := Lib.hid (hU.keep HF.2.2.2.2.1)
  have HTh := Lib.hid (fun W => there_any U cp (i : Int) W)
  rw [inM_of (n := 4) (a := (i : Int)) ⟨by omega, by omega⟩] at HTh
  have hl0 : ¬ left = 0 := by omega
  have hi0 : (0 : Int) ≤ (i : Int) := by omega
  have hi1 : (i : Int) < 4 := by omega
  simp only [rV]
  subst hw
  clear hU HF
  go_enter Tryd.func14, Tryd.ntmps14
  go_wp2_with fail
  with_reducible refine (HTh.out _).mono ?_
  rintro e w1 ⟨rfl, rfl⟩
  go_wp2_with (at_builtin; refine wpList_append_words rfl _ _ rfl HUW.out (w.heap.size + 2) (by simp) (by rfl) (by rfl) ?_)
  intro G cap' w2 hG1 hG2 hUs hFz hB2
  have HUS := Lib.hid hUs
  have hx := hUs.cell hi
  rw [Nat.zero_add] at hx
  have hfx := hFz i
  obtain ⟨⟨c0, c1, c2, c3, c4, c5, c6⟩, ⟨z0, z1, z2, z3, z4, z5, z6⟩, f0, f1, hB0, hs0⟩ := HFH.out
  have k0 := keptn c0 hB2 (by dsimp only; omega)
  have k1 := keptn c1 hB2 (by dsimp only; omega)
  have k2 := keptn c2 hB2 (by dsimp only; omega)
  have k3 := keptn c3 hB2 (by dsimp only; omega)
  have k4 := keptn c4 hB2 (by dsimp only; omega)
  have k5 := keptn c5 hB2 (by dsimp only; omega)
  have k6 := keptn c6 hB2 (by dsimp only; omega)
  have m0 := keptn z0 hB2 (by dsimp only; omega)
  have m1 := keptn z1 hB2 (by dsimp only; omega)
  have m2 := keptn z2 hB2 (by dsimp only; omega)
  have m3 := keptn z3 hB2 (by dsimp only; omega)
  have m4 := keptn z4 hB2 (by dsimp only; omega)
  have m5 := keptn z5 hB2 (by dsimp only; omega)
  have m6 := keptn z6 hB2 (by dsimp only; omega)
  have q2 : w2.frozen? ⟨w.heap.size, 2, none⟩ = false := by rw [hB2.frozen (p := ⟨w.heap.size, 2, none⟩) (by dsimp only; omega)]; exact f0 2
  have q3 : w2.frozen? ⟨w.heap.size, 3, none⟩ = false := by rw [hB2.frozen (p := ⟨w.heap.size, 3, none⟩) (by dsimp only; omega)]; exact f0 3
  have q4 : w2.frozen? ⟨w.heap.size, 4, none⟩ = false := by rw [hB2.frozen (p := ⟨w.heap.size, 4, none⟩) (by dsimp only; omega)]; exact f0 4
  have q5 : w2.frozen? ⟨w.heap.size, 5, none⟩ = false := by rw [hB2.frozen (p := ⟨w.heap.size, 5, none⟩) (by dsimp only; omega)]; exact f0 5
  have q6 : w2.frozen? ⟨w.heap.size, 6, none⟩ = false := by rw [hB2.frozen (p := ⟨w.heap.size, 6, none⟩) (by dsimp only; omega)]; exact f0 6
  have y0 : w2.frozen? ⟨w.heap.size + 1, 0, none⟩ = false := by rw [hB2.frozen (p := ⟨w.heap.size + 1, 0, none⟩) (by dsimp only; omega)]; exact f1 0
  have y1 : w2.frozen? ⟨w.heap.size + 1, 1, none⟩ = false := by rw [hB2.frozen (p := ⟨w.heap.size + 1, 1, none⟩) (by dsimp only; omega)]; exact f1 1
  have y2 : w2.frozen? ⟨w.heap.size + 1, 2, none⟩ = false := by rw [hB2.frozen (p := ⟨w.heap.size + 1, 2, none⟩) (by dsimp only; omega)]; exact f1 2
  have y3 : w2.frozen? ⟨w.heap.size + 1, 3, none⟩ = false := by rw [hB2.frozen (p := ⟨w.heap.size + 1, 3, none⟩) (by dsimp only; omega)]; exact f1 3
  have y4 : w2.frozen? ⟨w.heap.size + 1, 4, none⟩ = false := by rw [hB2.frozen (p := ⟨w.heap.size + 1, 4, none⟩) (by dsimp only; omega)]; exact f1 4
  have y5 : w2.frozen? ⟨w.heap.size + 1, 5, none⟩ = false := by rw [hB2.frozen (p := ⟨w.heap.size + 1, 5, none⟩) (by dsimp only; omega)]; exact f1 5
  have y6 : w2.frozen? ⟨w.heap.size + 1, 6, none⟩ = false := by rw [hB2.frozen (p := ⟨w.heap.size + 1, 6, none⟩) (by dsimp only; omega)]; exact f1 6
  have HBW := Lib.hid (hB0.trans (hB2.mono (by omega)))
  have hG0 : w.heap.size ≠ G := by omega
  have hG3 : G ≠ w.heap.size := by omega
  have hG4 : w.heap.size + 1 ≠ G := by omega
  have hG5 : G ≠ w.heap.size + 1 := by omega
  clear hUs hFz hB2 f0 f1 hB0 hs0 c0 c1 c2 c3 c4 c5 c6 z0 z1 z2 z3 z4 z5 z6
  obtain ⟨x, hxx⟩ : ∃ x, x = f i := ⟨_, rfl⟩
  rw [← hxx] at hx
  have HX := Lib.hid hxx
  clear hxx
  go_wp2_with fail
  refine bodyPost_ret (v := .tuple #[.agg #[.int .i64 (a), .int .i64 ((i : Int)), .int .i64 left, .int .i64 4, .int .u32 tk, .int .u32 x, .bool done], .slice (some ⟨G, 0, none⟩) 4 cap']) (by simp [results, Tryd.results14, go_sem, same_some, m0, m1, m2, m3, m4, m5, m6]) rfl ⟨some ⟨G, 0, none⟩, cap', by simp [rV, HX.out], ?_, ?_, .inr ⟨G, rfl, by omega⟩⟩
  · exact tail_us (Us.out (a := ⟨w.heap.size, 3, none⟩) (Us.out (a := ⟨w.heap.size, 5, none⟩) HUS.out hG0) hG0) hG4 _ _ _ _ _ _ _
  · exact tail_be (bset (bset HBW.out (Nat.le_refl _)) (Nat.le_refl _)) (by omega) _ _ _ _ _ _ _

set_option maxHeartbeats 8000000 in
set_option maxRecDepth 100000 in
theorem rstep_go3 (a c left tk v : Int) (done : Bool) (i : Nat) (U : Option Addr) (cp : Nat) (f : Nat → Int) (w : World) (hU : Us w U 4 f) (hl : 1 ≤ left) (hl2 : left ≤ 1000) (_ : -1000 ≤ a ∧ a ≤ 1000) (hw : c = i) (hi : i < 4) :
    Calls Tryd.prog 14 #[rV ⟨a, c, left, 4, tk, v, done⟩, .slice U 4 cp] w fun e w' => RGo { (⟨a, c, left, 4, tk, v, done⟩ : RT) with next := 5 } (upd f i (inc v)) U w e w' := by
  have HF := ws_facts w ⟨a, c, left, 4, tk, v, done⟩
  simp only [WS, Box7, rZ] at HF
  have HFH := Lib.hid HF
  have HUW := Lib.hid (hU.keep HF.2.2.2.2.1)
  have HTh := Lib.hid (fun W => there_any U cp (i : Int) W)
  rw [inM_of (n := 4) (a := (i : Int)) ⟨by omega, by omega⟩] at HTh
  have hl0 : ¬ left = 0 := by omega
  have hi0 : (0 : Int) ≤ (i : Int) := by omega
  have hi1 : (i : Int) < 4 := by omega
  simp only [rV]
  subst hw
  clear hU HF
  go_enter Tryd.func14, Tryd.ntmps14
  go_wp2_with fail
  with_reducible refine (HTh.out _).mono ?_
  rintro e w1 ⟨rfl, rfl⟩
  go_wp2_with (at_builtin; refine wpList_append_words rfl _ _ rfl HUW.out (w.heap.size + 2) (by simp) (by rfl) (by rfl) ?_)
  intro G cap' w2 hG1 hG2 hUs hFz hB2
  have HUS := Lib.hid hUs
  have hx := hUs.cell hi
  rw [Nat.zero_add] at hx
  have hfx := hFz i
  obtain ⟨⟨c0, c1, c2, c3, c4, c5, c6⟩, ⟨z0, z1, z2, z3, z4, z5, z6⟩, f0, f1, hB0, hs0⟩ := HFH.out
  have k0 := keptn c0 hB2 (by dsimp only; omega)
  have k1 := keptn c1 hB2 (by dsimp only; omega)
  have k2 := keptn c2 hB2 (by dsimp only; omega)
  have k3 := keptn c3 hB2 (by dsimp only; omega)
  have k4 := keptn c4 hB2 (by dsimp only; omega)
  have k5 := keptn c5 hB2 (by dsimp only; omega)
  have k6 := keptn c6 hB2 (by dsimp only; omega)
  have m0 := keptn z0 hB2 (by dsimp only; omega)
  have m1 := keptn z1 hB2 (by dsimp only; omega)
  have m2 := keptn z2 hB2 (by dsimp only; omega)
  have m3 := keptn z3 hB2 (by dsimp only; omega)
  have m4 := keptn z4 hB2 (by dsimp only; omega)
  have m5 := keptn z5 hB2 (by dsimp only; omega)
  have m6 := keptn z6 hB2 (by dsimp only; omega)
  have q2 : w2.frozen? ⟨w.heap.size, 2, none⟩ = false := by rw [hB2.frozen (p := ⟨w.heap.size, 2, none⟩) (by dsimp only; omega)]; exact f0 2
  have q3 : w2.frozen? ⟨w.heap.size, 3, none⟩ = false := by rw [hB2.frozen (p := ⟨w.heap.size, 3, none⟩) (by dsimp only; omega)]; exact f0 3
  have q4 : w2.frozen? ⟨w.heap.size, 4, none⟩ = false := by rw [hB2.frozen (p := ⟨w.heap.size, 4, none⟩) (by dsimp only; omega)]; exact f0 4
  have q5 : w2.frozen? ⟨w.heap.size, 5, none⟩ = false := by rw [hB2.frozen (p := ⟨w.heap.size, 5, none⟩) (by dsimp only; omega)]; exact f0 5
  have q6 : w2.frozen? ⟨w.heap.size, 6, none⟩ = false := by rw [hB2.frozen (p := ⟨w.heap.size, 6, none⟩) (by dsimp only; omega)]; exact f0 6
  have y0 : w2.frozen? ⟨w.heap.size + 1, 0, none⟩ = false := by rw [hB2.frozen (p := ⟨w.heap.size + 1, 0, none⟩) (by dsimp only; omega)]; exact f1 0
  have y1 : w2.frozen? ⟨w.heap.size + 1, 1, none⟩ = false := by rw [hB2.frozen (p := ⟨w.heap.size + 1, 1, none⟩) (by dsimp only; omega)]; exact f1 1
  have y2 : w2.frozen? ⟨w.heap.size + 1, 2, none⟩ = false := by rw [hB2.frozen (p := ⟨w.heap.size + 1, 2, none⟩) (by dsimp only; omega)]; exact f1 2
  have y3 : w2.frozen? ⟨w.heap.size + 1, 3, none⟩ = false := by rw [hB2.frozen (p := ⟨w.heap.size + 1, 3, none⟩) (by dsimp only; omega)]; exact f1 3
  have y4 : w2.frozen? ⟨w.heap.size + 1, 4, none⟩ = false := by rw [hB2.frozen (p := ⟨w.heap.size + 1, 4, none⟩) (by dsimp only; omega)]; exact f1 4
  have y5 : w2.frozen? ⟨w.heap.size + 1, 5, none⟩ = false := by rw [hB2.frozen (p := ⟨w.heap.size + 1, 5, none⟩) (by dsimp only; omega)]; exact f1 5
  have y6 : w2.frozen? ⟨w.heap.size + 1, 6, none⟩ = false := by rw [hB2.frozen (p := ⟨w.heap.size + 1, 6, none⟩) (by dsimp only; omega)]; exact f1 6
  have HBW := Lib.hid (hB0.trans (hB2.mono (by omega)))
  have hG0 : w.heap.size ≠ G := by omega
  have hG3 : G ≠ w.heap.size := by omega
  have hG4 : w.heap.size + 1 ≠ G := by omega
  have hG5 : G ≠ w.heap.size + 1 := by omega
  clear hUs hFz hB2 f0 f1 hB0 hs0 c0 c1 c2 c3 c4 c5 c6 z0 z1 z2 z3 z4 z5 z6
  obtain ⟨x, hxx⟩ : ∃ x, x = f i := ⟨_, rfl⟩
  rw [← hxx] at hx
  have HX := Lib.hid hxx
  clear hxx
  go_wp2_with fail
  refine bodyPost_ret (v := .tuple #[.agg #[.int .i64 (a), .int .i64 ((i : Int)), .int .i64 left, .int .i64 5, .int .u32 tk, .int .u32 v, .bool done], .slice (some ⟨G, 0, none⟩) 4 cap']) (by simp [results, Tryd.results14, go_sem, same_some, m0, m1, m2, m3, m4, m5, m6]) rfl ⟨some ⟨G, 0, none⟩, cap', by simp [rV], ?_, ?_, .inr ⟨G, rfl, by omega⟩⟩
  · exact tail_us (Us.out (a := ⟨w.heap.size, 3, none⟩) (Us.set0 HUS.out hi _) hG0) hG4 _ _ _ _ _ _ _
  · exact tail_be (bset (bset HBW.out (show w.heap.size ≤ G by omega)) (Nat.le_refl _)) (by omega) _ _ _ _ _ _ _

set_option maxHeartbeats 8000000 in
set_option maxRecDepth 100000 in
theorem rstep_go4 (a c left tk v : Int) (done : Bool) (i : Nat) (U : Option Addr) (cp : Nat) (f : Nat → Int) (w : World) (hU : Us w U 4 f) (hl : 1 ≤ left) (hl2 : left ≤ 1000) (ha : -1000 ≤ a ∧ a ≤ 1000) (hw : (a + 1) = i) (hi : i < 4) :
    Calls Tryd.prog 14 #[rV ⟨a, c, left, 5, tk, v, done⟩, .slice U 4 cp] w fun e w' => RGo { (⟨a, c, left, 5, tk, v, done⟩ : RT) with left := left - 1, next := 1, done := decide (left = 1) } (upd f i (inc tk)) U w e w' := by
  have HF := ws_facts w ⟨a, c, left, 5, tk, v, done⟩
  simp only [WS, Box7, rZ] at HF
  have HFH := Lib.hid HF
  have HUW := Lib.hid (hU.keep HF.2.2.2.2.1)
  have HTh := Lib.hid (fun W => there_any U cp (i : Int) W)
  rw [inM_of (n := 4) (a := (i : Int)) ⟨by omega, by omega⟩] at HTh
  have hl0 : ¬ left = 0 := by omega
  have hi0 : (0 : Int) ≤ (i : Int) := by omega
  have hi1 : (i : Int) < 4 := by omega
  simp only [rV]
  obtain rfl : a = (i : Int) - 1 := by omega
  have hai : (i : Int) - 1 + 1 = i := by omega
  clear hU HF
  go_enter Tryd.func14, Tryd.ntmps14
  go_wp2_with fail
  with_reducible refine (HTh.out _).mono ?_
  rintro e w1 ⟨rfl, rfl⟩
  go_wp2_with (at_builtin; refine wpList_append_words rfl _ _ rfl HUW.out (w.heap.size + 2) (by simp) (by rfl) (by rfl) ?_)
  intro G cap' w2 hG1 hG2 hUs hFz hB2
  have HUS := Lib.hid hUs
  have hx := hUs.cell hi
  rw [Nat.zero_add] at hx
  have hfx := hFz i
  obtain ⟨⟨c0, c1, c2, c3, c4, c5, c6⟩, ⟨z0, z1, z2, z3, z4, z5, z6⟩, f0, f1, hB0, hs0⟩ := HFH.out
  have k0 := keptn c0 hB2 (by dsimp only; omega)
  have k1 := keptn c1 hB2 (by dsimp only; omega)
  have k2 := keptn c2 hB2 (by dsimp only; omega)
  have k3 := keptn c3 hB2 (by dsimp only; omega)
  have k4 := keptn c4 hB2 (by dsimp only; omega)
  have k5 := keptn c5 hB2 (by dsimp only; omega)
  have k6 := keptn c6 hB2 (by dsimp only; omega)
  have m0 := keptn z0 hB2 (by dsimp only; omega)
  have m1 := keptn z1 hB2 (by dsimp only; omega)
  have m2 := keptn z2 hB2 (by dsimp only; omega)
  have m3 := keptn z3 hB2 (by dsimp only; omega)
  have m4 := keptn z4 hB2 (by dsimp only; omega)
  have m5 := keptn z5 hB2 (by dsimp only; omega)
  have m6 := keptn z6 hB2 (by dsimp only; omega)
  have q2 : w2.frozen? ⟨w.heap.size, 2, none⟩ = false := by rw [hB2.frozen (p := ⟨w.heap.size, 2, none⟩) (by dsimp only; omega)]; exact f0 2
  have q3 : w2.frozen? ⟨w.heap.size, 3, none⟩ = false := by rw [hB2.frozen (p := ⟨w.heap.size, 3, none⟩) (by dsimp only; omega)]; exact f0 3
  have q4 : w2.frozen? ⟨w.heap.size, 4, none⟩ = false := by rw [hB2.frozen (p := ⟨w.heap.size, 4, none⟩) (by dsimp only; omega)]; exact f0 4
  have q5 : w2.frozen? ⟨w.heap.size, 5, none⟩ = false := by rw [hB2.frozen (p := ⟨w.heap.size, 5, none⟩) (by dsimp only; omega)]; exact f0 5
  have q6 : w2.frozen? ⟨w.heap.size, 6, none⟩ = false := by rw [hB2.frozen (p := ⟨w.heap.size, 6, none⟩) (by dsimp only; omega)]; exact f0 6
  have y0 : w2.frozen? ⟨w.heap.size + 1, 0, none⟩ = false := by rw [hB2.frozen (p := ⟨w.heap.size + 1, 0, none⟩) (by dsimp only; omega)]; exact f1 0
  have y1 : w2.frozen? ⟨w.heap.size + 1, 1, none⟩ = false := by rw [hB2.frozen (p := ⟨w.heap.size + 1, 1, none⟩) (by dsimp only; omega)]; exact f1 1
  have y2 : w2.frozen? ⟨w.heap.size + 1, 2, none⟩ = false := by rw [hB2.frozen (p := ⟨w.heap.size + 1, 2, none⟩) (by dsimp only; omega)]; exact f1 2
  have y3 : w2.frozen? ⟨w.heap.size + 1, 3, none⟩ = false := by rw [hB2.frozen (p := ⟨w.heap.size + 1, 3, none⟩) (by dsimp only; omega)]; exact f1 3
  have y4 : w2.frozen? ⟨w.heap.size + 1, 4, none⟩ = false := by rw [hB2.frozen (p := ⟨w.heap.size + 1, 4, none⟩) (by dsimp only; omega)]; exact f1 4
  have y5 : w2.frozen? ⟨w.heap.size + 1, 5, none⟩ = false := by rw [hB2.frozen (p := ⟨w.heap.size + 1, 5, none⟩) (by dsimp only; omega)]; exact f1 5
  have y6 : w2.frozen? ⟨w.heap.size + 1, 6, none⟩ = false := by rw [hB2.frozen (p := ⟨w.heap.size + 1, 6, none⟩) (by dsimp only; omega)]; exact f1 6
  have HBW := Lib.hid (hB0.trans (hB2.mono (by omega)))
  have hG0 : w.heap.size ≠ G := by omega
  have hG3 : G ≠ w.heap.size := by omega
  have hG4 : w.heap.size + 1 ≠ G := by omega
  have hG5 : G ≠ w.heap.size + 1 := by omega
  clear hUs hFz hB2 f0 f1 hB0 hs0 c0 c1 c2 c3 c4 c5 c6 z0 z1 z2 z3 z4 z5 z6
  obtain ⟨x, hxx⟩ : ∃ x, x = f i := ⟨_, rfl⟩
  rw [← hxx] at hx
  have HX := Lib.hid hxx
  clear hxx
  by_cases h1 : left = 1
  · subst h1
    go_wp2_with fail
    refine bodyPost_ret (v := .tuple #[.agg #[.int .i64 ((i : Int) - 1), .int .i64 (c), .int .i64 0, .int .i64 1, .int .u32 tk, .int .u32 v, .bool true], .slice (some ⟨G, 0, none⟩) 4 cap']) (by simp [results, Tryd.results14, go_sem, same_some, m0, m1, m2, m3, m4, m5, m6]) rfl ⟨some ⟨G, 0, none⟩, cap', by simp [rV], ?_, ?_, .inr ⟨G, rfl, by omega⟩⟩
    · exact tail_us (Us.out (a := ⟨w.heap.size, 6, none⟩) (Us.out (a := ⟨w.heap.size, 3, none⟩) (Us.out (a := ⟨w.heap.size, 2, none⟩) (Us.set0 HUS.out hi _) hG0) hG0) hG0) hG4 _ _ _ _ _ _ _
    · exact tail_be (bset (bset (bset (bset HBW.out (show w.heap.size ≤ G by omega)) (Nat.le_refl _)) (Nat.le_refl _)) (Nat.le_refl _)) (by omega) _ _ _ _ _ _ _
  · have h2 : ¬ left - 1 = 0 := by omega
    go_wp2_with fail
    refine bodyPost_ret (v := .tuple #[.agg #[.int .i64 ((i : Int) - 1), .int .i64 (c), .int .i64 (left - 1), .int .i64 1, .int .u32 tk, .int .u32 v, .bool false], .slice (some ⟨G, 0, none⟩) 4 cap']) (by simp [results, Tryd.results14, go_sem, same_some, m0, m1, m2, m3, m4, m5, m6]; omega) rfl ⟨some ⟨G, 0, none⟩, cap', by simp [rV, h1], ?_, ?_, .inr ⟨G, rfl, by omega⟩⟩
    · exact tail_us (Us.out (a := ⟨w.heap.size, 6, none⟩) (Us.out (a := ⟨w.heap.size, 3, none⟩) (Us.out (a := ⟨w.heap.size, 2, none⟩) (Us.set0 HUS.out hi _) hG0) hG0) hG0) hG4 _ _ _ _ _ _ _
    · exact tail_be (bset (bset (bset (bset HBW.out (show w.heap.size ≤ G by omega)) (Nat.le_refl _)) (Nat.le_refl _)) (Nat.le_refl _)) (by omega) _ _ _ _ _ _ _

end Go.Proofs.YtdegfadahlcgnaaDoor
