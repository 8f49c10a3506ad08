/-
  Walks, writers and readers in memory.
-/
import Derived.Test.YtoaaeamogpdcgaaDoorChg
namespace Go.Proofs.YtoaaeamogpdcgaaDoor
open Go.RowKit

theorem fn0 {B i j : Nat} (h : i ≠ j) : (⟨B, i, none⟩ : Addr) ≠ ⟨B, j, none⟩ := fun e => by injection e with _ e2; exact h e2
/-- A walk in memory, in the first cells of block B; its phase is p there. -/
structure WkAt (w : World) (B : Nat) (p : Int) (k : Wk) : Prop where
  c0 : w.cell? ⟨B, 0, none⟩ = some (.int .i64 k.at')
  c1 : w.cell? ⟨B, 1, none⟩ = some (.int .i64 k.n)
  c2 : w.cell? ⟨B, 2, none⟩ = some (.int .i64 p)
  c3 : w.cell? ⟨B, 3, none⟩ = some (.int .i64 k.pa)
  fz : ∀ j, w.frozen? ⟨B, j, none⟩ = false
  ar : -1000 ≤ k.at' ∧ k.at' ≤ 1000
  nr : k.n ≤ 32
  pr : k.pa < 32 ∧ k.ph ≤ 4 ∧ (k.ph < 3 → k.pa < k.n ∧ (k.ph ≠ 1 → k.pa = 0))
theorem WkAt.same {w w' : World} {B : Nat} {p : Int} {k : Wk} (h : WkAt w B p k) (e : w'.heap[B]? = w.heap[B]?) : WkAt w' B p k :=
  ⟨by rw [World.cell?_of_block (w := w) e]; exact h.c0, by rw [World.cell?_of_block (w := w) e]; exact h.c1, by rw [World.cell?_of_block (w := w) e]; exact h.c2, by rw [World.cell?_of_block (w := w) e]; exact h.c3,
   fun j => by rw [World.frozen?_of_block (w := w) e]; exact h.fz j, h.ar, h.nr, h.pr⟩
theorem WkAt.lt {w : World} {B : Nat} {p : Int} {k : Wk} (h : WkAt w B p k) : B < w.heap.size := cell_lt h.c0
theorem WkAt.keep {w w' : World} {B : Nat} {p : Int} {k : Wk} (h : WkAt w B p k) (hB : Below w.heap.size w w') : WkAt w' B p k := h.same (hB.block _ h.lt)
theorem WkAt.else {w w' : World} {B g b : Nat} {p : Int} {k : Wk} (h : WkAt w B p k) (hE : Else g b w w') (hg : g ≠ B) (hb : b ≠ B) : WkAt w' B p k := h.same (hE.block _ h.lt (fun e => hg e.symm) (fun e => hb e.symm))
/-- Another phase stands there. -/
theorem WkAt.set {w : World} {B : Nat} {p : Int} {k : Wk} (h : WkAt w B p k) (q : Int) : WkAt (w.setCell ⟨B, 2, none⟩ (.int .i64 q)) B q k :=
  ⟨by rw [World.cell?_setCell_other _ _ _ _ (by simp)]; exact h.c0, by rw [World.cell?_setCell_other _ _ _ _ (by simp)]; exact h.c1, World.cell?_setCell_same _ _ _ h.c2, by rw [World.cell?_setCell_other _ _ _ _ (by simp)]; exact h.c3,
   fun j => by rw [World.frozen?_setCell]; exact h.fz j, h.ar, h.nr, h.pr⟩
/-- A cell behind the walk is stored. -/
theorem WkAt.far {w : World} {B j : Nat} {p : Int} {k : Wk} (h : WkAt w B p k) (hj : 4 ≤ j) (v : Value) : WkAt (w.setCell ⟨B, j, none⟩ v) B p k :=
  ⟨by rw [World.cell?_setCell_other _ _ _ _ (fn0 (by omega))]; exact h.c0, by rw [World.cell?_setCell_other _ _ _ _ (fn0 (by omega))]; exact h.c1, by rw [World.cell?_setCell_other _ _ _ _ (fn0 (by omega))]; exact h.c2, by rw [World.cell?_setCell_other _ _ _ _ (fn0 (by omega))]; exact h.c3,
   fun i => by rw [World.frozen?_setCell]; exact h.fz i, h.ar, h.nr, h.pr⟩
/-- The same cells, another phase in thought. -/
theorem WkAt.think {w : World} {B : Nat} {p : Int} {k k' : Wk} (h : WkAt w B p k) (e0 : k'.at' = k.at') (e1 : k'.n = k.n) (e3 : k'.pa = k.pa) (pr : k'.ph ≤ 4 ∧ (k'.ph < 3 → k'.pa < k'.n ∧ (k'.ph ≠ 1 → k'.pa = 0))) : WkAt w B p k' :=
  ⟨by rw [e0]; exact h.c0, by rw [e1]; exact h.c1, h.c2, by rw [e3]; exact h.c3, h.fz, by rw [e0]; exact h.ar, by rw [e1]; exact h.nr, by rw [e3]; exact h.pr.1, pr⟩
/-- Of block B the third cell alone may have changed, and no other block. -/
structure Third (B : Nat) (w w' : World) : Prop where
  chg : Chg (fun k => k = B) w w'
  cell : ∀ j, j ≠ 3 → w'.cell? ⟨B, j, none⟩ = w.cell? ⟨B, j, none⟩
  fz : ∀ j, w'.frozen? ⟨B, j, none⟩ = w.frozen? ⟨B, j, none⟩
theorem Third.set (B : Nat) (w : World) (v : Value) : Third B w (w.setCell ⟨B, 3, none⟩ v) :=
  ⟨(Chg.refl (S := fun k => k = B) w).set (a := ⟨B, 3, none⟩) rfl _, fun j hj => World.cell?_setCell_other _ _ _ _ (fn0 fun e => hj e.symm), fun j => by rw [World.frozen?_setCell]⟩
theorem Third.trans {B : Nat} {u v w : World} (h : Third B u v) (k : Third B v w) : Third B u w := ⟨h.chg.trans k.chg, fun j hj => (k.cell j hj).trans (h.cell j hj), fun j => (k.fz j).trans (h.fz j)⟩
theorem Third.drew {B : Nat} {w w' : World} (h : Third B w.drew w') : Third B w w' := ⟨⟨h.chg.os, h.chg.tape, h.chg.output, h.chg.size, h.chg.block⟩, h.cell, h.fz⟩
theorem Third.drewN {B : Nat} (w : World) (n : Nat) : Third B w (w.drewN n) := ⟨Chg.of_below (below_drewN (Below.refl _ _) n), fun _ _ => rfl, fun _ => rfl⟩
theorem Wk.pass_yes {k : Wk} (h : k.pa + 1 < k.n) : k.pass = { k with ph := 1, pa := k.pa + 1 } := by unfold Wk.pass; rw [if_pos h]
theorem Wk.pass_no {k : Wk} (h : ¬ k.pa + 1 < k.n) : k.pass = { k with ph := 2, pa := 0 } := by unfold Wk.pass; rw [if_neg h]
theorem WkAt.passed {w w' : World} {B : Nat} {p : Int} {k : Wk} (h : WkAt w B p k) (hT : Third B w w') (hc : w'.cell? ⟨B, 3, none⟩ = some (.int .i64 k.pass.pa)) (hp : k.pa < k.n) : WkAt w' B p k.pass := by
  have hn : 1 ≤ k.n := by omega
  have hr := h.nr
  by_cases hx : k.pa + 1 < k.n
  · rw [Wk.pass_yes hx] at hc ⊢
    exact ⟨by rw [hT.cell _ (by decide)]; exact h.c0, by rw [hT.cell _ (by decide)]; exact h.c1, by rw [hT.cell _ (by decide)]; exact h.c2, hc, fun j => by rw [hT.fz]; exact h.fz j, h.ar, h.nr, by show k.pa + 1 < 32; omega, by show 1 ≤ 4; omega, fun _ => ⟨hx, fun e => absurd rfl e⟩⟩
  · rw [Wk.pass_no hx] at hc ⊢
    exact ⟨by rw [hT.cell _ (by decide)]; exact h.c0, by rw [hT.cell _ (by decide)]; exact h.c1, by rw [hT.cell _ (by decide)]; exact h.c2, hc, fun j => by rw [hT.fz]; exact h.fz j, h.ar, h.nr, by show 0 < 32; omega, by show 2 ≤ 4; omega, fun _ => ⟨by show 0 < k.n; omega, fun _ => rfl⟩⟩

set_option maxHeartbeats 2000000 in
set_option maxRecDepth 100000 in
/-- Goes on behind a word. -/
theorem pass_any (B : Nat) (p : Int) (k : Wk) (w : World) (h : WkAt w B p k) (hp : k.pa < k.n) :
    Calls Tryd.prog 39 #[.pointer (some ⟨B, 0, none⟩)] w fun e w' => e = .returned (.int .i64 k.pass.ph) ∧ WkAt w' B p k.pass ∧ Third B w w' := by
  have k1 := h.c1
  have k3 := h.c3
  have z3 := h.fz 3
  have hr := h.nr
  have H := Lib.hid h
  clear h
  by_cases hx : k.pa + 1 < k.n
  · go_enter Tryd.func39, Tryd.ntmps39
    go_wp2_with fail
    go_quiet (fail)
    go_wp2_with fail
    go_ret
    have hT : Third B w ((w.setCell ⟨B, 3, none⟩ (.int .i64 ((k.pa : Int) + 1))).drewN nq) := (Third.set B w _).trans (Third.drewN _ _)
    refine ⟨by rw [Wk.pass_yes hx]; rfl, H.out.passed hT ?_ hp, hT⟩
    rw [Wk.pass_yes hx]
    exact World.cell?_setCell_same _ _ _ H.out.c3
  · have hy : (k.n : Int) ≤ k.pa + 1 := by omega
    go_enter Tryd.func39, Tryd.ntmps39
    go_wp2_with fail
    go_quiet (fail)
    go_wp2_with fail
    go_ret
    have hT : Third B w (((w.setCell ⟨B, 3, none⟩ (.int .i64 ((k.pa : Int) + 1))).drewN nq).setCell ⟨B, 3, none⟩ (.int .i64 0)) := ((Third.set B w _).trans (Third.drewN _ _)).trans (Third.set B _ _)
    refine ⟨by rw [Wk.pass_no hx]; rfl, H.out.passed hT ?_ hp, hT⟩
    rw [Wk.pass_no hx]
    exact World.cell?_setCell_same _ _ _ (World.cell?_setCell_same _ _ _ H.out.c3)
set_option maxHeartbeats 2000000 in
/-- The word that comes next. -/
theorem word_any (B : Nat) (p : Int) (k : Wk) (w : World) (h : WkAt w B p k) :
    Calls Tryd.prog 38 #[.pointer (some ⟨B, 0, none⟩)] w fun e w' => e = .returned (.int .i64 (k.at' + 1 + k.pa)) ∧ Below w.heap.size w w' := by
  have k0 := h.c0
  have k3 := h.c3
  have ar := h.ar
  have pr := h.pr.1
  have h1 : IntKind.i64.wrap (k.at' + 1) = k.at' + 1 := IntWalk.i64_in _ (by omega)
  have h2 : IntKind.i64.wrap (k.at' + 1 + k.pa) = k.at' + 1 + k.pa := IntWalk.i64_in _ (by omega)
  clear h
  go_enter Tryd.func38, Tryd.ntmps38
  go_wp2_with fail
  go_quiet (fail)
  go_wp2_with fail
  go_ret
  exact ⟨rfl, below_drewN (Below.refl _ _) _⟩
section
variable (K : Nat) (B g : Nat) (w : World) (Q : World → Prop)
set_option maxHeartbeats 2000000 in
/-- What comes behind a use. -/
theorem after_use (q : Nat) (hK : Enters K)
    (hcall : Calls Tryd.prog K #[.pointer (some ⟨B, 0, none⟩), .pointer (some ⟨g, 0, none⟩)] w fun e w' => ∃ pr er : Int, e = .returned (.tuple #[.int .i64 pr, .int .i64 er]) ∧ (if er = 0 then pr else 4) = q ∧ Q w') :
    Calls Tryd.prog 36 #[.pointer (some ⟨B, 0, none⟩), .pointer (some ⟨g, 0, none⟩), .func (.func K) #[.pointer (some ⟨B, 0, none⟩)] #[]] w fun e w' => e = .returned (.int .i64 q) ∧ Q w' := by
  have HC := Lib.hid hcall
  have hk := fun W => hK #[.pointer (some ⟨B, 0, none⟩), .pointer (some ⟨g, 0, none⟩)] W
  clear hcall hK
  go_enter Tryd.func36, Tryd.ntmps36
  go_wp2_with fail
  with_reducible refine HC.out.mono ?_
  rintro e w1 ⟨pr, er, rfl, hq, hQ⟩
  have HQ := Lib.hid hQ
  have HE := Lib.hid hq
  clear hq hQ
  by_cases hx : er = 0
  · subst hx
    go_wp2_with fail
    go_ret
    have h0 : pr = q := by simpa using HE.out
    subst h0
    exact ⟨rfl, HQ.out⟩
  · go_wp2_with fail
    go_ret
    have := HE.out
    rw [if_neg hx] at this
    exact ⟨by rw [← this]; rfl, HQ.out⟩
set_option maxHeartbeats 2000000 in
/-- A step, if there is one any more. -/
theorem step_go (q : Nat) (p : Nat) (hp : p < 3) (hK : Enters K) (h2 : w.cell? ⟨B, 2, none⟩ = some (.int .i64 p)) (hQ2 : ∀ w', Q w' → w'.cell? ⟨B, 2, none⟩ = some (.int .i64 p) ∧ w'.frozen? ⟨B, 2, none⟩ = false)
    (hcall : Calls Tryd.prog K #[.pointer (some ⟨B, 0, none⟩), .pointer (some ⟨g, 0, none⟩)] w fun e w' => ∃ pr er : Int, e = .returned (.tuple #[.int .i64 pr, .int .i64 er]) ∧ (if er = 0 then pr else 4) = q ∧ Q w') :
    Calls Tryd.prog 31 #[.pointer (some ⟨B, 0, none⟩), .pointer (some ⟨g, 0, none⟩), .func (.func K) #[.pointer (some ⟨B, 0, none⟩)] #[]] w fun e w' => e = .returned (.bool (decide (3 ≤ q))) ∧ ∃ w1, Q w1 ∧ w' = w1.setCell ⟨B, 2, none⟩ (.int .i64 q) := by
  have HC := Lib.hid (after_use K B g w Q q hK hcall)
  have HQ2 := Lib.hid hQ2
  have hp' : (p : Int) < 3 := by omega
  clear hcall hK hQ2
  go_enter Tryd.func31, Tryd.ntmps31
  go_wp2_with fail
  with_reducible refine HC.out.mono ?_
  rintro e w1 ⟨rfl, hQ⟩
  obtain ⟨y2, z2⟩ := HQ2.out _ hQ
  have HQ := Lib.hid hQ
  clear hQ
  go_wp2_with fail
  go_ret
  exact ⟨by rw [show decide (3 ≤ q) = decide ((3 : Int) ≤ q) from decide_eq_decide.2 (by omega)]; rfl, _, HQ.out, rfl⟩
set_option maxHeartbeats 2000000 in
theorem step_over (p : Nat) (hp : 3 ≤ p) (h2 : w.cell? ⟨B, 2, none⟩ = some (.int .i64 p)) (f : Value) :
    Calls Tryd.prog 31 #[.pointer (some ⟨B, 0, none⟩), .pointer (some ⟨g, 0, none⟩), f] w fun e w' => e = .returned (.bool true) ∧ w' = w := by
  have hp' : (3 : Int) ≤ p := by omega
  go_enter Tryd.func31, Tryd.ntmps31
  go_wp2_with fail
  go_ret
  exact ⟨rfl, rfl⟩
end
end Go.Proofs.YtoaaeamogpdcgaaDoor
