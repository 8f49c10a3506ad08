/-
  The document's answer: a writer's step.
-/
import Derived.Test.YtoaaeamogpdcgaaDoorCalmA
namespace Go.Proofs.YtoaaeamogpdcgaaDoor
open Go.RowKit

/-- A writer of the document's: its four lists, of M steps; how many it did; whether it is done. -/
structure Dw where
  pA : Option Addr
  cA : Nat
  pV : Option Addr
  cV : Nat
  pD : Option Addr
  cD : Nat
  pE : Option Addr
  cE : Nat
  M : Nat
  did : Nat
  done : Bool
def dwV (d : Dw) : Value := .agg #[.slice d.pA d.M d.cA, .slice d.pV d.M d.cV, .slice d.pD d.M d.cD, .slice d.pE d.M d.cE, .int .i64 d.did, .bool d.done]
/-- Six cells of a block. -/
def Box6 (w : World) (b : Nat) (d : Dw) : Prop := w.cell? ⟨b, 0, none⟩ = some (.slice d.pA d.M d.cA) ∧ w.cell? ⟨b, 1, none⟩ = some (.slice d.pV d.M d.cV) ∧ w.cell? ⟨b, 2, none⟩ = some (.slice d.pD d.M d.cD) ∧ w.cell? ⟨b, 3, none⟩ = some (.slice d.pE d.M d.cE) ∧ w.cell? ⟨b, 4, none⟩ = some (.int .i64 d.did) ∧ w.cell? ⟨b, 5, none⟩ = some (.bool d.done)
def dw0 : Dw := ⟨none, 0, none, 0, none, 0, none, 0, 0, 0, false⟩
/-- What its lists hold. -/
structure DwOk (w : World) (d : Dw) (fA fV : Nat → Int) (fD fE : Nat → Bool) : Prop where
  a : ∀ i, i < d.M → ∃ b o, d.pA = some ⟨b, o, none⟩ ∧ w.cell? ⟨b, o + i, none⟩ = some (.int .i64 (fA i))
  v : ∀ i, i < d.M → ∃ b o, d.pV = some ⟨b, o, none⟩ ∧ w.cell? ⟨b, o + i, none⟩ = some (.int .u32 (fV i))
  dd : ∀ i, i < d.M → ∃ b o, d.pD = some ⟨b, o, none⟩ ∧ w.cell? ⟨b, o + i, none⟩ = some (.bool (fD i))
  e : ∀ i, i < d.M → ∃ b o, d.pE = some ⟨b, o, none⟩ ∧ w.cell? ⟨b, o + i, none⟩ = some (.bool (fE i))
theorem DwOk.keep {w w' : World} {d : Dw} {fA fV : Nat → Int} {fD fE : Nat → Bool} (h : DwOk w d fA fV fD fE) (hB : Below w.heap.size w w') : DwOk w' d fA fV fD fE :=
  ⟨fun i hi => by obtain ⟨b, o, e, hc⟩ := h.a i hi; exact ⟨b, o, e, kept hc hB⟩, fun i hi => by obtain ⟨b, o, e, hc⟩ := h.v i hi; exact ⟨b, o, e, kept hc hB⟩,
   fun i hi => by obtain ⟨b, o, e, hc⟩ := h.dd i hi; exact ⟨b, o, e, kept hc hB⟩, fun i hi => by obtain ⟨b, o, e, hc⟩ := h.e i hi; exact ⟨b, o, e, kept hc hB⟩⟩
theorem bset {n : Nat} {w V : World} {a : Addr} {v : Value} (h : Below n w V) (ha : n ≤ a.block) : Below n w (V.setCell a v) := h.setCell ha v
theorem keptn {n : Nat} {w w' : World} {a : Addr} {v : Value} (hc : w.cell? a = some v) (h : Below n w w') (hl : a.block < n) : w'.cell? a = some v := by rw [h.cell (p := a) hl]; exact hc
theorem same_some {w : World} {a : Addr} {v : Value} (h : (w.cell? a).isSome = true) : (w.setCell a v).cell? a = some v := by
  obtain ⟨o, ho⟩ := Option.isSome_iff_exists.1 h
  exact World.cell?_setCell_same _ _ _ ho
theorem Us.set0 {w : World} {b n : Nat} {f : Nat → Int} (h : Us w (some ⟨b, 0, none⟩) n f) {i : Nat} (hi : i < n) (v : Int) : Us (w.setCell ⟨b, i, none⟩ (.int .u32 v)) (some ⟨b, 0, none⟩) n (upd f i v) := fun j hj => by
  refine ⟨b, 0, rfl, ?_⟩
  unfold upd
  rw [Nat.zero_add]
  have hc := h.cell hj
  rw [Nat.zero_add] at hc
  by_cases e : j = i
  · subst e
    rw [if_pos rfl]
    exact World.cell?_setCell_same _ _ _ hc
  · rw [if_neg e, World.cell?_setCell_other _ _ _ _ (fn0 (fun h => e h.symm))]
    exact hc
theorem Us.out {w : World} {b n : Nat} {f : Nat → Int} {a : Addr} {v : Value} (h : Us w (some ⟨b, 0, none⟩) n f) (ha : a.block ≠ b) : Us (w.setCell a v) (some ⟨b, 0, none⟩) n f := fun j hj => by
  refine ⟨b, 0, rfl, ?_⟩
  rw [World.cell?_setCell_other _ _ _ _ (by intro e; apply ha; rw [e])]
  exact h.cell hj
theorem us_drewN {w : World} {A : Option Addr} {n : Nat} {f : Nat → Int} {m : Nat} (h : Us w A n f) : Us (w.drewN m) A n f := h.keep (below_drewN (Below.refl _ _) m)
/-- The world in which it works: its writer, its result. -/
noncomputable def WD (w : World) (d : Dw) : World := (w.alloc (.cells #[.slice d.pA d.M d.cA, .slice d.pV d.M d.cV, .slice d.pD d.M d.cD, .slice d.pE d.M d.cE, .int .i64 d.did, .bool d.done] 40)).alloc (.cells #[.slice none 0 0, .slice none 0 0, .slice none 0 0, .slice none 0 0, .int .i64 0, .bool false] 40)
theorem wd_facts (w : World) (d : Dw) : Box6 (WD w d) w.heap.size d ∧ Box6 (WD w d) (w.heap.size + 1) dw0 ∧ (∀ j, (WD w d).frozen? ⟨w.heap.size, j, none⟩ = false) ∧ (∀ j, (WD w d).frozen? ⟨w.heap.size + 1, j, none⟩ = false) ∧ Below w.heap.size w (WD w d) ∧ (WD w d).heap.size = w.heap.size + 2 := by
  refine ⟨⟨al_cell (al_new _ _ _ 0 _ rfl rfl), al_cell (al_new _ _ _ 1 _ rfl rfl), al_cell (al_new _ _ _ 2 _ rfl rfl), al_cell (al_new _ _ _ 3 _ rfl rfl), al_cell (al_new _ _ _ 4 _ rfl rfl), al_cell (al_new _ _ _ 5 _ rfl rfl)⟩, ⟨al_new _ _ _ 0 _ (by simp) rfl, al_new _ _ _ 1 _ (by simp) rfl, al_new _ _ _ 2 _ (by simp) rfl, al_new _ _ _ 3 _ (by simp) rfl, al_new _ _ _ 4 _ (by simp) rfl, al_new _ _ _ 5 _ (by simp) rfl⟩, fun j => ?_, fun j => ?_, ?_, ?_⟩
  · unfold WD; rw [frozen_old _ _ _ (by simp)]; exact frozen_at _ _ _ j _ rfl
  · exact frozen_at _ _ _ j _ (by simp)
  · exact ((Below.refl _ _).alloc (Nat.le_refl _) _).alloc (by simp) _
  · simp [WD]
/-- What a step leaves. -/
def DGo (d' : Dw) (f' : Nat → Int) (w : World) (e : Ending) (w' : World) : Prop := ∃ G c, e = .returned (.tuple #[dwV d', .slice (some ⟨G, 0, none⟩) 40 c]) ∧ Us w' (some ⟨G, 0, none⟩) 40 f' ∧ (∀ j, w'.frozen? ⟨G, j, none⟩ = false) ∧ Below w.heap.size w w'
theorem tail_us {V : World} {G H n : Nat} {f : Nat → Int} (h : Us V (some ⟨G, 0, none⟩) n f) (h2 : H ≠ G) (u0 u1 u2 u3 u4 u5 : Value) :
    Us ((((((V.setCell ⟨H, 0, none⟩ u0).setCell ⟨H, 1, none⟩ u1).setCell ⟨H, 2, none⟩ u2).setCell ⟨H, 3, none⟩ u3).setCell ⟨H, 4, none⟩ u4).setCell ⟨H, 5, none⟩ u5) (some ⟨G, 0, none⟩) n f :=
  Us.out (Us.out (Us.out (Us.out (Us.out (Us.out h h2) h2) h2) h2) h2) h2
theorem us_drew' {w : World} {U : Option Addr} {n : Nat} {f : Nat → Int} (h : Us w U n f) : Us w.drew U n f := fun j hj => h j hj
theorem frozen_drew' (w : World) (a : Addr) : w.drew.frozen? a = w.frozen? a := rfl
theorem tail_be {w V : World} {H n : Nat} (h : Below n w V) (h2 : n ≤ H) (u0 u1 u2 u3 u4 u5 : Value) :
    Below n w ((((((V.setCell ⟨H, 0, none⟩ u0).setCell ⟨H, 1, none⟩ u1).setCell ⟨H, 2, none⟩ u2).setCell ⟨H, 3, none⟩ u3).setCell ⟨H, 4, none⟩ u4).setCell ⟨H, 5, none⟩ u5) :=
  bset (bset (bset (bset (bset (bset h h2) h2) h2) h2) h2) h2
set_option maxHeartbeats 4000000 in
set_option maxRecDepth 100000 in
theorem dw_all (d : Dw) (l : Value) (w : World) (hd : d.did = d.M) :
    Calls Tryd.prog 16 #[dwV d, l] w fun e w' => e = .returned (.tuple #[dwV { d with done := true }, l]) ∧ Below w.heap.size w w' := by
  obtain ⟨pA, cA, pV, cV, pD, cD, pE, cE, M, did, done⟩ := d
  have hd : did = M := hd
  subst hd
  simp only [dwV]
  go_enter Tryd.func16, Tryd.ntmps16
  go_wp2_with fail
  refine bodyPost_ret (v := .tuple #[.agg #[.slice pA did cA, .slice pV did cV, .slice pD did cD, .slice pE did cE, .int .i64 did, .bool true], l]) (by simp [results, Tryd.results16, go_sem]) rfl ⟨rfl, ?_⟩
  exact ((Below.refl _ _).alloc (Nat.le_refl _) _).alloc (by simp) _
set_option maxHeartbeats 4000000 in
set_option maxRecDepth 100000 in
theorem dw_miss (d : Dw) (fA fV : Nat → Int) (fD fE : Nat → Bool) (U : Option Addr) (cu : Nat) (w : World) (hd : d.did < d.M) (hO : DwOk w d fA fV fD fE) (hx : ¬ (0 ≤ fA d.did ∧ fA d.did < 40)) (hM : d.M ≤ 1000000) :
    Calls Tryd.prog 16 #[dwV d, .slice U 40 cu] w fun e w' => e = .returned (.tuple #[dwV { d with done := true }, .slice U 40 cu]) ∧ Below w.heap.size w w' := by
  obtain ⟨pA, cA, pV, cV, pD, cD, pE, cE, M, did, done⟩ := d
  have hd : did < M := hd
  have hM : M ≤ 1000000 := hM
  obtain ⟨b, o, e, hc⟩ := hO.a did hd
  have e : pA = some ⟨b, o, none⟩ := e
  subst e
  have hc : w.cell? ⟨b, o + did, none⟩ = some (.int .i64 (fA did)) := hc
  have hx : ¬ (0 ≤ fA did ∧ fA did < 40) := hx
  obtain ⟨x, hxx⟩ : ∃ x, x = fA did := ⟨_, rfl⟩
  rw [← hxx] at hc hx
  have hne : ((did : Int) == M) = false := beq_false_of_ne (by omega)
  have h0 : (0 : Int) ≤ did := by omega
  have h1 : (did : Int) < M := by omega
  have hz := al_cell (o := .cells #[.slice (some ⟨b, o, none⟩) M cA, .slice pV M cV, .slice pD M cD, .slice pE M cE, .int .i64 did, .bool done] 40) hc
  have hz2 := al_cell (o := .cells #[.slice none 0 0, .slice none 0 0, .slice none 0 0, .slice none 0 0, .int .i64 0, .bool false] 40) hz
  simp only [dwV]
  clear hO hc hz hxx
  by_cases hneg : x < 0
  · clear hx
    go_enter Tryd.func16, Tryd.ntmps16
    go_wp2_with fail
    refine bodyPost_ret (v := .tuple #[.agg #[.slice (some ⟨b, o, none⟩) M cA, .slice pV M cV, .slice pD M cD, .slice pE M cE, .int .i64 did, .bool true], .slice U 40 cu]) (by simp [results, Tryd.results16, go_sem]) rfl ⟨rfl, ?_⟩
    exact ((Below.refl _ _).alloc (Nat.le_refl _) _).alloc (by simp) _
  · have hge : (40 : Int) ≤ x := by omega
    clear hx
    go_enter Tryd.func16, Tryd.ntmps16
    go_wp2_with fail
    refine bodyPost_ret (v := .tuple #[.agg #[.slice (some ⟨b, o, none⟩) M cA, .slice pV M cV, .slice pD M cD, .slice pE M cE, .int .i64 did, .bool true], .slice U 40 cu]) (by simp [results, Tryd.results16, go_sem]) rfl ⟨rfl, ?_⟩
    exact ((Below.refl _ _).alloc (Nat.le_refl _) _).alloc (by simp) _
set_option maxHeartbeats 4000000 in
set_option maxRecDepth 100000 in
theorem dw_go (d : Dw) (fA fV : Nat → Int) (fD fE : Nat → Bool) (U : Option Addr) (cu i : Nat) (f : Nat → Int) (w : World) (hU : Us w U 40 f) (hd : d.did < d.M) (hO : DwOk w d fA fV fD fE) (hi : fA d.did = i) (hi2 : i < 40) (hM : d.M ≤ 1000000) :
    Calls Tryd.prog 16 #[dwV d, .slice U 40 cu] w fun e w' => DGo { d with did := d.did + 1, done := decide (d.did + 1 = d.M) } (upd f i (if fD d.did = true then inc (f i) else fV d.did)) w e w' := by
  obtain ⟨pA, cA, pV, cV, pD, cD, pE, cE, M, did, done⟩ := d
  have hd : did < M := hd
  have hM : M ≤ 1000000 := hM
  have hF := wd_facts w ⟨pA, cA, pV, cV, pD, cD, pE, cE, M, did, done⟩
  obtain ⟨b, o, e, hc⟩ := hO.a did hd
  obtain ⟨b2, o2, e2, hc2⟩ := hO.v did hd
  obtain ⟨b3, o3, e3, hc3⟩ := hO.dd did hd
  have e : pA = some ⟨b, o, none⟩ := e
  have e2 : pV = some ⟨b2, o2, none⟩ := e2
  have e3 : pD = some ⟨b3, o3, none⟩ := e3
  subst e e2 e3
  have hc : w.cell? ⟨b, o + did, none⟩ = some (.int .i64 (fA did)) := hc
  have hi : fA did = i := hi
  rw [hi] at hc
  have hc2 : w.cell? ⟨b2, o2 + did, none⟩ = some (.int .u32 (fV did)) := hc2
  have hc3 : w.cell? ⟨b3, o3 + did, none⟩ = some (.bool (fD did)) := hc3
  show Calls Tryd.prog 16 _ w fun e w' => DGo _ (upd f i (if fD did = true then inc (f i) else fV did)) w e w'
  obtain ⟨y, hy⟩ : ∃ y, y = fV did := ⟨_, rfl⟩
  obtain ⟨z, hz⟩ : ∃ z, z = fD did := ⟨_, rfl⟩
  rw [← hy] at hc2 ⊢
  rw [← hz] at hc3 ⊢
  have hne : ((did : Int) == M) = false := beq_false_of_ne (by omega)
  have h0 : (0 : Int) ≤ did := by omega
  have h1 : (did : Int) < M := by omega
  have hi0 : (0 : Int) ≤ i := by omega
  have hi1 : (i : Int) < 40 := by omega
  simp only [WD, Box6, dw0] at hF
  obtain ⟨⟨c0, c1, c2, c3, c4, c5⟩, ⟨z0, z1, z2, z3, z4, z5⟩, f0, f1, hB0, hs0⟩ := hF
  have x1 := kept hc hB0
  have HUW := Lib.hid (hU.keep hB0)
  have hsum : IntKind.i64.wrap ((did : Int) + 1) = (did : Int) + 1 := IntWalk.i64_in _ (by omega)
  have HC := Lib.hid (And.intro c0 (And.intro c1 (And.intro c2 (And.intro c3 (And.intro c4 c5)))))
  have HZ := Lib.hid (And.intro z0 (And.intro z1 (And.intro z2 (And.intro z3 (And.intro z4 z5)))))
  have HFZ := Lib.hid (And.intro f0 f1)
  have HB0 := Lib.hid hB0
  have HS0 := Lib.hid hs0
  have HX := Lib.hid (And.intro hc (And.intro hc2 hc3))
  obtain ⟨dn, hdn⟩ : ∃ dn : Bool, dn = ((did : Int) + 1 == M) := ⟨_, rfl⟩
  have hdd : Hid (decide (did + 1 = M) = dn) := Lib.hid (by rw [hdn]; by_cases h : did + 1 = M <;> simp [h] <;> omega)
  simp only [dwV]
  clear hO hU hy hz hi c0 c1 c2 c3 c4 c5 z0 z1 z2 z3 z4 z5 f0 f1 hB0 hs0 hc hc2 hc3
  go_enter Tryd.func16, Tryd.ntmps16
  go_wp2_with (at_builtin; refine wpList_append_words rfl _ _ rfl (by decide) (by decide) HUW.out (w.heap.size + 2) (by simp) (by rfl) (by rfl) ?_)
  intro G cap' w2 hG1 hG2 hUs hFz hB2
  replace hB2 := hB2.mono (show w.heap.size + 2 ≤ _ by simp)
  have HUS := Lib.hid hUs
  have hx := hUs.cell hi2
  rw [Nat.zero_add] at hx
  have hfx := hFz i
  obtain ⟨c0, c1, c2, c3, c4, c5⟩ := HC.out
  obtain ⟨z0, z1, z2, z3, z4, z5⟩ := HZ.out
  obtain ⟨f0, f1⟩ := HFZ.out
  have hs0 := HS0.out
  have hbl := cell_lt HX.out.1
  have hbl2 := cell_lt HX.out.2.1
  have hbl3 := cell_lt HX.out.2.2
  simp only at hbl hbl2 hbl3
  have k0 := keptn c0 hB2 (by dsimp only; omega)
  have m0 := keptn z0 hB2 (by dsimp only; omega)
  have k1 := keptn c1 hB2 (by dsimp only; omega)
  have m1 := keptn z1 hB2 (by dsimp only; omega)
  have k2 := keptn c2 hB2 (by dsimp only; omega)
  have m2 := keptn z2 hB2 (by dsimp only; omega)
  have k3 := keptn c3 hB2 (by dsimp only; omega)
  have m3 := keptn z3 hB2 (by dsimp only; omega)
  have k4 := keptn c4 hB2 (by dsimp only; omega)
  have m4 := keptn z4 hB2 (by dsimp only; omega)
  have k5 := keptn c5 hB2 (by dsimp only; omega)
  have m5 := keptn z5 hB2 (by dsimp only; omega)
  have q4 : w2.frozen? ⟨w.heap.size, 4, none⟩ = false := by rw [hB2.frozen (p := ⟨w.heap.size, 4, none⟩) (by dsimp only; omega)]; exact f0 4
  have q5 : w2.frozen? ⟨w.heap.size, 5, none⟩ = false := by rw [hB2.frozen (p := ⟨w.heap.size, 5, none⟩) (by dsimp only; omega)]; exact f0 5
  have y0 : w2.frozen? ⟨w.heap.size + 1, 0, none⟩ = false := by rw [hB2.frozen (p := ⟨w.heap.size + 1, 0, none⟩) (by dsimp only; omega)]; exact f1 0
  have y1 : w2.frozen? ⟨w.heap.size + 1, 1, none⟩ = false := by rw [hB2.frozen (p := ⟨w.heap.size + 1, 1, none⟩) (by dsimp only; omega)]; exact f1 1
  have y2 : w2.frozen? ⟨w.heap.size + 1, 2, none⟩ = false := by rw [hB2.frozen (p := ⟨w.heap.size + 1, 2, none⟩) (by dsimp only; omega)]; exact f1 2
  have y3 : w2.frozen? ⟨w.heap.size + 1, 3, none⟩ = false := by rw [hB2.frozen (p := ⟨w.heap.size + 1, 3, none⟩) (by dsimp only; omega)]; exact f1 3
  have y4 : w2.frozen? ⟨w.heap.size + 1, 4, none⟩ = false := by rw [hB2.frozen (p := ⟨w.heap.size + 1, 4, none⟩) (by dsimp only; omega)]; exact f1 4
  have y5 : w2.frozen? ⟨w.heap.size + 1, 5, none⟩ = false := by rw [hB2.frozen (p := ⟨w.heap.size + 1, 5, none⟩) (by dsimp only; omega)]; exact f1 5
  have v1 := keptn (kept HX.out.1 HB0.out) hB2 (by dsimp only; omega)
  have v2 := keptn (kept HX.out.2.1 HB0.out) hB2 (by dsimp only; omega)
  have v3 := keptn (kept HX.out.2.2 HB0.out) hB2 (by dsimp only; omega)
  have HBW := Lib.hid (HB0.out.trans (hB2.mono (by omega)))
  have HFZ2 := Lib.hid hFz
  have hG0 : w.heap.size ≠ G := by omega
  have hG3 : G ≠ w.heap.size := by omega
  have hG4 : w.heap.size + 1 ≠ G := by omega
  have hG5 : G ≠ w.heap.size + 1 := by omega
  have hb1 : b ≠ G := by omega
  have hb2 : b2 ≠ G := by omega
  have hb3 : b ≠ w.heap.size := by omega
  have hb4 : b2 ≠ w.heap.size := by omega
  clear hUs hFz hB2 f0 f1 hs0 c0 c1 c2 c3 c4 c5 z0 z1 z2 z3 z4 z5 hbl hbl2 hbl3 x1
  cases z with
  | true =>
    go_wp2_with fail
    refine bodyPost_ret (v := .tuple #[.agg #[.slice (some ⟨b, o, none⟩) M cA, .slice (some ⟨b2, o2, none⟩) M cV, .slice (some ⟨b3, o3, none⟩) M cD, .slice pE M cE, .int .i64 ((did : Int) + 1), .bool ((did : Int) + 1 == M)], .slice (some ⟨G, 0, none⟩) 40 cap']) (by simp [results, Tryd.results16, go_sem, same_some, m0, m1, m2, m3, m4, m5]) rfl ⟨G, cap', by rw [← hdn, ← hdd.out]; simp [dwV], ?_, ?_, ?_⟩
    · exact tail_us (Us.out (a := ⟨w.heap.size, 5, none⟩) (Us.out (a := ⟨w.heap.size, 4, none⟩) (Us.set0 HUS.out hi2 _) hG0) hG0) hG4 _ _ _ _ _ _
    · intro j; simp only [World.frozen?_setCell]; exact HFZ2.out j
    · exact tail_be (bset (bset (bset HBW.out (show w.heap.size ≤ G by omega)) (Nat.le_refl _)) (Nat.le_refl _)) (by omega) _ _ _ _ _ _
  | false =>
    go_wp2_with fail
    go_region
    go_wp2_with fail
    refine bodyPost_ret (v := .tuple #[.agg #[.slice (some ⟨b, o, none⟩) M cA, .slice (some ⟨b2, o2, none⟩) M cV, .slice (some ⟨b3, o3, none⟩) M cD, .slice pE M cE, .int .i64 ((did : Int) + 1), .bool ((did : Int) + 1 == M)], .slice (some ⟨G, 0, none⟩) 40 cap']) (by simp [results, Tryd.results16, go_sem, same_some, m0, m1, m2, m3, m4, m5]) rfl ⟨G, cap', by rw [← hdn, ← hdd.out]; simp [dwV], ?_, ?_, ?_⟩
    · exact us_drew' (tail_us (Us.out (a := ⟨w.heap.size, 5, none⟩) (Us.out (a := ⟨w.heap.size, 4, none⟩) (Us.set0 HUS.out hi2 _) hG0) hG0) hG4 _ _ _ _ _ _)
    · intro j; rw [frozen_drew']; simp only [World.frozen?_setCell]; exact HFZ2.out j
    · refine Below.drew ?_
      exact tail_be (bset (bset (bset HBW.out (show w.heap.size ≤ G by omega)) (Nat.le_refl _)) (Nat.le_refl _)) (by omega) _ _ _ _ _ _
end Go.Proofs.YtoaaeamogpdcgaaDoor
