/-
  The document's answer: a reader's step along a word.
-/
import Derived.Test.YtoaaeamogpdcgaaDoorRefR
import Derived.Deep.DeepCutAuto
namespace Go.Proofs.YtoaaeamogpdcgaaDoor
open Go.RowKit

noncomputable def WL (w : World) (i' n nx cn : Int) (lA : Option Addr) (k cL : Nat) (tr : Int) : World := (w.alloc (.cells #[.int .i64 i', .int .i64 n, .int .i64 nx, .int .u32 cn, .slice lA k cL, .bool false, .bool false, .int .i64 tr] 49)).alloc (.cells #[.int .i64 0, .int .i64 0, .int .i64 0, .int .u32 0, .slice none 0 0, .bool false, .bool false, .int .i64 0] 49)
structure WLF (w W : World) (i' n nx cn : Int) (lA : Option Addr) (k cL : Nat) (tr : Int) : Prop where
  c0 : W.cell? ⟨w.heap.size, 0, none⟩ = some (.int .i64 i')
  c1 : W.cell? ⟨w.heap.size, 1, none⟩ = some (.int .i64 n)
  c2 : W.cell? ⟨w.heap.size, 2, none⟩ = some (.int .i64 nx)
  c3 : W.cell? ⟨w.heap.size, 3, none⟩ = some (.int .u32 cn)
  c4 : W.cell? ⟨w.heap.size, 4, none⟩ = some (.slice lA k cL)
  c5 : W.cell? ⟨w.heap.size, 5, none⟩ = some (.bool false)
  c6 : W.cell? ⟨w.heap.size, 6, none⟩ = some (.bool false)
  c7 : W.cell? ⟨w.heap.size, 7, none⟩ = some (.int .i64 tr)
  z0 : W.cell? ⟨w.heap.size + 1, 0, none⟩ = some (.int .i64 0)
  z1 : W.cell? ⟨w.heap.size + 1, 1, none⟩ = some (.int .i64 0)
  z2 : W.cell? ⟨w.heap.size + 1, 2, none⟩ = some (.int .i64 0)
  z3 : W.cell? ⟨w.heap.size + 1, 3, none⟩ = some (.int .u32 0)
  z4 : W.cell? ⟨w.heap.size + 1, 4, none⟩ = some (.slice none 0 0)
  z5 : W.cell? ⟨w.heap.size + 1, 5, none⟩ = some (.bool false)
  z6 : W.cell? ⟨w.heap.size + 1, 6, none⟩ = some (.bool false)
  z7 : W.cell? ⟨w.heap.size + 1, 7, none⟩ = some (.int .i64 0)
  f0 : ∀ j, W.frozen? ⟨w.heap.size, j, none⟩ = false
  f1 : ∀ j, W.frozen? ⟨w.heap.size + 1, j, none⟩ = false
  be : Below w.heap.size w W
  sz : w.heap.size + 2 ≤ W.heap.size
theorem WLF.keep {w W W' : World} {i' n nx cn : Int} {lA : Option Addr} {k cL : Nat} {tr : Int} (h : WLF w W i' n nx cn lA k cL tr) (hB : Below (w.heap.size + 2) W W') : WLF w W' i' n nx cn lA k cL tr :=
  ⟨keptn h.c0 hB (by dsimp only; omega), keptn h.c1 hB (by dsimp only; omega), keptn h.c2 hB (by dsimp only; omega), keptn h.c3 hB (by dsimp only; omega), keptn h.c4 hB (by dsimp only; omega), keptn h.c5 hB (by dsimp only; omega), keptn h.c6 hB (by dsimp only; omega), keptn h.c7 hB (by dsimp only; omega), keptn h.z0 hB (by dsimp only; omega), keptn h.z1 hB (by dsimp only; omega), keptn h.z2 hB (by dsimp only; omega), keptn h.z3 hB (by dsimp only; omega), keptn h.z4 hB (by dsimp only; omega), keptn h.z5 hB (by dsimp only; omega), keptn h.z6 hB (by dsimp only; omega), keptn h.z7 hB (by dsimp only; omega),
   fun j => by rw [hB.frozen (p := ⟨w.heap.size, j, none⟩) (by dsimp only; omega)]; exact h.f0 j, fun j => by rw [hB.frozen (p := ⟨w.heap.size + 1, j, none⟩) (by dsimp only; omega)]; exact h.f1 j, h.be.trans (hB.mono (by omega)), Nat.le_trans h.sz hB.size⟩
theorem wl_facts (w : World) (i' n nx cn : Int) (lA : Option Addr) (k cL : Nat) (tr : Int) : WLF w (WL w i' n nx cn lA k cL tr) i' n nx cn lA k cL tr := by
  refine ⟨al_cell (al_new _ _ _ 0 _ rfl rfl), al_cell (al_new _ _ _ 1 _ rfl rfl), al_cell (al_new _ _ _ 2 _ rfl rfl), al_cell (al_new _ _ _ 3 _ rfl rfl), al_cell (al_new _ _ _ 4 _ rfl rfl), al_cell (al_new _ _ _ 5 _ rfl rfl), al_cell (al_new _ _ _ 6 _ rfl rfl), al_cell (al_new _ _ _ 7 _ rfl rfl), al_new _ _ _ 0 _ (by simp) rfl, al_new _ _ _ 1 _ (by simp) rfl, al_new _ _ _ 2 _ (by simp) rfl, al_new _ _ _ 3 _ (by simp) rfl, al_new _ _ _ 4 _ (by simp) rfl, al_new _ _ _ 5 _ (by simp) rfl, al_new _ _ _ 6 _ (by simp) rfl, al_new _ _ _ 7 _ (by simp) rfl, fun j => ?_, fun j => ?_, ?_, ?_⟩
  · unfold WL; rw [frozen_old _ _ _ (by simp)]; exact frozen_at _ _ _ j _ rfl
  · exact frozen_at _ _ _ j _ (by simp)
  · exact ((Below.refl _ _).alloc (Nat.le_refl _) _).alloc (by simp) _
  · simp [WL]
theorem WLF.set4 {w W : World} {i' n nx cn : Int} {lA : Option Addr} {k cL : Nat} {tr : Int} (h : WLF w W i' n nx cn lA k cL tr) (lB : Option Addr) (k2 c2 : Nat) : WLF w (W.setCell ⟨w.heap.size, 4, none⟩ (.slice lB k2 c2)) i' n nx cn lB k2 c2 tr :=
  ⟨by rw [World.cell?_setCell_other _ _ _ _ (by simp)]; exact h.c0, by rw [World.cell?_setCell_other _ _ _ _ (by simp)]; exact h.c1, by rw [World.cell?_setCell_other _ _ _ _ (by simp)]; exact h.c2, by rw [World.cell?_setCell_other _ _ _ _ (by simp)]; exact h.c3, World.cell?_setCell_same _ _ _ h.c4, by rw [World.cell?_setCell_other _ _ _ _ (by simp)]; exact h.c5, by rw [World.cell?_setCell_other _ _ _ _ (by simp)]; exact h.c6, by rw [World.cell?_setCell_other _ _ _ _ (by simp)]; exact h.c7, by rw [World.cell?_setCell_other _ _ _ _ (by simp)]; exact h.z0, by rw [World.cell?_setCell_other _ _ _ _ (by simp)]; exact h.z1, by rw [World.cell?_setCell_other _ _ _ _ (by simp)]; exact h.z2, by rw [World.cell?_setCell_other _ _ _ _ (by simp)]; exact h.z3, by rw [World.cell?_setCell_other _ _ _ _ (by simp)]; exact h.z4, by rw [World.cell?_setCell_other _ _ _ _ (by simp)]; exact h.z5, by rw [World.cell?_setCell_other _ _ _ _ (by simp)]; exact h.z6, by rw [World.cell?_setCell_other _ _ _ _ (by simp)]; exact h.z7,
   fun j => by rw [World.frozen?_setCell]; exact h.f0 j, fun j => by rw [World.frozen?_setCell]; exact h.f1 j, h.be.setCell (Nat.le_refl _) _, by simpa using h.sz⟩
theorem WLF.drew {w W : World} {i' n nx cn : Int} {lA : Option Addr} {k cL : Nat} {tr : Int} (h : WLF w W i' n nx cn lA k cL tr) : WLF w W.drew i' n nx cn lA k cL tr := h.keep ((Below.refl _ _).drew)
theorem tail_be8 {w V : World} {H n : Nat} (h : Below n w V) (h2 : n ≤ H) (u0 u1 u2 u3 u4 u5 u6 u7 : Value) :
    Below n w ((((((((V.setCell ⟨H, 0, none⟩ u0).setCell ⟨H, 1, none⟩ u1).setCell ⟨H, 2, none⟩ u2).setCell ⟨H, 3, none⟩ u3).setCell ⟨H, 4, none⟩ u4).setCell ⟨H, 5, none⟩ u5).setCell ⟨H, 6, none⟩ u6).setCell ⟨H, 7, none⟩ u7) :=
  bset (bset (bset (bset (bset (bset (bset (bset h h2) h2) h2) h2) h2) h2) h2) h2
theorem tail_us8 {V : World} {A : Option Addr} {H n : Nat} {f : Nat → Int} (h : Us V A n f) (h2 : ∀ b o, A = some ⟨b, o, none⟩ → b ≠ H) (u0 u1 u2 u3 u4 u5 u6 u7 : Value) :
    Us ((((((((V.setCell ⟨H, 0, none⟩ u0).setCell ⟨H, 1, none⟩ u1).setCell ⟨H, 2, none⟩ u2).setCell ⟨H, 3, none⟩ u3).setCell ⟨H, 4, none⟩ u4).setCell ⟨H, 5, none⟩ u5).setCell ⟨H, 6, none⟩ u6).setCell ⟨H, 7, none⟩ u7) A n f :=
  (((((((h.setB h2 u0).setB h2 u1).setB h2 u2).setB h2 u3).setB h2 u4).setB h2 u5).setB h2 u6).setB h2 u7
theorem us_of_own {w : World} {base n c : Nat} {A : Option Addr} {f : Nat → Int} (h : w.ownsRow base 22 1 (.slice A n c) n ((List.range n).map fun i => .int .u32 (f i))) (hn : 0 < n) : Us w A n f := by
  obtain ⟨G, cap, e, _, _, hu, _⟩ := words_own hn h
  injection e with e1 e2 e3
  rw [e1]; exact hu
theorem own_ge {w : World} {base n c : Nat} {A : Option Addr} {xs : List Value} (h : w.ownsRow base 22 1 (.slice A n c) n xs) {b o : Nat} (e : A = some ⟨b, o, none⟩) : base ≤ b := by
  subst e
  exact (World.ownsRow.lt h b rfl).1
set_option maxHeartbeats 16000000 in
set_option maxRecDepth 100000 in
theorem dr_word (i' n nx cn : Int) (lb lo k cL : Nat) (tr : Int) (U : Option Addr) (cu i : Nat) (x : Int) (w : World) (f ws : Nat → Int) (hU : Us w U 40 f) (hL : Us w (some ⟨lb, lo, none⟩) k ws) (hx : f i = x) (ha : i' + nx = i) (hi : i < 40) (h0 : nx = k + 1) (hN : nx ≤ n ∧ n ≤ 32) (hlb : lb < w.heap.size) :
    Calls Tryd.prog 18 #[.agg #[.int .i64 i', .int .i64 n, .int .i64 nx, .int .u32 cn, .slice (some ⟨lb, lo, none⟩) k cL, .bool false, .bool false, .int .i64 tr], .slice U 40 cu] w fun e w' => ∃ A c, e = .returned (.agg #[.int .i64 i', .int .i64 n, .int .i64 (nx + 1), .int .u32 cn, .slice A (k + 1) c, .bool false, .bool false, .int .i64 tr]) ∧ Us w' A (k + 1) (upd ws k x) ∧ Below w.heap.size w w' := by
  obtain ⟨b, o, rfl⟩ := hU.head hi
  have hc := hU.cell hi
  rw [hx] at hc
  obtain ⟨hN1, hN2⟩ := hN
  have hnx1 : 1 ≤ nx := by omega
  have hi0 : (0 : Int) ≤ i := by omega
  have hi1 : (i : Int) < 40 := by omega
  have hs : IntKind.i64.wrap (i' + nx) = i := by rw [IntWalk.i64_in _ (by omega)]; exact ha
  have hs1 : IntKind.i64.wrap (nx + 1) = nx + 1 := IntWalk.i64_in _ (by omega)
  have hnz : (nx == 0) = false := beq_false_of_ne (by omega)
  have hF := wl_facts w i' n nx cn (some ⟨lb, lo, none⟩) k cL tr
  have HF := Lib.hid hF
  have HL := Lib.hid hL
  have HK : Hid (k ≤ 32) := Lib.hid (by omega)
  have HLB := Lib.hid hlb
  have hbl := cell_lt hc
  simp only at hbl
  have hcz := kept hc hF.be
  obtain ⟨W3, hW3⟩ : ∃ W3, W3 = WL w i' n nx cn (some ⟨lb, lo, none⟩) k cL tr := ⟨_, rfl⟩
  have hW3' := hW3
  unfold WL at hW3'
  rw [← hW3] at HF hcz
  have HW3 := Lib.hid hW3'
  have HBL := Lib.hid hbl
  clear hU hL hx ha hi hF hc hW3 hW3' h0 hlb hbl
  go_enter Tryd.func18, Tryd.ntmps18
  go_upto_region 1 with fail
  rw [← HW3.out]
  have c0 := HF.out.c0
  have c1 := HF.out.c1
  have c2 := HF.out.c2
  have c3 := HF.out.c3
  have c4 := HF.out.c4
  have c5 := HF.out.c5
  have c6 := HF.out.c6
  have c7 := HF.out.c7
  go_wp2_with fail
  have HL3 := Lib.hid (HL.out.keep HF.out.be)
  have cza := fun o => al_cell (o := o) hcz
  have c4a := fun o => al_cell (o := o) c4
  have czz := fun o o2 => al_cell (o := o2) (al_cell (o := o) hcz)
  have c4b := fun o o2 => al_cell (o := o2) (al_cell (o := o) c4)
  have hsz3 := HF.out.sz
  have hHs : W3.heap.size ≠ w.heap.size := by omega
  have hHt : W3.heap.size ≠ w.heap.size + 1 := by omega
  go_cut [72] (fun lv wx => ∃ A6 c6, lv = .slice A6 (k + 1) c6 ∧ WLF w wx i' n nx cn A6 (k + 1) c6 tr ∧ Us wx A6 (k + 1) (upd ws k x) ∧ ∀ b o, A6 = some ⟨b, o, none⟩ → w.heap.size + 2 ≤ b)
  case first =>
    have hIN := HF.out.sz
    go_region_law ((
    first
    | (refine step_app_ws rfl _ _ rfl W3.heap.size W3.heap.size rfl (by first | exact heap_alloc_at _ _ _ (by simp) | exact (Below.heap_alloc _ _ _ (by first | (simp; done) | (simp; omega))).trans (heap_alloc_at _ _ _ (by simp))) (Nat.le_refl _) lb lo k cL ws rfl (HL3.out.keep (by repeat (first | exact Below.refl _ _ | refine Below.drew ?_ | refine Below.alloc ?_ (by first | (simp; done) | (simp; omega)) _))) (by have := HK.out; omega) (by first | (simp; done) | (simp; omega)) ?_
       intro A5 d5 w9 hown1 hgrow1
       have hB9 : Below W3.heap.size W3 w9 := Below.grown (by repeat (first | exact Below.refl _ _ | refine Below.drew ?_ | refine Below.alloc ?_ (by first | (simp; done) | (simp; omega)) _)) hgrow1 (by first | (simp; done) | (simp; omega)) (fun q hq => by have := Option.some.inj hq; omega)
       have HO9 := Lib.hid hown1
       have HB9 := Lib.hid hB9
       have HG9 := Lib.hid hgrow1
       have czb := kept hcz hB9
       have czc := fun o => al_cell (o := o) czb
       clear hown1 hgrow1 hB9)
    | (refine step_app_ws rfl _ _ rfl W3.heap.size (W3.heap.size + 1) rfl (by first | exact heap_alloc_at _ _ _ (by simp) | exact (Below.heap_alloc _ _ _ (by first | (simp; done) | (simp; omega))).trans (heap_alloc_at _ _ _ (by simp))) (Nat.le_succ _) lb lo k cL ws rfl (HL3.out.keep (by repeat (first | exact Below.refl _ _ | refine Below.drew ?_ | refine Below.alloc ?_ (by first | (simp; done) | (simp; omega)) _))) (by have := HK.out; omega) (by first | (simp; done) | (simp; omega)) ?_
       intro A5 d5 w9 hown1 hgrow1
       have hB9 : Below W3.heap.size W3 w9 := Below.grown (by repeat (first | exact Below.refl _ _ | refine Below.drew ?_ | refine Below.alloc ?_ (by first | (simp; done) | (simp; omega)) _)) hgrow1 (by first | (simp; done) | (simp; omega)) (fun q hq => by have := Option.some.inj hq; omega)
       have HO9 := Lib.hid hown1
       have HB9 := Lib.hid hB9
       have HG9 := Lib.hid hgrow1
       have czb := kept hcz hB9
       have czc := fun o => al_cell (o := o) czb
       clear hown1 hgrow1 hB9)
    | (refine step_app_w1 rfl _ _ rfl W3.heap.size w9.heap.size A5 d5 k ws rfl (by first | exact HO9.out | exact HO9.out.drew | exact HO9.out.drew.drew | exact HO9.out.alloc _ | exact (HO9.out.alloc _).drew | exact (HO9.out.drew.alloc _) | exact (HO9.out.drew.alloc _).drew) x rfl (by exact heap_alloc_at _ _ _ (by simp)) (by have := HK.out; omega) (by have := HB9.out.size; first | exact this | (simp; omega)) ?_
       intro A6 dcap w10 hown2 hgrow2
       have hB10 : Below W3.heap.size W3 w10 := Below.grown (by repeat (first | exact HB9.out | refine Below.drew ?_ | refine Below.alloc ?_ (by have := HB9.out.size; first | exact this | (simp; exact this)) _)) hgrow2 (by have := HB9.out.size; first | exact this | (simp; omega)) (fun q hq => (World.ownsRow.lt HO9.out q hq).1)
       have HB10 := Lib.hid hB10
       have HO10 := Lib.hid hown2
       have HF10 := Lib.hid (HF.out.keep (hB10.mono HF.out.sz))
       have d4 := HF10.out.c4
       have g4 := HF10.out.f0 4
       clear hown2 hgrow2 hB10)
    | (refine step_app_w1 rfl _ _ rfl W3.heap.size (W3.heap.size + 1) A5 d5 k ws rfl (by first | exact HO9.out | exact HO9.out.drew | exact HO9.out.drew.drew | exact HO9.out.alloc _ | exact (HO9.out.alloc _).drew | exact (HO9.out.drew.alloc _) | exact (HO9.out.drew.alloc _).drew) x rfl (by exact (HG9.out.block _ (by first | (simp; done) | (simp; omega)) (by first | (simp; done) | (simp; omega))).trans (heap_alloc_at _ _ _ (by simp))) (by have := HK.out; omega) (by have := HB9.out.size; first | exact this | (simp; omega)) ?_
       intro A6 dcap w10 hown2 hgrow2
       have hB10 : Below W3.heap.size W3 w10 := Below.grown (by repeat (first | exact HB9.out | refine Below.drew ?_ | refine Below.alloc ?_ (by have := HB9.out.size; first | exact this | (simp; exact this)) _)) hgrow2 (by have := HB9.out.size; first | exact this | (simp; omega)) (fun q hq => (World.ownsRow.lt HO9.out q hq).1)
       have HB10 := Lib.hid hB10
       have HO10 := Lib.hid hown2
       have HF10 := Lib.hid (HF.out.keep (hB10.mono HF.out.sz))
       have d4 := HF10.out.c4
       have g4 := HF10.out.f0 4
       clear hown2 hgrow2 hB10)
    | (refine step_app_w1 rfl _ _ rfl W3.heap.size W3.heap.size A5 d5 k ws rfl (by first | exact HO9.out | exact HO9.out.drew | exact HO9.out.drew.drew | exact HO9.out.alloc _ | exact (HO9.out.alloc _).drew | exact (HO9.out.drew.alloc _) | exact (HO9.out.drew.alloc _).drew) x rfl (by exact (HG9.out.block _ (by first | (simp; done) | (simp; omega)) (by first | (simp; done) | (simp; omega))).trans ((Below.heap_alloc _ _ _ (by first | (simp; done) | (simp; omega))).trans (heap_alloc_at _ _ _ (by simp)))) (by have := HK.out; omega) (by have := HB9.out.size; first | exact this | (simp; omega)) ?_
       intro A6 dcap w10 hown2 hgrow2
       have hB10 : Below W3.heap.size W3 w10 := Below.grown (by repeat (first | exact HB9.out | refine Below.drew ?_ | refine Below.alloc ?_ (by have := HB9.out.size; first | exact this | (simp; exact this)) _)) hgrow2 (by have := HB9.out.size; first | exact this | (simp; omega)) (fun q hq => (World.ownsRow.lt HO9.out q hq).1)
       have HB10 := Lib.hid hB10
       have HO10 := Lib.hid hown2
       have HF10 := Lib.hid (HF.out.keep (hB10.mono HF.out.sz))
       have d4 := HF10.out.c4
       have g4 := HF10.out.f0 4
       clear hown2 hgrow2 hB10)))
    all_goals
      go_wp2_with fail
      go_meet
      case rel =>
        have hus := us_of_own HO10.out (Nat.succ_pos _)
        have hof : ∀ b o, A6 = some ⟨b, o, none⟩ → w.heap.size + 2 ≤ b := fun b o e => Nat.le_trans hIN (own_ge HO10.out e)
        first
          | exact ⟨A6, dcap, rfl, (HF10.out.set4 _ _ _).drew, us_drew' (hus.setB (fun b o e => by have := hof b o e; omega) _), hof⟩
          | exact ⟨A6, dcap, rfl, HF10.out.set4 _ _ _, hus.setB (fun b o e => by have := hof b o e; omega) _, hof⟩
  case rest =>
    obtain ⟨A6, cR, rfl, hF2, hus, hof⟩ := hcut
    have HF2 := Lib.hid hF2
    have HUS := Lib.hid hus
    have HOF := Lib.hid hof
    have c0 := hF2.c0
    have y0 := hF2.z0
    have g0 := hF2.f0 0
    have h0 := hF2.f1 0
    have c1 := hF2.c1
    have y1 := hF2.z1
    have g1 := hF2.f0 1
    have h1 := hF2.f1 1
    have c2 := hF2.c2
    have y2 := hF2.z2
    have g2 := hF2.f0 2
    have h2 := hF2.f1 2
    have c3 := hF2.c3
    have y3 := hF2.z3
    have g3 := hF2.f0 3
    have h3 := hF2.f1 3
    have c4 := hF2.c4
    have y4 := hF2.z4
    have g4 := hF2.f0 4
    have h4 := hF2.f1 4
    have c5 := hF2.c5
    have y5 := hF2.z5
    have g5 := hF2.f0 5
    have h5 := hF2.f1 5
    have c6 := hF2.c6
    have y6 := hF2.z6
    have g6 := hF2.f0 6
    have h6 := hF2.f1 6
    have c7 := hF2.c7
    have y7 := hF2.z7
    have g7 := hF2.f0 7
    have h7 := hF2.f1 7
    clear hF2 hus hof c4a c4b cza czz hcz
    go_wp2_with fail
    refine bodyPost_ret (v := .agg #[.int .i64 i', .int .i64 n, .int .i64 (nx + 1), .int .u32 cn, .slice A6 (k + 1) cR, .bool false, .bool false, .int .i64 tr]) (by simp [results, Tryd.results18, go_sem, same_some, y0, y1, y2, y3, y4, y5, y6, y7]) rfl ⟨A6, cR, rfl, ?_, ?_⟩
    · exact tail_us8 (HUS.out.setB (fun b o e => by have := HOF.out b o e; omega) _) (fun b o e => by have := HOF.out b o e; omega) _ _ _ _ _ _ _ _
    · exact tail_be8 (bset HF2.out.be (Nat.le_refl _)) (Nat.le_succ _) _ _ _ _ _ _ _ _
end Go.Proofs.YtoaaeamogpdcgaaDoor
