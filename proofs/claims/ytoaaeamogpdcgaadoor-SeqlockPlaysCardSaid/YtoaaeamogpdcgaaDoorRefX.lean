/-
  Some steps again, with where their lists lie.
-/
import Derived.Test.YtoaaeamogpdcgaaDoorRefL
namespace Go.Proofs.YtoaaeamogpdcgaaDoor
open Go.RowKit

theorem sq_write2 {H : Nat} {w : World} {q : Sb} {f : Nat → Int} {C : Nat} {s : Wr} {r : Rd} (h : Sq H w q f C s r) (hC : C ≤ 1000000) (d : Bool) (hd : decide (3 ≤ (s.step q.n).k.ph) = d) :
    Calls Tryd.prog 17 #[.pointer (some ⟨q.B, 0, none⟩), .pointer (some ⟨q.g, 0, none⟩)] w fun e w' => e = .returned (.bool d) ∧ Sq H w' q (s.word q.n f) (C + 1) (s.step q.n) r ∧ Chg (ST q.g q.b q.B) w w' := by
  obtain ⟨c, c0, c1, hm⟩ := h.mem
  subst hd
  refine (writer_step q.B q.g q.b q.n q.A q.ca s f c w h.wr h.ne.1 h.ne.2.1 (fun b o e hs => ?_) h.gok hm h.n1 (by omega)).mono ?_
  · have := h.of b o e
    rcases hs with rfl | rfl | rfl
    · exact this.1 rfl
    · exact this.2.1 rfl
    · exact this.2.2.1 rfl
  · rintro e w' ⟨he, ⟨c', h1, h2, hm'⟩, hw, hC'⟩
    have hlo : ∀ k, ST q.g q.b q.B k → H ≤ k := fun k hk => by
      have := h.lo
      rcases hk with rfl | rfl | rfl <;> omega
    have hs : H ≤ w.heap.size := by have := hm.ltg; have := h.lo.1; omega
    refine ⟨he, ⟨⟨c', by omega, by omega, hm'⟩, hw, h.rd.chg hC' (fun hk => ?_), hC'.six (fun k hk => by have := hlo k hk; have := h.lo; omega) h.gok, h.wfw, ?_, h.lo, h.ne, h.of, h.n1⟩, hC'⟩
    · have := h.ne
      rcases hk with e | e | e
      · exact this.2.2.1 e.symm
      · exact this.2.2.2.1 e.symm
      · exact this.2.2.2.2 e.symm
    · rw [Wr.step_L, Wr.step_V, Wr.step_n]; exact h.vf
theorem sq_read2 {H : Nat} {w : World} {q : Sb} {f : Nat → Int} {C : Nat} {s : Wr} {r : Rd} (h : Sq H w q f C s r) (hC : C ≤ 1000000) (ht : r.tr + 1 ≤ 1000000) (d : Bool) (hd : decide (3 ≤ (r.step q.n f).k.ph) = d) :
    Calls Tryd.prog 19 #[.pointer (some ⟨q.R, 0, none⟩), .pointer (some ⟨q.g, 0, none⟩)] w fun e w' => e = .returned (.bool d) ∧ Sq H w' q f (C + 1) s (r.step q.n f) ∧ Chg (ST q.g q.b q.R) w w' := by
  obtain ⟨c, c0, c1, hm⟩ := h.mem
  subst hd
  refine (reader_step q.R q.g q.b q.n r f c w h.rd h.ne.2.2.1 h.ne.2.2.2.1 h.gok hm h.n1 (by omega) h.wf ht).mono ?_
  rintro e w' ⟨he, ⟨c', h1, h2, hm'⟩, hr, hC'⟩
  have hlo : ∀ k, ST q.g q.b q.R k → H ≤ k := fun k hk => by
    have := h.lo
    rcases hk with rfl | rfl | rfl <;> omega
  have hs : H ≤ w.heap.size := by have := hm.ltg; have := h.lo.1; omega
  refine ⟨he, ⟨⟨c', by omega, by omega, hm'⟩, h.wr.chg hC' (fun hk => ?_) (fun b o e hs => ?_), hr, hC'.six (fun k hk => by have := hlo k hk; have := h.lo; omega) h.gok, h.wf, h.vf, h.lo, h.ne, h.of, h.n1⟩, hC'⟩
  · have := h.ne
    rcases hk with e | e | e
    · exact this.1 e.symm
    · exact this.2.1 e.symm
    · exact this.2.2.2.2 e
  · have := h.of b o e
    rcases hs with rfl | rfl | rfl
    · exact this.1 rfl
    · exact this.2.1 rfl
    · exact this.2.2.2 rfl
def DGo2 (d' : Dw) (f' : Nat → Int) (w : World) (e : Ending) (w' : World) : Prop := ∃ G c, w.heap.size ≤ G ∧ e = .returned (.tuple #[dwV d', .slice (some ⟨G, 0, none⟩) 40 c]) ∧ Us w' (some ⟨G, 0, none⟩) 40 f' ∧ (∀ j, w'.frozen? ⟨G, j, none⟩ = false) ∧ Below w.heap.size w w'
set_option maxHeartbeats 4000000 in
set_option maxRecDepth 100000 in
theorem dw_go2 (d : Dw) (fA fV : Nat → Int) (fD fE : Nat → Bool) (U : Option Addr) (cu i : Nat) (f : Nat → Int) (w : World) (hU : Us w U 40 f) (hd : d.did < d.M) (hO : DwOk w d fA fV fD fE) (hi : fA d.did = i) (hi2 : i < 40) (hM : d.M ≤ 1000000) :
    Calls Tryd.prog 16 #[dwV d, .slice U 40 cu] w fun e w' => DGo2 { d with did := d.did + 1, done := decide (d.did + 1 = d.M) } (upd f i (if fD d.did = true then inc (f i) else fV d.did)) w e w' := by
  obtain ⟨pA, cA, pV, cV, pD, cD, pE, cE, M, did, done⟩ := d
  have hd : did < M := hd
  have hM : M ≤ 1000000 := hM
  have hF := wd_facts w ⟨pA, cA, pV, cV, pD, cD, pE, cE, M, did, done⟩
  obtain ⟨b, o, e, hc⟩ := hO.a did hd
  obtain ⟨b2, o2, e2, hc2⟩ := hO.v did hd
  obtain ⟨b3, o3, e3, hc3⟩ := hO.dd did hd
  have e : pA = some ⟨b, o, none⟩ := e
  have e2 : pV = some ⟨b2, o2, none⟩ := e2
  have e3 : pD = some ⟨b3, o3, none⟩ := e3
  subst e e2 e3
  have hc : w.cell? ⟨b, o + did, none⟩ = some (.int .i64 (fA did)) := hc
  have hi : fA did = i := hi
  rw [hi] at hc
  have hc2 : w.cell? ⟨b2, o2 + did, none⟩ = some (.int .u32 (fV did)) := hc2
  have hc3 : w.cell? ⟨b3, o3 + did, none⟩ = some (.bool (fD did)) := hc3
  show Calls Tryd.prog 16 _ w fun e w' => DGo2 _ (upd f i (if fD did = true then inc (f i) else fV did)) w e w'
  obtain ⟨y, hy⟩ : ∃ y, y = fV did := ⟨_, rfl⟩
  obtain ⟨z, hz⟩ : ∃ z, z = fD did := ⟨_, rfl⟩
  rw [← hy] at hc2 ⊢
  rw [← hz] at hc3 ⊢
  have hne : ((did : Int) == M) = false := beq_false_of_ne (by omega)
  have h0 : (0 : Int) ≤ did := by omega
  have h1 : (did : Int) < M := by omega
  have hi0 : (0 : Int) ≤ i := by omega
  have hi1 : (i : Int) < 40 := by omega
  simp only [WD, Box6, dw0] at hF
  obtain ⟨⟨c0, c1, c2, c3, c4, c5⟩, ⟨z0, z1, z2, z3, z4, z5⟩, f0, f1, hB0, hs0⟩ := hF
  have x1 := kept hc hB0
  have HUW := Lib.hid (hU.keep hB0)
  have hsum : IntKind.i64.wrap ((did : Int) + 1) = (did : Int) + 1 := IntWalk.i64_in _ (by omega)
  have HC := Lib.hid (And.intro c0 (And.intro c1 (And.intro c2 (And.intro c3 (And.intro c4 c5)))))
  have HZ := Lib.hid (And.intro z0 (And.intro z1 (And.intro z2 (And.intro z3 (And.intro z4 z5)))))
  have HFZ := Lib.hid (And.intro f0 f1)
  have HB0 := Lib.hid hB0
  have HS0 := Lib.hid hs0
  have HX := Lib.hid (And.intro hc (And.intro hc2 hc3))
  obtain ⟨dn, hdn⟩ : ∃ dn : Bool, dn = ((did : Int) + 1 == M) := ⟨_, rfl⟩
  have hdd : Hid (decide (did + 1 = M) = dn) := Lib.hid (by rw [hdn]; by_cases h : did + 1 = M <;> simp [h] <;> omega)
  simp only [dwV]
  clear hO hU hy hz hi c0 c1 c2 c3 c4 c5 z0 z1 z2 z3 z4 z5 f0 f1 hB0 hs0 hc hc2 hc3
  go_enter Tryd.func16, Tryd.ntmps16
  go_wp2_with (at_builtin; refine wpList_append_words rfl _ _ rfl (by decide) (by decide) HUW.out (w.heap.size + 2) (by simp) (by rfl) (by rfl) ?_)
  intro G cap' w2 hG1 hG2 hUs hFz hB2
  replace hB2 := hB2.mono (show w.heap.size + 2 ≤ _ by simp)
  have HUS := Lib.hid hUs
  have hx := hUs.cell hi2
  rw [Nat.zero_add] at hx
  have hfx := hFz i
  obtain ⟨c0, c1, c2, c3, c4, c5⟩ := HC.out
  obtain ⟨z0, z1, z2, z3, z4, z5⟩ := HZ.out
  obtain ⟨f0, f1⟩ := HFZ.out
  have hs0 := HS0.out
  have hbl := cell_lt HX.out.1
  have hbl2 := cell_lt HX.out.2.1
  have hbl3 := cell_lt HX.out.2.2
  simp only at hbl hbl2 hbl3
  have k0 := keptn c0 hB2 (by dsimp only; omega)
  have m0 := keptn z0 hB2 (by dsimp only; omega)
  have k1 := keptn c1 hB2 (by dsimp only; omega)
  have m1 := keptn z1 hB2 (by dsimp only; omega)
  have k2 := keptn c2 hB2 (by dsimp only; omega)
  have m2 := keptn z2 hB2 (by dsimp only; omega)
  have k3 := keptn c3 hB2 (by dsimp only; omega)
  have m3 := keptn z3 hB2 (by dsimp only; omega)
  have k4 := keptn c4 hB2 (by dsimp only; omega)
  have m4 := keptn z4 hB2 (by dsimp only; omega)
  have k5 := keptn c5 hB2 (by dsimp only; omega)
  have m5 := keptn z5 hB2 (by dsimp only; omega)
  have q4 : w2.frozen? ⟨w.heap.size, 4, none⟩ = false := by rw [hB2.frozen (p := ⟨w.heap.size, 4, none⟩) (by dsimp only; omega)]; exact f0 4
  have q5 : w2.frozen? ⟨w.heap.size, 5, none⟩ = false := by rw [hB2.frozen (p := ⟨w.heap.size, 5, none⟩) (by dsimp only; omega)]; exact f0 5
  have y0 : w2.frozen? ⟨w.heap.size + 1, 0, none⟩ = false := by rw [hB2.frozen (p := ⟨w.heap.size + 1, 0, none⟩) (by dsimp only; omega)]; exact f1 0
  have y1 : w2.frozen? ⟨w.heap.size + 1, 1, none⟩ = false := by rw [hB2.frozen (p := ⟨w.heap.size + 1, 1, none⟩) (by dsimp only; omega)]; exact f1 1
  have y2 : w2.frozen? ⟨w.heap.size + 1, 2, none⟩ = false := by rw [hB2.frozen (p := ⟨w.heap.size + 1, 2, none⟩) (by dsimp only; omega)]; exact f1 2
  have y3 : w2.frozen? ⟨w.heap.size + 1, 3, none⟩ = false := by rw [hB2.frozen (p := ⟨w.heap.size + 1, 3, none⟩) (by dsimp only; omega)]; exact f1 3
  have y4 : w2.frozen? ⟨w.heap.size + 1, 4, none⟩ = false := by rw [hB2.frozen (p := ⟨w.heap.size + 1, 4, none⟩) (by dsimp only; omega)]; exact f1 4
  have y5 : w2.frozen? ⟨w.heap.size + 1, 5, none⟩ = false := by rw [hB2.frozen (p := ⟨w.heap.size + 1, 5, none⟩) (by dsimp only; omega)]; exact f1 5
  have v1 := keptn (kept HX.out.1 HB0.out) hB2 (by dsimp only; omega)
  have v2 := keptn (kept HX.out.2.1 HB0.out) hB2 (by dsimp only; omega)
  have v3 := keptn (kept HX.out.2.2 HB0.out) hB2 (by dsimp only; omega)
  have HBW := Lib.hid (HB0.out.trans (hB2.mono (by omega)))
  have HFZ2 := Lib.hid hFz
  have hG0 : w.heap.size ≠ G := by omega
  have hG3 : G ≠ w.heap.size := by omega
  have hG4 : w.heap.size + 1 ≠ G := by omega
  have hG5 : G ≠ w.heap.size + 1 := by omega
  have hb1 : b ≠ G := by omega
  have hb2 : b2 ≠ G := by omega
  have hb3 : b ≠ w.heap.size := by omega
  have hb4 : b2 ≠ w.heap.size := by omega
  clear hUs hFz hB2 f0 f1 hs0 c0 c1 c2 c3 c4 c5 z0 z1 z2 z3 z4 z5 hbl hbl2 hbl3 x1
  cases z with
  | true =>
    go_wp2_with fail
    refine bodyPost_ret (v := .tuple #[.agg #[.slice (some ⟨b, o, none⟩) M cA, .slice (some ⟨b2, o2, none⟩) M cV, .slice (some ⟨b3, o3, none⟩) M cD, .slice pE M cE, .int .i64 ((did : Int) + 1), .bool ((did : Int) + 1 == M)], .slice (some ⟨G, 0, none⟩) 40 cap']) (by simp [results, Tryd.results16, go_sem, same_some, m0, m1, m2, m3, m4, m5]) rfl ⟨G, cap', by omega, by rw [← hdn, ← hdd.out]; simp [dwV], ?_, ?_, ?_⟩
    · exact tail_us (Us.out (a := ⟨w.heap.size, 5, none⟩) (Us.out (a := ⟨w.heap.size, 4, none⟩) (Us.set0 HUS.out hi2 _) hG0) hG0) hG4 _ _ _ _ _ _
    · intro j; simp only [World.frozen?_setCell]; exact HFZ2.out j
    · exact tail_be (bset (bset (bset HBW.out (show w.heap.size ≤ G by omega)) (Nat.le_refl _)) (Nat.le_refl _)) (by omega) _ _ _ _ _ _
  | false =>
    go_wp2_with fail
    go_region
    go_wp2_with fail
    refine bodyPost_ret (v := .tuple #[.agg #[.slice (some ⟨b, o, none⟩) M cA, .slice (some ⟨b2, o2, none⟩) M cV, .slice (some ⟨b3, o3, none⟩) M cD, .slice pE M cE, .int .i64 ((did : Int) + 1), .bool ((did : Int) + 1 == M)], .slice (some ⟨G, 0, none⟩) 40 cap']) (by simp [results, Tryd.results16, go_sem, same_some, m0, m1, m2, m3, m4, m5]) rfl ⟨G, cap', by omega, by rw [← hdn, ← hdd.out]; simp [dwV], ?_, ?_, ?_⟩
    · exact us_drew' (tail_us (Us.out (a := ⟨w.heap.size, 5, none⟩) (Us.out (a := ⟨w.heap.size, 4, none⟩) (Us.set0 HUS.out hi2 _) hG0) hG0) hG4 _ _ _ _ _ _)
    · intro j; rw [frozen_drew']; simp only [World.frozen?_setCell]; exact HFZ2.out j
    · exact (tail_be (bset (bset (bset HBW.out (show w.heap.size ≤ G by omega)) (Nat.le_refl _)) (Nat.le_refl _)) (by omega) _ _ _ _ _ _).drew
set_option maxHeartbeats 16000000 in
set_option maxRecDepth 100000 in
theorem dr_word2 (i' n nx cn : Int) (lb lo k cL : Nat) (tr : Int) (U : Option Addr) (cu i : Nat) (x : Int) (w : World) (f ws : Nat → Int) (hU : Us w U 40 f) (hL : Us w (some ⟨lb, lo, none⟩) k ws) (hx : f i = x) (ha : i' + nx = i) (hi : i < 40) (h0 : nx = k + 1) (hN : nx ≤ n ∧ n ≤ 32) (hlb : lb < w.heap.size) :
    Calls Tryd.prog 18 #[.agg #[.int .i64 i', .int .i64 n, .int .i64 nx, .int .u32 cn, .slice (some ⟨lb, lo, none⟩) k cL, .bool false, .bool false, .int .i64 tr], .slice U 40 cu] w fun e w' => ∃ A c, e = .returned (.agg #[.int .i64 i', .int .i64 n, .int .i64 (nx + 1), .int .u32 cn, .slice A (k + 1) c, .bool false, .bool false, .int .i64 tr]) ∧ Us w' A (k + 1) (upd ws k x) ∧ (∀ b o, A = some ⟨b, o, none⟩ → w.heap.size ≤ b) ∧ Below w.heap.size w w' := by
  obtain ⟨b, o, rfl⟩ := hU.head hi
  have hc := hU.cell hi
  rw [hx] at hc
  obtain ⟨hN1, hN2⟩ := hN
  have hnx1 : 1 ≤ nx := by omega
  have hi0 : (0 : Int) ≤ i := by omega
  have hi1 : (i : Int) < 40 := by omega
  have hs : IntKind.i64.wrap (i' + nx) = i := by rw [IntWalk.i64_in _ (by omega)]; exact ha
  have hs1 : IntKind.i64.wrap (nx + 1) = nx + 1 := IntWalk.i64_in _ (by omega)
  have hnz : (nx == 0) = false := beq_false_of_ne (by omega)
  have hF := wl_facts w i' n nx cn (some ⟨lb, lo, none⟩) k cL tr
  have HF := Lib.hid hF
  have HL := Lib.hid hL
  have HK : Hid (k ≤ 32) := Lib.hid (by omega)
  have HLB := Lib.hid hlb
  have hbl := cell_lt hc
  simp only at hbl
  have hcz := kept hc hF.be
  obtain ⟨W3, hW3⟩ : ∃ W3, W3 = WL w i' n nx cn (some ⟨lb, lo, none⟩) k cL tr := ⟨_, rfl⟩
  have hW3' := hW3
  unfold WL at hW3'
  rw [← hW3] at HF hcz
  have HW3 := Lib.hid hW3'
  have HBL := Lib.hid hbl
  clear hU hL hx ha hi hF hc hW3 hW3' h0 hlb hbl
  go_enter Tryd.func18, Tryd.ntmps18
  go_upto_region 1 with fail
  rw [← HW3.out]
  have c0 := HF.out.c0
  have c1 := HF.out.c1
  have c2 := HF.out.c2
  have c3 := HF.out.c3
  have c4 := HF.out.c4
  have c5 := HF.out.c5
  have c6 := HF.out.c6
  have c7 := HF.out.c7
  go_wp2_with fail
  have HL3 := Lib.hid (HL.out.keep HF.out.be)
  have cza := fun o => al_cell (o := o) hcz
  have c4a := fun o => al_cell (o := o) c4
  have czz := fun o o2 => al_cell (o := o2) (al_cell (o := o) hcz)
  have c4b := fun o o2 => al_cell (o := o2) (al_cell (o := o) c4)
  have hsz3 := HF.out.sz
  have hHs : W3.heap.size ≠ w.heap.size := by omega
  have hHt : W3.heap.size ≠ w.heap.size + 1 := by omega
  go_cut [72] (fun lv wx => ∃ A6 c6, lv = .slice A6 (k + 1) c6 ∧ WLF w wx i' n nx cn A6 (k + 1) c6 tr ∧ Us wx A6 (k + 1) (upd ws k x) ∧ ∀ b o, A6 = some ⟨b, o, none⟩ → w.heap.size + 2 ≤ b)
  case first =>
    have hIN := HF.out.sz
    go_region_law ((
    first
    | (refine step_app_ws rfl _ _ rfl W3.heap.size W3.heap.size rfl (by first | exact heap_alloc_at _ _ _ (by simp) | exact (Below.heap_alloc _ _ _ (by first | (simp; done) | (simp; omega))).trans (heap_alloc_at _ _ _ (by simp))) (Nat.le_refl _) lb lo k cL ws rfl (HL3.out.keep (by repeat (first | exact Below.refl _ _ | refine Below.drew ?_ | refine Below.alloc ?_ (by first | (simp; done) | (simp; omega)) _))) (by have := HK.out; omega) (by first | (simp; done) | (simp; omega)) ?_
       intro A5 d5 w9 hown1 hgrow1
       have hB9 : Below W3.heap.size W3 w9 := Below.grown (by repeat (first | exact Below.refl _ _ | refine Below.drew ?_ | refine Below.alloc ?_ (by first | (simp; done) | (simp; omega)) _)) hgrow1 (by first | (simp; done) | (simp; omega)) (fun q hq => by have := Option.some.inj hq; omega)
       have HO9 := Lib.hid hown1
       have HB9 := Lib.hid hB9
       have HG9 := Lib.hid hgrow1
       have czb := kept hcz hB9
       have czc := fun o => al_cell (o := o) czb
       clear hown1 hgrow1 hB9)
    | (refine step_app_ws rfl _ _ rfl W3.heap.size (W3.heap.size + 1) rfl (by first | exact heap_alloc_at _ _ _ (by simp) | exact (Below.heap_alloc _ _ _ (by first | (simp; done) | (simp; omega))).trans (heap_alloc_at _ _ _ (by simp))) (Nat.le_succ _) lb lo k cL ws rfl (HL3.out.keep (by repeat (first | exact Below.refl _ _ | refine Below.drew ?_ | refine Below.alloc ?_ (by first | (simp; done) | (simp; omega)) _))) (by have := HK.out; omega) (by first | (simp; done) | (simp; omega)) ?_
       intro A5 d5 w9 hown1 hgrow1
       have hB9 : Below W3.heap.size W3 w9 := Below.grown (by repeat (first | exact Below.refl _ _ | refine Below.drew ?_ | refine Below.alloc ?_ (by first | (simp; done) | (simp; omega)) _)) hgrow1 (by first | (simp; done) | (simp; omega)) (fun q hq => by have := Option.some.inj hq; omega)
       have HO9 := Lib.hid hown1
       have HB9 := Lib.hid hB9
       have HG9 := Lib.hid hgrow1
       have czb := kept hcz hB9
       have czc := fun o => al_cell (o := o) czb
       clear hown1 hgrow1 hB9)
    | (refine step_app_w1 rfl _ _ rfl W3.heap.size w9.heap.size A5 d5 k ws rfl (by first | exact HO9.out | exact HO9.out.drew | exact HO9.out.drew.drew | exact HO9.out.alloc _ | exact (HO9.out.alloc _).drew | exact (HO9.out.drew.alloc _) | exact (HO9.out.drew.alloc _).drew) x rfl (by exact heap_alloc_at _ _ _ (by simp)) (by have := HK.out; omega) (by have := HB9.out.size; first | exact this | (simp; omega)) ?_
       intro A6 dcap w10 hown2 hgrow2
       have hB10 : Below W3.heap.size W3 w10 := Below.grown (by repeat (first | exact HB9.out | refine Below.drew ?_ | refine Below.alloc ?_ (by have := HB9.out.size; first | exact this | (simp; exact this)) _)) hgrow2 (by have := HB9.out.size; first | exact this | (simp; omega)) (fun q hq => (World.ownsRow.lt HO9.out q hq).1)
       have HB10 := Lib.hid hB10
       have HO10 := Lib.hid hown2
       have HF10 := Lib.hid (HF.out.keep (hB10.mono HF.out.sz))
       have d4 := HF10.out.c4
       have g4 := HF10.out.f0 4
       clear hown2 hgrow2 hB10)
    | (refine step_app_w1 rfl _ _ rfl W3.heap.size (W3.heap.size + 1) A5 d5 k ws rfl (by first | exact HO9.out | exact HO9.out.drew | exact HO9.out.drew.drew | exact HO9.out.alloc _ | exact (HO9.out.alloc _).drew | exact (HO9.out.drew.alloc _) | exact (HO9.out.drew.alloc _).drew) x rfl (by exact (HG9.out.block _ (by first | (simp; done) | (simp; omega)) (by first | (simp; done) | (simp; omega))).trans (heap_alloc_at _ _ _ (by simp))) (by have := HK.out; omega) (by have := HB9.out.size; first | exact this | (simp; omega)) ?_
       intro A6 dcap w10 hown2 hgrow2
       have hB10 : Below W3.heap.size W3 w10 := Below.grown (by repeat (first | exact HB9.out | refine Below.drew ?_ | refine Below.alloc ?_ (by have := HB9.out.size; first | exact this | (simp; exact this)) _)) hgrow2 (by have := HB9.out.size; first | exact this | (simp; omega)) (fun q hq => (World.ownsRow.lt HO9.out q hq).1)
       have HB10 := Lib.hid hB10
       have HO10 := Lib.hid hown2
       have HF10 := Lib.hid (HF.out.keep (hB10.mono HF.out.sz))
       have d4 := HF10.out.c4
       have g4 := HF10.out.f0 4
       clear hown2 hgrow2 hB10)
    | (refine step_app_w1 rfl _ _ rfl W3.heap.size W3.heap.size A5 d5 k ws rfl (by first | exact HO9.out | exact HO9.out.drew | exact HO9.out.drew.drew | exact HO9.out.alloc _ | exact (HO9.out.alloc _).drew | exact (HO9.out.drew.alloc _) | exact (HO9.out.drew.alloc _).drew) x rfl (by exact (HG9.out.block _ (by first | (simp; done) | (simp; omega)) (by first | (simp; done) | (simp; omega))).trans ((Below.heap_alloc _ _ _ (by first | (simp; done) | (simp; omega))).trans (heap_alloc_at _ _ _ (by simp)))) (by have := HK.out; omega) (by have := HB9.out.size; first | exact this | (simp; omega)) ?_
       intro A6 dcap w10 hown2 hgrow2
       have hB10 : Below W3.heap.size W3 w10 := Below.grown (by repeat (first | exact HB9.out | refine Below.drew ?_ | refine Below.alloc ?_ (by have := HB9.out.size; first | exact this | (simp; exact this)) _)) hgrow2 (by have := HB9.out.size; first | exact this | (simp; omega)) (fun q hq => (World.ownsRow.lt HO9.out q hq).1)
       have HB10 := Lib.hid hB10
       have HO10 := Lib.hid hown2
       have HF10 := Lib.hid (HF.out.keep (hB10.mono HF.out.sz))
       have d4 := HF10.out.c4
       have g4 := HF10.out.f0 4
       clear hown2 hgrow2 hB10)))
    all_goals
      go_wp2_with fail
      go_meet
      case rel =>
        have hus := us_of_own HO10.out (Nat.succ_pos _)
        have hof : ∀ b o, A6 = some ⟨b, o, none⟩ → w.heap.size + 2 ≤ b := fun b o e => Nat.le_trans hIN (own_ge HO10.out e)
        first
          | exact ⟨A6, dcap, rfl, (HF10.out.set4 _ _ _).drew, us_drew' (hus.setB (fun b o e => by have := hof b o e; omega) _), hof⟩
          | exact ⟨A6, dcap, rfl, HF10.out.set4 _ _ _, hus.setB (fun b o e => by have := hof b o e; omega) _, hof⟩
  case rest =>
    obtain ⟨A6, cR, rfl, hF2, hus, hof⟩ := hcut
    have HF2 := Lib.hid hF2
    have HUS := Lib.hid hus
    have HOF := Lib.hid hof
    have c0 := hF2.c0
    have y0 := hF2.z0
    have g0 := hF2.f0 0
    have h0 := hF2.f1 0
    have c1 := hF2.c1
    have y1 := hF2.z1
    have g1 := hF2.f0 1
    have h1 := hF2.f1 1
    have c2 := hF2.c2
    have y2 := hF2.z2
    have g2 := hF2.f0 2
    have h2 := hF2.f1 2
    have c3 := hF2.c3
    have y3 := hF2.z3
    have g3 := hF2.f0 3
    have h3 := hF2.f1 3
    have c4 := hF2.c4
    have y4 := hF2.z4
    have g4 := hF2.f0 4
    have h4 := hF2.f1 4
    have c5 := hF2.c5
    have y5 := hF2.z5
    have g5 := hF2.f0 5
    have h5 := hF2.f1 5
    have c6 := hF2.c6
    have y6 := hF2.z6
    have g6 := hF2.f0 6
    have h6 := hF2.f1 6
    have c7 := hF2.c7
    have y7 := hF2.z7
    have g7 := hF2.f0 7
    have h7 := hF2.f1 7
    clear hF2 hus hof c4a c4b cza czz hcz
    go_wp2_with fail
    refine bodyPost_ret (v := .agg #[.int .i64 i', .int .i64 n, .int .i64 (nx + 1), .int .u32 cn, .slice A6 (k + 1) cR, .bool false, .bool false, .int .i64 tr]) (by simp [results, Tryd.results18, go_sem, same_some, y0, y1, y2, y3, y4, y5, y6, y7]) rfl ⟨A6, cR, rfl, ?_, fun b o e => by have := HOF.out b o e; omega, ?_⟩
    · exact tail_us8 (HUS.out.setB (fun b o e => by have := HOF.out b o e; omega) _) (fun b o e => by have := HOF.out b o e; omega) _ _ _ _ _ _ _ _
    · exact tail_be8 (bset HF2.out.be (Nat.le_refl _)) (Nat.le_succ _) _ _ _ _ _ _ _ _
end Go.Proofs.YtoaaeamogpdcgaaDoor
