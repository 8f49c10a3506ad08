/-
  plan.Copy: a plan of its own that reads alike.
-/
import Derived.Test.YtkgkjkghdllkhaaDoorCopyA
import Derived.Deep.DeepCutAuto
import Derived.Deep.RegionLaw
import Derived.Deep.RegionHeld3
namespace Go.Proofs.YtkgkjkghdllkhaaDoor.cp
open Go.RowKit

theorem own_base {w : World} {base base' E C n : Nat} {v : Value} {xs : List Value} (h : w.ownsRow base E C v n xs) (hb : base' ≤ base) : w.ownsRow base' E C v n xs := by
  refine ⟨h.1, ?_⟩
  rcases h.2 with hn | ⟨g, cap, cur, hv, hg, rest⟩
  · exact .inl hn
  · exact .inr ⟨g, cap, cur, hv, Nat.le_trans hb hg, rest⟩
theorem set5 {w : World} {b c j : Nat} {v : Value} (v0 v1 v2 v3 v4 : Value) (hn : c ≠ b) (hc : w.cell? ⟨c, j, none⟩ = some v) : (((((w.setCell ⟨b, 0, none⟩ v0).setCell ⟨b, 1, none⟩ v1).setCell ⟨b, 2, none⟩ v2).setCell ⟨b, 3, none⟩ v3).setCell ⟨b, 4, none⟩ v4).cell? ⟨c, j, none⟩ = some v := by
  have h : ∀ (W : World) (o : Nat) (u : Value), (W.setCell ⟨b, o, none⟩ u).cell? ⟨c, j, none⟩ = W.cell? ⟨c, j, none⟩ := fun W o u => World.cell?_setCell_other _ _ _ _ (fun e => by injection e with e1 _ _; exact hn e1.symm)
  rw [h, h, h, h, h]
  exact hc
theorem QBox.set5 {w : World} {b : Nat} {fr0 : Int} {u1 u2 u3 u4 : Value} (h : QBox w b fr0 u1 u2 u3 u4) (fr : Int) (v1 v2 v3 v4 : Value) : QBox (((((w.setCell ⟨b, 0, none⟩ (.int .u16 fr)).setCell ⟨b, 1, none⟩ v1).setCell ⟨b, 2, none⟩ v2).setCell ⟨b, 3, none⟩ v3).setCell ⟨b, 4, none⟩ v4) b fr v1 v2 v3 v4 := by
  have h0 : QBox (w.setCell ⟨b, 0, none⟩ (.int .u16 fr)) b fr u1 u2 u3 u4 := by unfold QBox; rw [heap_setCell_same w b 0 _ 28 _ h]; rfl
  have h3 := ((h0.set1 (v := v1)).set2 (v := v2)).set3 (v := v3)
  unfold QBox; rw [heap_setCell_same _ b 4 _ 28 _ h3]; rfl
theorem only5 (w : World) (b : Nat) (v0 v1 v2 v3 v4 : Value) : Only b w.heap.size w (((((w.setCell ⟨b, 0, none⟩ v0).setCell ⟨b, 1, none⟩ v1).setCell ⟨b, 2, none⟩ v2).setCell ⟨b, 3, none⟩ v3).setCell ⟨b, 4, none⟩ v4) :=
  (((((Only.refl _ _ _).set _).set _).set _).set _).set _
theorem cp1_of {P : PlanA} {w0 w2 wx : World} {bq n3 n4 : Nat} {V3 V4 : Value} (hb : QBox wx bq P.1 (.slice none 0 0) (.slice none 0 0) V3 V4) (h0 : w0.heap.size ≤ bq) (hB : Below w0.heap.size w0 w2) (hO : Only bq w2.heap.size w2 wx)
    (h3 : w2.ownsRow n3 60 6 V3 P.2.2.2.1.length (P.2.2.2.1.flatMap chanV)) (h4 : w2.ownsRow n4 62 2 V4 P.2.2.2.2.length (P.2.2.2.2.flatMap semV)) (hn3 : w0.heap.size ≤ n3) (hn4 : w0.heap.size ≤ n4)
    (q3 : V3.ownBlock ≠ some bq) (q4 : V4.ownBlock ≠ some bq) (q34 : ∀ b, V3.ownBlock = some b → V4.ownBlock ≠ some b) :
    ∃ bq' V3 V4, Value.pointer (some ⟨bq, 0, none⟩) = .pointer (some ⟨bq', 0, none⟩) ∧ QBox wx bq' P.1 (.slice none 0 0) (.slice none 0 0) V3 V4 ∧ w0.heap.size ≤ bq' ∧ Below w0.heap.size w0 wx ∧
    wx.ownsRow w0.heap.size 60 6 V3 P.2.2.2.1.length (P.2.2.2.1.flatMap chanV) ∧ wx.ownsRow w0.heap.size 62 2 V4 P.2.2.2.2.length (P.2.2.2.2.flatMap semV) ∧ V3.ownBlock ≠ some bq' ∧ V4.ownBlock ≠ some bq' ∧ ∀ b, V3.ownBlock = some b → V4.ownBlock ≠ some b :=
  ⟨bq, V3, V4, rfl, hb, h0, hB.trans ((hO.below hB.size h0)), own_base (own_only h3 hO q3) hn3, own_base (own_only h4 hO q4) hn4, q3, q4, q34⟩
/-- What Copy leaves: a plan that reads alike; its channels in a row of its own, apart from the rest. -/
structure CpAt (base : Nat) (P : PlanA) (L : PlanL) (w : World) : Prop where
  at' : PlanAt w P L
  own : w.ownsRow base 60 6 (.slice L.a3 P.2.2.2.1.length L.c3) P.2.2.2.1.length (P.2.2.2.1.flatMap chanV)
  rest : ∀ w', (∀ b, base ≤ b → b < w.heap.size → L.a3 ≠ some ⟨b, 0, none⟩ → w'.heap[b]? = w.heap[b]?) → CoresL base w' L.a1 P.2.1 ∧ PartsL base w' L.a2 P.2.2.1 ∧ Loose base w' L.a2 ∧ SemsAt w' L.a4 P.2.2.2.2 ∧ Loose base w' L.a4 ∧ Loose base w' L.a1
def CopyP (P : PlanA) (w : World) (e : Ending) (w' : World) : Prop := ∃ L, e = .returned (planV P L) ∧ CpAt w.heap.size P L w' ∧ Below w.heap.size w w'

theorem info49 : (Tryd.prog.info? 49).map (fun i => (i.zero, i.size, i.bytes)) = some (some (.slice none 0 0), 1, 24) := by kernel_rfl
/-- What is copied, in a later world. -/
theorem cp_fin {bq cf cf2 : Nat} {fr : Int} {vf vf2 A4 : Option Addr} {c4 : Nat} {V3 : Value} {cs : List (List WinA)} {ps : List PartA} {rs : List PairA} {base : Nat} {wx wr wr2 w'' : World}
    (h1 : CI1 bq fr V3 (.slice A4 rs.length c4) cs wx cs.length (.slice vf cs.length cf) wr) (h2 : CI2 bq fr (.slice vf cs.length cf) V3 (.slice A4 rs.length c4) ps wr ps.length (.slice vf2 ps.length cf2) wr2)
    (h4 : wx.ownsRow base 62 2 (.slice A4 rs.length c4) rs.length (rs.flatMap semV)) (hq : (Value.slice A4 rs.length c4).ownBlock ≠ some bq)
    (hs : ∀ b, b < wr2.heap.size → (wx.heap.size ≤ b ∨ (Value.slice A4 rs.length c4).ownBlock = some b) → w''.heap[b]? = wr2.heap[b]?) {wb : Nat} (hw1 : wb ≤ wx.heap.size) (hw2 : wb ≤ base) :
    CoresL wb w'' vf cs ∧ PartsL wb w'' vf2 ps ∧ Loose wb w'' vf2 ∧ SemsAt w'' A4 rs ∧ Loose wb w'' A4 ∧ Loose wb w'' vf := by
  obtain ⟨Q, hQ1, hQ2⟩ := h1.own
  obtain ⟨S, R, hR1, hR2⟩ := h2.own
  have s1 := h1.only.size
  have s2 := h2.only.size
  have hlt := h1.lt
  have e1 : ∀ b, b < wr.heap.size → wx.heap.size ≤ b → w''.heap[b]? = wr.heap[b]? := fun b hb h => (hs b (by omega) (.inl h)).trans (h2.only.block b hb (by omega))
  have e2 : ∀ b, b < wr2.heap.size → wr.heap.size ≤ b → w''.heap[b]? = wr2.heap[b]? := fun b hb h => hs b hb (.inl (by omega))
  have move : ∀ {w : World} {A : Option Addr} {C n : Nat} {F : Nat → List Value}, Arr w A C n F → (∀ b o, A = some ⟨b, o, none⟩ → w''.heap[b]? = w.heap[b]?) → Arr w'' A C n F := fun hA h i hi => by
    obtain ⟨b, o, e, hc⟩ := hA i hi
    exact ⟨b, o, e, fun j u hu => by rw [World.cell?_of_block (a := ⟨b, _, none⟩) (h b o e)]; exact hc j u hu⟩
  refine ⟨⟨Q, ?_, fun i hi => ?_⟩, ⟨S, R, ?_, fun i hi => ?_⟩, ?_, ?_, ?_, ?_⟩
  · refine move (arr_own hQ1 _ fun i j u hi hu => ?_) fun b o e => by have := own_addr hQ1 e; exact e1 b this.2.2 this.2.1
    match j, hu with
    | 0, hu =>
      simp at hu
      subst hu
      rw [Nat.mul_one, Nat.add_zero, List.getElem?_map, List.getElem?_range hi]
      simp
    | j + 1, hu => simp at hu
  · obtain ⟨a, b, c⟩ := hQ2 i hi
    exact ⟨move a fun b o e => e1 b (c b o e).2.1 (c b o e).1, (b.move fun b o e => e1 b (c b o e).2.1 (c b o e).1).base (by omega)⟩
  · refine move (arr_own hR1 _ fun i j u hi hu => ?_) fun b o e => by have := own_addr hR1 e; exact e2 b this.2.2 this.2.1
    have hj : j < 6 := by
      have := (List.getElem?_eq_some_iff.1 hu).1
      simpa [partV] using this
    rw [flat_get (fun i => partV (ps.getD i dQ) (S i) (R i)) 6 0 (List.range ps.length) (fun _ _ => rfl) i j (by simpa using hi) hj]
    have : (List.range ps.length).getD i 0 = i := by rw [List.getD_eq_getElem?_getD, List.getElem?_range hi]; rfl
    rw [this]
    exact hu
  · obtain ⟨⟨a, b, c⟩, d, e⟩ := hR2 i hi
    exact ⟨⟨move a fun b o h => e2 b (d b o h).2.1 (d b o h).1, move b fun b o h => e2 b (e b o h).2.1 (e b o h).1, c.1⟩, (c.2.1.move fun b o h => e2 b (d b o h).2.1 (d b o h).1).base (by omega), (c.2.2.move fun b o h => e2 b (e b o h).2.1 (e b o h).1).base (by omega)⟩
  · exact ((own_loose hR1).move fun b o e => by have := own_addr hR1 e; exact e2 b this.2.2 this.2.1).base (by omega)
  · refine move (arr_flat (f := semV) (d := dS) h4 (fun _ => rfl)) fun b o e => ?_
    have hb := own_addr h4 e
    have hbq : b ≠ bq := fun h => hq (by rw [e, h]; rfl)
    rw [hs b (by omega) (.inr (by rw [e]; rfl)), h2.only.block b (by omega) hbq, h1.only.block b (by omega) hbq]
  · refine Loose.base (Loose.move (own_loose h4) fun b o e => ?_) hw2
    have hb := own_addr h4 e
    have hbq : b ≠ bq := fun h => hq (by rw [e, h]; rfl)
    rw [hs b (by omega) (.inr (by rw [e]; rfl)), h2.only.block b (by omega) hbq, h1.only.block b (by omega) hbq]
  · exact ((own_loose hQ1).move fun b o e => by have := own_addr hQ1 e; exact e1 b this.2.2 this.2.1).base (by omega)
/-- A partition's box. -/
def PBox (w : World) (b : Nat) (u1 : Value) (ev : Int) (u2 : Value) (a0 a1 a2 : Int) : Prop := w.heap[b]? = some (.cells #[u1, .int .u8 ev, u2, .int .u8 a0, .int .u8 a1, .int .u8 a2] 56 (0, 0))
theorem PBox.new (w : World) (u1 : Value) (ev : Int) (u2 : Value) (a0 a1 a2 : Int) : PBox (w.alloc (.cells #[u1, .int .u8 ev, u2, .int .u8 a0, .int .u8 a1, .int .u8 a2] 56)) w.heap.size u1 ev u2 a0 a1 a2 := heap_alloc_new _ _
theorem PBox.keep {w w' : World} {b : Nat} {u1 u2 : Value} {ev a0 a1 a2 : Int} (h : PBox w b u1 ev u2 a0 a1 a2) (hB : Below w.heap.size w w') : PBox w' b u1 ev u2 a0 a1 a2 := (hB.block b (Array.getElem?_eq_some_iff.1 h).1).trans h
theorem PBox.cells {w : World} {b : Nat} {u1 u2 : Value} {ev a0 a1 a2 : Int} (h : PBox w b u1 ev u2 a0 a1 a2) : w.cell? ⟨b, 0, none⟩ = some u1 ∧ w.cell? ⟨b, 1, none⟩ = some (.int .u8 ev) ∧ w.cell? ⟨b, 2, none⟩ = some u2 ∧ w.cell? ⟨b, 3, none⟩ = some (.int .u8 a0) ∧ w.cell? ⟨b, 4, none⟩ = some (.int .u8 a1) ∧ w.cell? ⟨b, 5, none⟩ = some (.int .u8 a2) := by
  refine ⟨?_, ?_, ?_, ?_, ?_, ?_⟩ <;> (rw [cell_of_row _ _ _ _ _ _ h]; rfl)
theorem PBox.frozen {w : World} {b j : Nat} {u1 u2 : Value} {ev a0 a1 a2 : Int} (h : PBox w b u1 ev u2 a0 a1 a2) : w.frozen? ⟨b, j, none⟩ = false := frozen_of_row _ _ _ _ _ h
theorem PBox.set0 {w : World} {b : Nat} {u1 u2 u : Value} {ev a0 a1 a2 : Int} (h : PBox w b u1 ev u2 a0 a1 a2) : PBox (w.setCell ⟨b, 0, none⟩ u) b u ev u2 a0 a1 a2 := by
  unfold PBox; rw [heap_setCell_same w b 0 _ 56 u h]; rfl
theorem PBox.set2 {w : World} {b : Nat} {u1 u2 u : Value} {ev a0 a1 a2 : Int} (h : PBox w b u1 ev u2 a0 a1 a2) : PBox (w.setCell ⟨b, 2, none⟩ u) b u1 ev u a0 a1 a2 := by
  unfold PBox; rw [heap_setCell_same w b 2 _ 56 u h]; rfl
theorem info56 : (Tryd.prog.info? 56).map (fun i => (i.zero, i.size, i.bytes)) = some (some (.agg #[.slice none 0 0, .int .u8 0, .slice none 0 0, .int .u8 0, .int .u8 0, .int .u8 0]), 6, 64) := by kernel_rfl
/-- Behind the first statement. -/
def Cp1 (P : PlanA) (w0 : World) (q : Value) (wx : World) : Prop :=
  ∃ bq V3 V4, q = .pointer (some ⟨bq, 0, none⟩) ∧ QBox wx bq P.1 (.slice none 0 0) (.slice none 0 0) V3 V4 ∧ w0.heap.size ≤ bq ∧ Below w0.heap.size w0 wx ∧
    wx.ownsRow w0.heap.size 60 6 V3 P.2.2.2.1.length (P.2.2.2.1.flatMap chanV) ∧ wx.ownsRow w0.heap.size 62 2 V4 P.2.2.2.2.length (P.2.2.2.2.flatMap semV) ∧ V3.ownBlock ≠ some bq ∧ V4.ownBlock ≠ some bq ∧ ∀ b, V3.ownBlock = some b → V4.ownBlock ≠ some b

set_option maxHeartbeats 8000000 in
set_option maxRecDepth 100000 in
theorem copy_any (P : PlanA) (L : PlanL) (w : World) (hP : PlanAt w P L) (hF : Few P) : Calls Tryd.prog 18 #[planV P L] w fun e w' => CopyP P w e w' := by
  obtain ⟨fr, cs, ps, hs, rs⟩ := P
  obtain ⟨A1, c1, A2, c2, A3, c3, A4, c4⟩ := L
  obtain ⟨g1, g2, g3, g4⟩ := hP
  obtain ⟨l1, l2, l3, l4, li, lp⟩ := hF
  simp only [planV] at *
  obtain ⟨w0, hw0⟩ : ∃ w0, w0 = (w.alloc (.cells #[.int .u16 fr, .slice A1 cs.length c1, .slice A2 ps.length c2, .slice A3 hs.length c3, .slice A4 rs.length c4] 28)).alloc (.cells #[.int .u16 0, .slice none 0 0, .slice none 0 0, .slice none 0 0, .slice none 0 0] 28) := ⟨_, rfl⟩
  have hb0 : Below w.heap.size w w0 := by rw [hw0]; exact ((Below.refl _ _).alloc (Nat.le_refl _) _).alloc (by simp) _
  have hs0 : w0.heap.size = w.heap.size + 1 + 1 := by rw [hw0]; simp
  have hpb : PBn w0 w.heap.size fr A1 cs.length c1 A2 ps.length c2 A3 hs.length c3 A4 rs.length c4 := by rw [hw0]; exact (PBn.new w fr A1 cs.length c1 A2 ps.length c2 A3 hs.length c3 A4 rs.length c4).alloc _
  have hres : QBox w0 (w.heap.size + 1) 0 (.slice none 0 0) (.slice none 0 0) (.slice none 0 0) (.slice none 0 0) := by
    have := QBox.new (w.alloc (.cells #[.int .u16 fr, .slice A1 cs.length c1, .slice A2 ps.length c2, .slice A3 hs.length c3, .slice A4 rs.length c4] 28)) 0 (.slice none 0 0) (.slice none 0 0) (.slice none 0 0) (.slice none 0 0)
    rw [hw0]
    rw [show (w.alloc (.cells #[.int .u16 fr, .slice A1 cs.length c1, .slice A2 ps.length c2, .slice A3 hs.length c3, .slice A4 rs.length c4] 28)).heap.size = w.heap.size + 1 by simp] at this
    exact this
  have HB0 := Lib.hid hb0
  have HS0 := Lib.hid hs0
  have HPB := Lib.hid hpb
  have HRES := Lib.hid hres
  have HW0 := Lib.hid hw0
  have G1 := Lib.hid (g1.keep hb0)
  have G2 := Lib.hid (g2.keep hb0)
  have HC3 := Lib.hid (fun W hB => clone60 A3 c3 hs W (Arr.keep (Arr.keep g3 hb0) hB) (by omega))
  have HC4 := Lib.hid (fun W hB => clone62 A4 c4 rs W (Arr.keep (Arr.keep g4 hb0) hB) (by omega))
  have LI := Lib.hid li
  have LP := Lib.hid lp
  obtain ⟨k0, k1, k2, k3, k4⟩ := hpb
  have z0 := kept k0 ((Below.refl _ _).alloc (Nat.le_refl _) (.cells #[.int .u16 0, .slice none 0 0, .slice none 0 0, .slice none 0 0, .slice none 0 0] 28))
  have z3 := kept k3 ((Below.refl _ _).alloc (Nat.le_refl _) (.cells #[.int .u16 0, .slice none 0 0, .slice none 0 0, .slice none 0 0, .slice none 0 0] 28))
  have z4 := kept k4 ((Below.refl _ _).alloc (Nat.le_refl _) (.cells #[.int .u16 0, .slice none 0 0, .slice none 0 0, .slice none 0 0, .slice none 0 0] 28))
  clear hb0 hs0 hres hw0 g1 g2 g3 g4 li lp
  go_enter Tryd.func18, Tryd.ntmps18
  go_wp2_with fail
  rw [← HW0.out]
  go_cut [3] (fun q wx => Cp1 (fr, cs, ps, hs, rs) w0 q wx)
  case first =>
    go_region_held3 (fun w' => w'.cell? ⟨w.heap.size, 0, none⟩ = some (.int .u16 fr) ∧ w'.cell? ⟨w.heap.size, 3, none⟩ = some (.slice A3 hs.length c3) ∧ w'.cell? ⟨w.heap.size, 4, none⟩ = some (.slice A4 rs.length c4)) (go_keep)
      (first
        | (go_at_call 39
           (with_reducible refine (HC3.out _ (by repeat (first | exact Below.refl _ _ | refine Below.drew ?_ | refine Below.alloc ?_ (by simp) _))).mono ?_)
           rintro e w1 ⟨v3, rfl, hO3, hB⟩
           obtain ⟨B3, d3, rfl⟩ := own_form hO3
           have hb1 : Below w0.heap.size w0 w1 := Below.trans (by repeat (first | exact Below.refl _ _ | refine Below.drew ?_ | refine Below.alloc ?_ (by simp) _)) (hB.mono (by simp))
           have HO3 := Lib.hid hO3
           have HB1 := Lib.hid hb1
           have HBB := Lib.hid hB
           have k0 := kept k0 hb1
           have k3 := kept k3 hb1
           have k4 := kept k4 hb1
           have z0 := kept k0 ((Below.refl _ _).alloc (Nat.le_refl _) (.cells #[.int .u16 0, .slice none 0 0, .slice none 0 0, .slice none 0 0, .slice none 0 0] 28))
           have z3 := kept k3 ((Below.refl _ _).alloc (Nat.le_refl _) (.cells #[.int .u16 0, .slice none 0 0, .slice none 0 0, .slice none 0 0, .slice none 0 0] 28))
           have z4 := kept k4 ((Below.refl _ _).alloc (Nat.le_refl _) (.cells #[.int .u16 0, .slice none 0 0, .slice none 0 0, .slice none 0 0, .slice none 0 0] 28))
           clear hO3 hB hb1)
        | (go_at_call 40
           (with_reducible refine (HC4.out _ (by repeat (first | exact HB1.out | refine Below.drew ?_ | refine Below.alloc ?_ HB1.out.size _))).mono ?_)
           rintro e w2 ⟨v4, rfl, hO4, hB⟩
           obtain ⟨B4, d4, rfl⟩ := own_form hO4
           have hb2 : Below w1.heap.size w1 w2 := Below.trans (by repeat (first | exact Below.refl _ _ | refine Below.drew ?_ | refine Below.alloc ?_ (by simp) _)) (hB.mono (by simp))
           have HO4 := Lib.hid hO4
           have HB2 := Lib.hid hb2
           have k0 := kept k0 hb2
           have k3 := kept k3 hb2
           have k4 := kept k4 hb2
           (first
             | (have hq : QBox w2 w0.heap.size 0 (.slice none 0 0) (.slice none 0 0) (.slice none 0 0) (.slice none 0 0) := (by first | exact ((QBox.new w0 0 (.slice none 0 0) (.slice none 0 0) (.slice none 0 0) (.slice none 0 0)).keep HBB.out).keep hb2 | exact ((QBox.new w0.drew 0 (.slice none 0 0) (.slice none 0 0) (.slice none 0 0) (.slice none 0 0)).keep HBB.out).keep hb2 | exact (((QBox.new w0 0 (.slice none 0 0) (.slice none 0 0) (.slice none 0 0) (.slice none 0 0)).keep (Below.refl _ _).drew).keep HBB.out).keep hb2)
                obtain ⟨a0, a1, a2, a3, a4⟩ := hq.cells
                have b0 := hq.frozen (j := 0)
                have b1 := hq.frozen (j := 1)
                have b2 := hq.frozen (j := 2)
                have b3 := hq.frozen (j := 3)
                have b4 := hq.frozen (j := 4)
                have y0 := set5 (b := w0.heap.size) (.int .u16 fr) (.slice none 0 0) (.slice none 0 0) (.slice B3 hs.length d3) (.slice B4 rs.length d4) (by have := HS0.out; have := HB1.out.size; omega) k0
                have y3 := set5 (b := w0.heap.size) (.int .u16 fr) (.slice none 0 0) (.slice none 0 0) (.slice B3 hs.length d3) (.slice B4 rs.length d4) (by have := HS0.out; have := HB1.out.size; omega) k3
                have y4 := set5 (b := w0.heap.size) (.int .u16 fr) (.slice none 0 0) (.slice none 0 0) (.slice B3 hs.length d3) (.slice B4 rs.length d4) (by have := HS0.out; have := HB1.out.size; omega) k4
                have HQ := Lib.hid hq
                clear  hq)
             | (have hq : QBox w2 w1.heap.size 0 (.slice none 0 0) (.slice none 0 0) (.slice none 0 0) (.slice none 0 0) := (by first | exact (QBox.new w1 0 (.slice none 0 0) (.slice none 0 0) (.slice none 0 0) (.slice none 0 0)).keep hB | exact (QBox.new w1.drew 0 (.slice none 0 0) (.slice none 0 0) (.slice none 0 0) (.slice none 0 0)).keep hB | exact ((QBox.new w1 0 (.slice none 0 0) (.slice none 0 0) (.slice none 0 0) (.slice none 0 0)).keep (Below.refl _ _).drew).keep hB)
                obtain ⟨a0, a1, a2, a3, a4⟩ := hq.cells
                have b0 := hq.frozen (j := 0)
                have b1 := hq.frozen (j := 1)
                have b2 := hq.frozen (j := 2)
                have b3 := hq.frozen (j := 3)
                have b4 := hq.frozen (j := 4)
                have y0 := set5 (b := w1.heap.size) (.int .u16 fr) (.slice none 0 0) (.slice none 0 0) (.slice B3 hs.length d3) (.slice B4 rs.length d4) (by have := HS0.out; have := HB1.out.size; omega) k0
                have y3 := set5 (b := w1.heap.size) (.int .u16 fr) (.slice none 0 0) (.slice none 0 0) (.slice B3 hs.length d3) (.slice B4 rs.length d4) (by have := HS0.out; have := HB1.out.size; omega) k3
                have y4 := set5 (b := w1.heap.size) (.int .u16 fr) (.slice none 0 0) (.slice none 0 0) (.slice B3 hs.length d3) (.slice B4 rs.length d4) (by have := HS0.out; have := HB1.out.size; omega) k4
                have HQ := Lib.hid hq
                clear  hq)
             | skip)
           clear hO4 hB hb2))
    all_goals
      have o3 := own_below HO3.out HB2.out
      have o4 := HO4.out
      have f3 := World.ownsRow.lt HO3.out
      have f4 := World.ownsRow.lt HO4.out
      have s1 := HB1.out.size
      have s2 := HB2.out.size
      simp only [World.size_drew, World.size_alloc] at o3 o4 f3 f4
      have O3 := Lib.hid o3
      have O4 := Lib.hid o4
      have F3 := Lib.hid f3
      have F4 := Lib.hid f4
      clear o3 o4 f3 f4
      go_wp2_with fail
      go_meet
    · have hb := QBox.new w2 fr (.slice none 0 0) (.slice none 0 0) (.slice B3 hs.length d3) (.slice B4 rs.length d4)
      have ho : Only w2.heap.size w2.heap.size w2 (w2.alloc (.cells #[.int .u16 fr, .slice none 0 0, .slice none 0 0, .slice B3 hs.length d3, .slice B4 rs.length d4] 28)) := Only.of_below ((Below.refl _ _).alloc (Nat.le_refl _) _)
      exact cp1_of hb (by omega) (HB1.out.trans (HB2.out.mono s1)) ho O3.out O4.out (Nat.le_refl _) s1 (fun e => absurd (F3.out _ e).2 (Nat.not_lt.2 s2)) (fun e => absurd (F4.out _ e).2 (Nat.lt_irrefl _)) (fun b e3 e4 => by have := F3.out _ e3; have := F4.out _ e4; omega)
    · have hb := HQ.out.set5 fr (.slice none 0 0) (.slice none 0 0) (.slice B3 hs.length d3) (.slice B4 rs.length d4)
      have ho := only5 w2 w1.heap.size (.int .u16 fr) (.slice none 0 0) (.slice none 0 0) (.slice B3 hs.length d3) (.slice B4 rs.length d4)
      exact cp1_of hb (by omega) (HB1.out.trans (HB2.out.mono s1)) ho O3.out O4.out (by omega) (by omega) (fun e => by have := F3.out _ e; omega) (fun e => by have := F4.out _ e; omega) (fun b e3 e4 => by have := F3.out _ e3; have := F4.out _ e4; omega)
    · have hb := HQ.out.set5 fr (.slice none 0 0) (.slice none 0 0) (.slice B3 hs.length d3) (.slice B4 rs.length d4)
      have ho := only5 w2 w0.heap.size (.int .u16 fr) (.slice none 0 0) (.slice none 0 0) (.slice B3 hs.length d3) (.slice B4 rs.length d4)
      exact cp1_of hb (by omega) (HB1.out.trans (HB2.out.mono s1)) ho O3.out O4.out (by omega) (by omega) (fun e => by have := F3.out _ e; omega) (fun e => by have := F4.out _ e; have := HBB.out.size; simp at this; omega) (fun b e3 e4 => by have := F3.out _ e3; have := F4.out _ e4; omega)
  case rest =>
    obtain ⟨bq, V3, V4, rfl, hbx, hlq, hB, hO3, hO4, n3, n4, n34⟩ := hcut
    rename World => wx
    clear k0 k1 k2 k3 k4 z0 z3 z4
    obtain ⟨k0, k1, k2, k3, k4⟩ := HPB.out.keep hB
    have HBX := Lib.hid hbx
    have HLQ := Lib.hid hlq
    have HB := Lib.hid hB
    have HO3 := Lib.hid hO3
    have HO4 := Lib.hid hO4
    have N3 := Lib.hid n3
    have N4 := Lib.hid n4
    have N34 := Lib.hid n34
    have HPB1 := Lib.hid (HPB.out.keep hB)
    have HST := Lib.hid (CI1.start (cs := cs) hbx)
    have hqw : bq ≠ w.heap.size := by have := HS0.out; omega
    have HQW := Lib.hid hqw
    clear hbx hlq hB hO3 hO4 n3 n4 n34 hqw
    go_wp2_with fail
    go_loopw [20] (fun i wr => ∃ (k : Nat) (v : Value), k ≤ cs.length ∧ i = .int .i64 k ∧ CI1 bq fr V3 V4 cs wx k v wr) (fun i _ => cs.length - (intOf i).toNat)
    case atStart => exact ⟨0, _, Nat.zero_le _, rfl, HST.out⟩
    case round =>
      obtain ⟨k, v, hk, rfl, hI⟩ := hrel
      have HI := Lib.hid hI
      clear k0 k1 k2 k3 k4
      have hb0r : Below w0.heap.size w0 wr := (((Only.of_below HB.out).trans (hI.only.mono HB.out.size)).below (Nat.le_refl _) HLQ.out : Below w0.heap.size w0 wr)
      obtain ⟨k0, k1, k2, k3, k4⟩ := HPB.out.keep hb0r
      have HB0R := Lib.hid hb0r
      by_cases hlt : k < cs.length
      · obtain ⟨Q, hQ1, hQ2⟩ := hI.own
        obtain ⟨Pf, q1, q2⟩ := G1.out
        obtain ⟨b1, o1, rfl⟩ := Arr.head q1 hlt
        have cc := kept (Arr.at (j := 0) q1 hlt rfl) hb0r
        have hh := q2 k hlt
        obtain ⟨ws, hws⟩ : ∃ ws, ws = cs.getD k [] := ⟨_, rfl⟩
        obtain ⟨⟨A5, c5⟩, hP5⟩ : ∃ p, p = Pf k := ⟨_, rfl⟩
        have hl := LI.out _ (getD_mem [] hlt)
        rw [← hws] at hl hh
        rw [← hP5] at hh cc
        simp only [slV, ← hws, Nat.mul_one, Nat.add_zero] at cc
        have HCW := Lib.hid (fun W hB => clone51 A5 c5 ws W (Arr.keep (Arr.keep hh hb0r) hB) (by omega))
        obtain ⟨x0, x1, x2, x3, x4⟩ := hI.box.cells
        have y1 := hI.box.frozen (j := 1)
        have HBOX := Lib.hid hI.box
        have hbl := hI.box.lt
        have hvq : v.ownBlock ≠ some bq := fun e => by have := (World.ownsRow.lt hQ1 _ e).1; have := hI.lt; omega
        have HVQ := Lib.hid hvq
        have HQ1 := Lib.hid hQ1
        have HOV := Lib.hid (fun W' (h : Below wr.heap.size wr W') => own_below hQ1 h)
        have HSTEP := Lib.hid (fun A' c' W' g cap w4 hB hu hg ho hat => hI.step (A' := A') (c' := c') (W' := W') (g := g) (cap := cap) (w4 := w4) ⟨hQ1, hQ2⟩ hB hu hg ho hat)
        rw [← hws] at HSTEP
        obtain ⟨xs, hxs⟩ : ∃ xs, xs = (List.range k).map fun i => slV (Q i) (cs.getD i []).length := ⟨_, rfl⟩
        rw [← hxs] at HOV HSTEP
        have HFAR : Hid (∀ W' w4, Below wr.heap.size wr W' → W'.grownBy w4 v.ownBlock → w4.cell? ⟨bq, 1, none⟩ = some v ∧ w4.frozen? ⟨bq, 1, none⟩ = false) := fun W' w4 hB hg => by
          have h1 := hB.size
          refine ⟨?_, ?_⟩
          · rw [hg.cell_far ⟨_, _, _⟩ (by show bq < _; omega) (fun e => hvq e.symm), hB.cell (p := ⟨_, _, _⟩) hbl]; exact x1
          · rw [hg.frozen_far ⟨_, _, _⟩ (by show bq < _; omega) (fun e => hvq e.symm), hB.frozen (p := ⟨_, _, _⟩) hbl]; exact y1
        obtain ⟨i0, hi, hz0, hz1, hz2⟩ := info_parts info49
        have HI0 := Lib.hid hi
        have HZ0 := Lib.hid hz0
        have HZ1 := Lib.hid hz1
        have HZ2 := Lib.hid hz2
        have hsz0 : wx.heap.size ≤ wr.heap.size := hI.only.size
        obtain ⟨n5, hn5⟩ : ∃ n, n = ws.length := ⟨_, rfl⟩
        rw [← hn5] at HCW HSTEP cc
        have HN5 := Lib.hid hn5
        clear hI q1 q2 hh hws hP5 hQ1 hQ2 hvq hxs hi hz0 hz1 hz2 hn5 x0 x2 x3 x4
        go_wp2_with fail
        go_region_law (first
          | (go_simp
             go_at_call 41
             refine (HCW.out _ (by repeat (first | exact Below.refl _ _ | refine Below.drew ?_))).mono ?_
             rintro e w3 ⟨u, rfl, hO, hB⟩
             have hB3 : Below wr.heap.size wr w3 := below_two (by repeat (first | exact Below.refl _ _ | refine Below.drew ?_)) hB
             obtain ⟨A', c', rfl⟩ := own_form hO
             have hcap := own_loose hO
             have x1' := kept x1 hB3
             have x1'' := kept x1' ((Below.refl _ _).alloc (Nat.le_refl _) (.cells #[.slice A' n5 c'] 49))
             have hO' := hO
             rw [HN5.out] at hO'
             have hba := fun b o (e : A' = some ⟨b, o, none⟩) => (own_addr hO e).2
             have HWA : Hid (∀ W', Below w3.heap.size w3 W' → WinsAt W' A' ws ∧ Loose wr.heap.size W' A' ∧ ∀ b o, A' = some ⟨b, o, none⟩ → wr.heap.size ≤ b ∧ b < W'.heap.size) := fun W' h => ⟨Arr.keep (arr_flat (f := winV) (d := dW) hO' (fun _ => rfl)) h, hcap.keep h, fun b o e => ⟨(hba b o e).1, Nat.lt_of_lt_of_le (hba b o e).2 h.size⟩⟩
             have HB3 := Lib.hid hB3
             clear hO hO' hba hB hB3)
          | (refine step_append_lies _ rfl _ _ 23 rfl wx.heap.size 49 i0 (.slice none 0 0) 1 24 Tryd.underlying23 HI0.out HZ0.out HZ1.out HZ2.out rfl (by decide) v k xs rfl
              (HOV.out _ (by repeat (first | exact HB3.out | refine Below.drew ?_ | refine Below.alloc ?_ HB3.out.size _))) ⟨_, 0, none⟩ 1 1 [.slice A' n5 c'] rfl rfl
              (by intro j u hj; match j, hj with | 0, hj => (simp at hj; subst hj; simp [Addr.add]) | j + 1, hj => (simp at hj))
              (by intro u hu; simp at hu; subst hu; rfl) (by omega) (by unfold maxLen; omega) (by omega) (by have := HB3.out.size; simp; omega) _ rfl ?_
             intro g cap w4 hown hgrow hat hglt
             have hst := HSTEP.out A' c' _ g cap w4 (by repeat (first | exact HB3.out | refine Below.drew ?_ | refine Below.alloc ?_ HB3.out.size _)) (HWA.out _ (by repeat (first | exact Below.refl _ _ | refine Below.drew ?_ | refine Below.alloc ?_ (Nat.le_refl _) _))) hgrow hown hat
             have HSTP := Lib.hid hst
             obtain ⟨t1, t2⟩ := HFAR.out _ w4 (by repeat (first | exact HB3.out | refine Below.drew ?_ | refine Below.alloc ?_ HB3.out.size _)) hgrow
             clear hown hgrow hat hst))
        all_goals
          clear t1 t2
          go_wp2_with fail
          go_roundw
          case rel => exact ⟨k + 1, _, by omega, by go_num, HSTP.out⟩
          case measure => simp [intOf]; omega
      · obtain rfl : k = cs.length := by omega
        have HST2 := Lib.hid (CI2.start (ps := ps) hI.box)
        obtain ⟨vf, hvf⟩ : ∃ A c, v = .slice A cs.length c := (by obtain ⟨xs, hx⟩ := hI.owns; exact own_form hx)
        obtain ⟨cf, rfl⟩ := hvf
        have HI1 := HI
        clear hI hk hlt
        go_wp2_with fail
        go_loopw [35] (fun i wr2 => ∃ (k : Nat) (v : Value), k ≤ ps.length ∧ i = .int .i64 k ∧ CI2 bq fr (.slice vf cs.length cf) V3 V4 ps wr k v wr2) (fun i _ => ps.length - (intOf i).toNat)
        case atStart => exact ⟨0, _, Nat.zero_le _, rfl, HST2.out⟩
        case round =>
          rename World => wr2
          obtain ⟨k, v, hk, rfl, hI⟩ := hrel
          have HI := Lib.hid hI
          clear k0 k1 k2 k3 k4
          have hb0r : Below w0.heap.size w0 wr2 := (((Only.of_below HB0R.out).trans (hI.only.mono HB0R.out.size)).below (Nat.le_refl _) HLQ.out : Below w0.heap.size w0 wr2)
          obtain ⟨k0, k1, k2, k3, k4⟩ := HPB.out.keep hb0r
          have HB0S := Lib.hid hb0r
          by_cases hlt : k < ps.length
          · obtain ⟨S, Q, hQ1, hQ2⟩ := hI.own
            obtain ⟨Sf, Pf, q1, q2⟩ := G2.out
            obtain ⟨b1, o1, rfl⟩ := Arr.head q1 hlt
            obtain ⟨h1, h2, h3⟩ := q2 k hlt
            have hl := LP.out _ (getD_mem dQ hlt)
            have d0 := kept (Arr.at (j := 0) q1 hlt rfl) hb0r
            have d1 := kept (Arr.at (j := 1) q1 hlt rfl) hb0r
            have d2 := kept (Arr.at (j := 2) q1 hlt rfl) hb0r
            have d3 := kept (Arr.at (j := 3) q1 hlt rfl) hb0r
            have d4 := kept (Arr.at (j := 4) q1 hlt rfl) hb0r
            have d5 := kept (Arr.at (j := 5) q1 hlt rfl) hb0r
            obtain ⟨⟨A5, c5⟩, hP5⟩ : ∃ p, p = Sf k := ⟨_, rfl⟩
            obtain ⟨⟨A6, c6⟩, hP6⟩ : ∃ p, p = Pf k := ⟨_, rfl⟩
            obtain ⟨⟨ss, ev, pp, a0, a1, a2⟩, hq⟩ : ∃ q, q = ps.getD k dQ := ⟨_, rfl⟩
            have HSTEP := Lib.hid (fun A1 A2 c1 c2 W' g cap w4 hB hu hu1 hu2 hg ho hat => hI.step (A1 := A1) (A2 := A2) (c1 := c1) (c2 := c2) (W' := W') (g := g) (cap := cap) (w4 := w4) ⟨hQ1, hQ2⟩ hB hu hu1 hu2 hg ho hat)
            rw [← hq] at h1 h2 hl HSTEP
            rw [← hP5] at h1
            rw [← hP6] at h2
            simp only [← hq, ← hP5, ← hP6, slV, Nat.add_zero] at d0 d1 d2 d3 d4 d5
            dsimp only at h1 h2 hl
            have HCS := Lib.hid (fun W hB => clone58 A5 c5 ss W (Arr.keep (Arr.keep h1 hb0r) hB) (by omega))
            have HCP := Lib.hid (fun W hB => clone5 A6 c6 pp W (Arr.keep (Arr.keep h2 hb0r) hB) (by omega))
            obtain ⟨x0, x1, x2, x3, x4⟩ := hI.box.cells
            have y2 := hI.box.frozen (j := 2)
            have hbl := hI.box.lt
            have hvq : v.ownBlock ≠ some bq := fun e => by have := (World.ownsRow.lt hQ1 _ e).1; have := hI.lt; omega
            have HVQ := Lib.hid hvq
            have HOV := Lib.hid (fun W' (h : Below wr2.heap.size wr2 W') => own_below hQ1 h)
            obtain ⟨xs, hxs⟩ : ∃ xs, xs = (List.range k).flatMap fun i => partV (ps.getD i dQ) (S i) (Q i) := ⟨_, rfl⟩
            rw [← hxs] at HOV HSTEP
            have HFAR : Hid (∀ W' w4, Below wr2.heap.size wr2 W' → W'.grownBy w4 v.ownBlock → w4.cell? ⟨bq, 2, none⟩ = some v ∧ w4.frozen? ⟨bq, 2, none⟩ = false) := fun W' w4 hB hg => by
              have h1 := hB.size
              refine ⟨?_, ?_⟩
              · rw [hg.cell_far ⟨_, _, _⟩ (by show bq < _; omega) (fun e => hvq e.symm), hB.cell (p := ⟨_, _, _⟩) hbl]; exact x2
              · rw [hg.frozen_far ⟨_, _, _⟩ (by show bq < _; omega) (fun e => hvq e.symm), hB.frozen (p := ⟨_, _, _⟩) hbl]; exact y2
            have hba : Below wr2.heap.size wr2 (wr2.alloc (.cells #[.slice A5 ss.length c5, .int .u8 ev, .slice A6 pp.length c6, .int .u8 a0, .int .u8 a1, .int .u8 a2] 56)) := (Below.refl _ _).alloc (Nat.le_refl _) _
            have HBA := Lib.hid hba
            have HPX := Lib.hid (PBox.new wr2 (.slice A5 ss.length c5) ev (.slice A6 pp.length c6) a0 a1 a2)
            obtain ⟨i0, hi, hz0, hz1, hz2⟩ := info_parts info56
            have HI0 := Lib.hid hi
            have HZ0 := Lib.hid hz0
            have HZ1 := Lib.hid hz1
            have HZ2 := Lib.hid hz2
            have hsz0 : wr.heap.size ≤ wr2.heap.size := hI.only.size
            have hx2 := kept x2 hba
            have HX2 := Lib.hid hx2
            have HBL := Lib.hid hbl
            clear hI q1 q2 h1 h2 h3 hQ1 hQ2 hvq hxs hi hz0 hz1 hz2 hP5 hP6 hba x0 x1 x3 x4
            go_wp2_with fail
            with_reducible refine (HCS.out _ HBA.out).mono ?_
            rintro e w3 ⟨u, rfl, hO, hB⟩
            obtain ⟨B1, e1, rfl⟩ := own_form hO
            have hpx := HPX.out.keep hB
            obtain ⟨m0, m1, m2, m3, m4, m5⟩ := hpx.cells
            have mf := hpx.frozen (j := 0)
            have hpx2 := hpx.set0 (u := .slice B1 ss.length e1)
            obtain ⟨s0, s1, s2, s3, s4, s5⟩ := hpx2.cells
            have hsm : (wr2.alloc (.cells #[.slice A5 ss.length c5, .int .u8 ev, .slice A6 pp.length c6, .int .u8 a0, .int .u8 a1, .int .u8 a2] 56)).heap.size = wr2.heap.size + 1 := by simp
            have had := fun b o (e : B1 = some ⟨b, o, none⟩) => (own_addr hO e).2
            rw [hsm] at had
            have HAD := Lib.hid had
            have hlo := own_loose hO
            rw [hsm] at hlo
            have HLO3 : Hid (Loose wr2.heap.size (w3.setCell ⟨wr2.heap.size, 0, none⟩ (.slice B1 ss.length e1)) B1) := (hlo.move fun b o e => Below.heap_setCell _ _ _ _ (by have := had b o e; show b ≠ wr2.heap.size; omega)).base (by omega)
            have HS3 : Hid (SemsAt (w3.setCell ⟨wr2.heap.size, 0, none⟩ (.slice B1 ss.length e1)) B1 ss) := Arr.only (arr_flat (f := semV) (d := dS) hO (fun _ => rfl)) ((Only.refl wr2.heap.size _ _).set _) (fun b o e => by have := had b o e; omega)
            have hb3 : Below wr2.heap.size wr2 (w3.setCell ⟨wr2.heap.size, 0, none⟩ (.slice B1 ss.length e1)) := (below_two HBA.out hB).setCell (Nat.le_refl _) _
            have HB3 := Lib.hid hb3
            have HPX2 := Lib.hid hpx2
            have hw3 : wr2.heap.size + 1 ≤ w3.heap.size := by have := hB.size; omega
            clear hO hB hpx hpx2 had hb3 hlo d0 d1 d2 d3 d4 d5 k0 k1 k2 k3 k4
            go_wp2_with fail
            with_reducible refine (HCP.out _ HB3.out).mono ?_
            rintro e w4 ⟨u, rfl, hO, hB⟩
            obtain ⟨B2, e2, rfl⟩ := own_form hO
            have hpx := HPX2.out.keep hB
            clear m0 m1 m2 m3 m4 m5 s0 s1 s2 s3 s4 s5
            obtain ⟨m0, m1, m2, m3, m4, m5⟩ := hpx.cells
            have mf2 := hpx.frozen (j := 2)
            have hpx2 := hpx.set2 (u := .slice B2 pp.length e2)
            obtain ⟨s0, s1, s2, s3, s4, s5⟩ := hpx2.cells
            have hsm2 : (w3.setCell ⟨wr2.heap.size, 0, none⟩ (.slice B1 ss.length e1)).heap.size = w3.heap.size := by simp
            have had := fun b o (e : B2 = some ⟨b, o, none⟩) => (own_addr hO e).2
            rw [hsm2] at had
            have hw4 : w3.heap.size ≤ w4.heap.size := by have := hB.size; omega
            have hlo := own_loose hO
            rw [hsm2] at hlo
            have hl2 : Loose wr2.heap.size (w4.setCell ⟨wr2.heap.size, 2, none⟩ (.slice B2 pp.length e2)) B2 := (hlo.move fun b o e => Below.heap_setCell _ _ _ _ (by have := had b o e; show b ≠ wr2.heap.size; omega)).base (by omega)
            have hl1 : Loose wr2.heap.size (w4.setCell ⟨wr2.heap.size, 2, none⟩ (.slice B2 pp.length e2)) B1 := (HLO3.out.keep hB).move fun b o e => Below.heap_setCell _ _ _ _ (by have := HAD.out b o e; show b ≠ wr2.heap.size; omega)
            have hP4 : BytesAt (w4.setCell ⟨wr2.heap.size, 2, none⟩ (.slice B2 pp.length e2)) B2 pp := Arr.only (arr_flat (f := byV) (d := (0 : Int)) hO (fun _ => rfl)) ((Only.refl wr2.heap.size _ _).set _) (fun b o e => by have := had b o e; omega)
            have hS4 : SemsAt (w4.setCell ⟨wr2.heap.size, 2, none⟩ (.slice B2 pp.length e2)) B1 ss := Arr.only (Arr.keep HS3.out hB) ((Only.refl wr2.heap.size _ _).set _) (fun b o e => by have := HAD.out b o e; omega)
            have hb4 : Below wr2.heap.size wr2 (w4.setCell ⟨wr2.heap.size, 2, none⟩ (.slice B2 pp.length e2)) := (below_two HB3.out hB).setCell (Nat.le_refl _) _
            have hnil := fun e => own_nil hO e
            have t2 := kept x2 hb4
            have HB4 := Lib.hid hb4
            have HU : Hid (∀ W', Below (w4.setCell ⟨wr2.heap.size, 2, none⟩ (.slice B2 pp.length e2)).heap.size (w4.setCell ⟨wr2.heap.size, 2, none⟩ (.slice B2 pp.length e2)) W' → (SemsAt W' B1 ss ∧ BytesAt W' B2 pp ∧ (B2 = none → e2 = 0) ∧ Loose wr2.heap.size W' B1 ∧ Loose wr2.heap.size W' B2) ∧ (∀ b o, B1 = some ⟨b, o, none⟩ → wr2.heap.size ≤ b ∧ b < W'.heap.size) ∧ ∀ b o, B2 = some ⟨b, o, none⟩ → wr2.heap.size ≤ b ∧ b < W'.heap.size) := fun W' h => by
              have h5 := h.size
              simp only [World.size_setCell] at h5
              exact ⟨⟨Arr.keep hS4 h, Arr.keep hP4 h, hnil, hl1.keep h, hl2.keep h⟩, fun b o e => (by have := HAD.out b o e; omega), fun b o e => (by have := had b o e; omega)⟩
            clear hO hB hpx hpx2 had hb4 hnil hP4 hS4 hlo hl1 hl2
            go_wp2_with (at_builtin; (refine wpList_append_lies _ rfl _ _ 24 rfl wr.heap.size 56 i0 (.agg #[.slice none 0 0, .int .u8 0, .slice none 0 0, .int .u8 0, .int .u8 0, .int .u8 0]) 6 64 Tryd.underlying24 HI0.out HZ0.out HZ1.out HZ2.out rfl (by decide) v k xs rfl (HOV.out _ (HB4.out.alloc HB4.out.size _)) ⟨_, 0, none⟩ 1 1 [.slice B1 ss.length e1, .int .u8 ev, .slice B2 pp.length e2, .int .u8 a0, .int .u8 a1, .int .u8 a2] rfl rfl ?c1 ?c2 (by omega) (by unfold maxLen; omega) (by omega) ?c5 _ rfl ?_))
            case c1 =>
              have hsz : (w4.setCell ⟨wr2.heap.size, 2, none⟩ (.slice B2 pp.length e2)).heap.size = w4.heap.size := by simp
              have hbk := heap_alloc_new (w4.setCell ⟨wr2.heap.size, 2, none⟩ (.slice B2 pp.length e2)) (.cells #[.slice B1 ss.length e1, .int .u8 ev, .slice B2 pp.length e2, .int .u8 a0, .int .u8 a1, .int .u8 a2] 56)
              rw [hsz] at hbk
              exact World.news_of_block hbk
            case c2 => intro u hu; simp at hu; rcases hu with rfl | rfl | rfl | rfl | rfl | rfl <;> rfl
            case c5 => have := HB4.out.size; simp at this; simp; omega
            intro g cap w6 hown hgrow hat hglt
            have hu := HU.out _ ((Below.refl _ _).alloc (Nat.le_refl _) (.cells #[.slice B1 ss.length e1, .int .u8 ev, .slice B2 pp.length e2, .int .u8 a0, .int .u8 a1, .int .u8 a2] 56))
            have hst := HSTEP.out B1 B2 e1 e2 _ g cap w6 (HB4.out.alloc HB4.out.size _) hu.1 hu.2.1 hu.2.2 hgrow hown (hat.imp id (fun e => by rw [e]; simp))
            have HSTP := Lib.hid hst
            obtain ⟨r1, r2⟩ := HFAR.out _ w6 (HB4.out.alloc HB4.out.size _) hgrow
            clear hown hgrow hat hst hu t2 x2 hx2 m0 m1 m2 m3 m4 m5 s0 s1 s2 s3 s4 s5
            go_wp2_with fail
            go_roundw
            case rel => exact ⟨k + 1, _, by omega, by go_num, HSTP.out⟩
            case measure => simp [intOf]; omega
          · obtain rfl : k = ps.length := by omega
            obtain ⟨vf2, hvf2⟩ : ∃ A c, v = .slice A ps.length c := (by obtain ⟨S, Q, hx, _⟩ := hI.own; exact own_form hx)
            obtain ⟨cf2, rfl⟩ := hvf2
            obtain ⟨B3, d3, rfl⟩ := own_form HO3.out
            obtain ⟨B4, d4, rfl⟩ := own_form HO4.out
            obtain ⟨x0, x1, x2, x3, x4⟩ := hI.box.cells
            have hr := HRES.out.keep hb0r
            obtain ⟨r0, r1, r2, r3, r4⟩ := hr.cells
            have y0 := hr.frozen (j := 0)
            have y1 := hr.frozen (j := 1)
            have y2 := hr.frozen (j := 2)
            have y3 := hr.frozen (j := 3)
            have y4 := hr.frozen (j := 4)
            have hr5 := hr.set5 fr (.slice vf cs.length cf) (.slice vf2 ps.length cf2) (.slice B3 hs.length d3) (.slice B4 rs.length d4)
            obtain ⟨q0, q1, q2, q3, q4⟩ := hr5.cells
            have hs0 := HS0.out
            have hsx := HB.out.size
            have hsr := HI1.out.only.size
            have hsr2 := hI.only.size
            have hsf : ∀ b, b ≠ w.heap.size + 1 → (((((wr2.setCell ⟨w.heap.size + 1, 0, none⟩ (.int .u16 fr)).setCell ⟨w.heap.size + 1, 1, none⟩ (.slice vf cs.length cf)).setCell ⟨w.heap.size + 1, 2, none⟩ (.slice vf2 ps.length cf2)).setCell ⟨w.heap.size + 1, 3, none⟩ (.slice B3 hs.length d3)).setCell ⟨w.heap.size + 1, 4, none⟩ (.slice B4 rs.length d4)).heap[b]? = wr2.heap[b]? := fun b hb => by
              rw [Below.heap_setCell _ _ _ _ hb, Below.heap_setCell _ _ _ _ hb, Below.heap_setCell _ _ _ _ hb, Below.heap_setCell _ _ _ _ hb, Below.heap_setCell _ _ _ _ hb]
            have hblk4 := World.ownsRow.lt HO4.out
            have hblk3 := World.ownsRow.lt HO3.out
            have ho5 := only5 wr2 (w.heap.size + 1) (.int .u16 fr) (.slice vf cs.length cf) (.slice vf2 ps.length cf2) (.slice B3 hs.length d3) (.slice B4 rs.length d4)
            obtain ⟨Wf, hWf⟩ : ∃ Wf, Wf = (((((wr2.setCell ⟨w.heap.size + 1, 0, none⟩ (.int .u16 fr)).setCell ⟨w.heap.size + 1, 1, none⟩ (.slice vf cs.length cf)).setCell ⟨w.heap.size + 1, 2, none⟩ (.slice vf2 ps.length cf2)).setCell ⟨w.heap.size + 1, 3, none⟩ (.slice B3 hs.length d3)).setCell ⟨w.heap.size + 1, 4, none⟩ (.slice B4 rs.length d4)) := ⟨_, rfl⟩
            rw [← hWf] at hsf ho5 hr5 q0 q1 q2 q3 q4
            have hfin := fun w'' hs => cp_fin (w'' := w'') HI1.out hI HO4.out N4.out hs (wb := w.heap.size) (by omega) (by omega)
            have hown : Wf.ownsRow w0.heap.size 60 6 (.slice B3 hs.length d3) hs.length (hs.flatMap chanV) := own_only (own_only (own_only HO3.out HI1.out.only N3.out) (hI.only.mono (Nat.le_refl _)) N3.out) ho5 (fun e => by have := (hblk3 _ e).1; omega)
            have hat := hfin Wf fun b hb hc => hsf b (by rcases hc with h | h <;> first | omega | (have := (hblk4 _ h).1; omega))
            have hcp : CpAt w.heap.size (fr, cs, ps, hs, rs) ⟨vf, cf, vf2, cf2, B3, d3, B4, d4⟩ Wf := by
              refine ⟨⟨hat.1.at', hat.2.1.at', arr_flat (f := chanV) (d := dC) hown (fun _ => rfl), hat.2.2.2.1⟩, own_base hown (by omega), fun w' ho => ?_⟩
              refine hfin w' fun b hb hc => ?_
              have hbf : b < Wf.heap.size := by have := ho5.size; omega
              rcases hc with h | h
              · rw [ho b (by omega) hbf (fun e => by have := (own_addr HO3.out e).2.2; omega), hsf b (by omega)]
              · rw [ho b (by have := (hblk4 _ h).1; omega) hbf (fun e => N34.out b (by dsimp only at e; subst e; rfl) h), hsf b (by have := (hblk4 _ h).1; omega)]
            have hbw : Below w.heap.size w Wf := HB0.out.trans ((hb0r.mono (by omega)).trans (ho5.below (by omega) (by omega)))
            have HCP := Lib.hid hcp
            have HBW := Lib.hid hbw
            have HWF := Lib.hid hWf
            have HQ0 := Lib.hid q0
            have HQ1 := Lib.hid q1
            have HQ2 := Lib.hid q2
            have HQ3 := Lib.hid q3
            have HQ4 := Lib.hid q4
            clear hs0 hsx hsr hsr2 hsf hblk3 hblk4 ho5 hfin hown hat hcp hbw hWf q0 q1 q2 q3 q4 hr5 hr hI k0 k1 k2 k3 k4 hk hlt hb0r
            go_wp2_with fail
            have q0 := HQ0.out
            have q1 := HQ1.out
            have q2 := HQ2.out
            have q3 := HQ3.out
            have q4 := HQ4.out
            have hWf := HWF.out
            rw [hWf] at q0 q1 q2 q3 q4
            refine bodyPost_ret (v := planV (fr, cs, ps, hs, rs) ⟨vf, cf, vf2, cf2, B3, d3, B4, d4⟩) (by simp [results, Tryd.results18, go_sem, planV, q0, q1, q2, q3, q4]) rfl ?_
            rw [← hWf]
            exact ⟨_, rfl, HCP.out, HBW.out⟩
end Go.Proofs.YtkgkjkghdllkhaaDoor.cp
