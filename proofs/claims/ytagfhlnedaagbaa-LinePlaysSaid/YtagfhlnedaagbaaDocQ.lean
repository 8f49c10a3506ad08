/-
  Drop and Take of the document's.
-/
import Derived.Test.YtagfhlnedaagbaaDocP
namespace Go.Proofs.Ytagfhlnedaagbaa
open Go.RowKit

/-- Two stores into the result, one into the line that came in. -/
structure TwoS (w2 W : World) (p q : Nat) (V2 : Value) (now : Int) : Prop where
  t0 : W.cell? ⟨q, 0, none⟩ = some V2
  t1 : W.cell? ⟨q, 1, none⟩ = some (.int .i64 now)
  chg : Chg (fun k => k = p ∨ k = q) w2 W
theorem twoOf {w2 : World} {p q : Nat} {V2 x y : Value} {now : Int} (hpq : p ≠ q) (s2 : w2.cell? ⟨q, 0, none⟩ = some x) (s3 : w2.cell? ⟨q, 1, none⟩ = some y) :
    TwoS w2 (((w2.setCell ⟨p, 0, none⟩ V2).setCell ⟨q, 0, none⟩ V2).setCell ⟨q, 1, none⟩ (.int .i64 now)) p q V2 now := by
  have u2 : (w2.setCell ⟨p, 0, none⟩ V2).cell? ⟨q, 0, none⟩ = some x := by rw [World.cell?_setCell_other _ _ _ _ (by intro e; simp only [Addr.mk.injEq] at e; omega)]; exact s2
  have u3 : ((w2.setCell ⟨p, 0, none⟩ V2).setCell ⟨q, 0, none⟩ V2).cell? ⟨q, 1, none⟩ = some y := by rw [World.cell?_setCell_other _ _ _ _ (by intro e; simp only [Addr.mk.injEq] at e; omega), World.cell?_setCell_other _ _ _ _ (by intro e; simp only [Addr.mk.injEq] at e; omega)]; exact s3
  refine ⟨?_, World.cell?_setCell_same _ _ _ u3, (((Chg.refl w2).set (a := ⟨p, 0, none⟩) (.inl rfl) _).set (a := ⟨q, 0, none⟩) (.inr rfl) _).set (a := ⟨q, 1, none⟩) (.inr rfl) _⟩
  rw [World.cell?_setCell_other _ _ _ _ (by intro e; simp only [Addr.mk.injEq] at e; omega)]
  exact World.cell?_setCell_same _ _ _ u2
/-- What is left without one. -/
def DropR (l : List DW) (id : Int) (l' : List DW) (E : Int) : Prop := (E = 142 ∧ l' = l ∧ hasD l id = false) ∨ (E = 0 ∧ hasD l id = true ∧ ∃ i : Nat, i < l.length ∧ (l.getD i d0).1 = id ∧ l' = outD l i)
theorem fnd_del {l : List DW} {id z : Int} (h : FndR l id z) : (hasD l id = true ∧ ∃ i : Nat, z = i ∧ i < l.length ∧ (l.getD i d0).1 = id) ∨ (hasD l id = false ∧ z = -1) := by
  have h0 := fnd_has h
  rcases h with ⟨h1, h2⟩ | ⟨i, h1, h2, h3, _⟩
  · rcases h0 with ⟨_, i, e, _⟩ | h0
    · omega
    · exact .inr h0
  · rcases h0 with ⟨h0, _⟩ | ⟨_, e⟩
    · exact .inl ⟨h0, i, h1, h2, h3⟩
    · omega
/-- Take. -/
def TakeR (l : List DW) (id : Int) (ok : Bool) (l' : List DW) : Prop := (ordD l = [] ∧ l' = l ∧ id = 0 ∧ ok = false) ∨ (∃ i : Nat, i < l.length ∧ (l.getD i d0).1 = id ∧ l' = outD l i ∧ ok = true ∧ ∃ r, idsD (ordD l) = id :: r)
set_option maxRecDepth 100000 in
set_option maxHeartbeats 4000000 in
theorem dropd_any (v : Value) (now id : Int) (l : List DW) (w : World) (hA : DR 0 w v l) (hn : l.length ≤ 1000) :
    Calls Try.prog 23 #[.agg #[v, nV now], nV id] w fun e w' => ∃ l' E, DropR l id l' E ∧ LineD v l' now E w e w' := by
  have hA0 := hA
  obtain ⟨A, c, rfl, hlc, _, _⟩ := hA.len
  have HF := Lib.hid (fun W (hB : Below w.heap.size w W) => find_any A c l id W (hA.at.keep hB) (by omega))
  have HA := Lib.hid (fun W (hB : Below w.heap.size w W) => hA0.keep hB)
  clear hA hA0
  go_enter Try.func23, Try.ntmps23
  go_wp2_with fail
  with_reducible refine (HF.out _ (((Below.refl _ _).alloc (Nat.le_refl _) _).alloc (by simp) _)).mono ?_
  rintro e _ ⟨z, rfl, hz, rfl⟩
  rcases fnd_del hz with ⟨hh, i, rfl, hi, hid⟩ | ⟨hh, rfl⟩
  · have HX := Lib.hid (And.intro hh hid)
    have i0 : (0 : Int) ≤ (i : Int) := Int.natCast_nonneg _
    clear HF hz hh hid
    obtain ⟨wb, hwb⟩ : ∃ wb, wb = ((w.alloc (.cells #[.slice A l.length c, nV now] 27)).alloc (.cells #[.slice none 0 0, .int .i64 0] 27)) := ⟨_, rfl⟩
    rw [← hwb]
    have hbs : wb.heap.size = w.heap.size + 2 := by rw [hwb]; simp
    have q0 : wb.cell? ⟨w.heap.size, 0, none⟩ = some (.slice A l.length c) := by rw [hwb]; exact al_cell (al_new _ _ _ 0 _ rfl rfl)
    have q1 : wb.cell? ⟨w.heap.size, 1, none⟩ = some (nV now) := by rw [hwb]; exact al_cell (al_new _ _ _ 1 _ rfl rfl)
    have r0 : wb.cell? ⟨w.heap.size + 1, 0, none⟩ = some (.slice none 0 0) := by rw [hwb]; exact al_new _ _ _ 0 _ (by simp) rfl
    have r1 : wb.cell? ⟨w.heap.size + 1, 1, none⟩ = some (.int .i64 0) := by rw [hwb]; exact al_new _ _ _ 1 _ (by simp) rfl
    have fq : ∀ j, wb.frozen? ⟨w.heap.size, j, none⟩ = false := fun j => by rw [hwb, frozen_old _ _ _ (by simp)]; exact frozen_new _ _ _ _
    have fr : ∀ j, wb.frozen? ⟨w.heap.size + 1, j, none⟩ = false := fun j => by rw [hwb]; exact frozen_at _ _ _ _ _ (by simp)
    have hBb : Below w.heap.size w wb := by rw [hwb]; exact ((Below.refl _ _).alloc (Nat.le_refl _) _).alloc (by simp) _
    have HBb := Lib.hid hBb
    have HW := Lib.hid (without_any A c l i wb ((HA.out _ hBb).at) hlc hi (by omega))
    have HS := Lib.hid (show ∀ W, Below wb.heap.size wb W → (W.cell? ⟨w.heap.size, 0, none⟩ = some (.slice A l.length c) ∧ W.cell? ⟨w.heap.size, 1, none⟩ = some (nV now)) ∧ (W.cell? ⟨w.heap.size + 1, 0, none⟩ = some (.slice none 0 0) ∧ W.cell? ⟨w.heap.size + 1, 1, none⟩ = some (.int .i64 0)) ∧ (∀ j, W.frozen? ⟨w.heap.size, j, none⟩ = false) ∧ (∀ j, W.frozen? ⟨w.heap.size + 1, j, none⟩ = false) from fun W hB => ⟨⟨kept q0 hB, kept q1 hB⟩, ⟨kept r0 hB, kept r1 hB⟩, fun j => (hB.frozen (p := ⟨w.heap.size, j, none⟩) (by show w.heap.size < _; omega)).trans (fq j), fun j => (hB.frozen (p := ⟨w.heap.size + 1, j, none⟩) (by show w.heap.size + 1 < _; omega)).trans (fr j)⟩)
    have hbs2 : w.heap.size + 1 < wb.heap.size := by omega
    clear hwb hBb HA q1 r0 r1 fq fr hbs
    go_wp2_with fail
    with_reducible refine HW.out.mono ?_
    rintro e w2 ⟨V2, rfl, hD2, hB2⟩
    obtain ⟨A2, c2, rfl, _⟩ := hD2.len
    obtain ⟨⟨s0, s1⟩, ⟨s2, s3⟩, s4, s5⟩ := HS.out w2 hB2
    have HD2 := Lib.hid hD2
    have HB2 := Lib.hid hB2
    have HT := Lib.hid (fun V2 => twoOf (w2 := w2) (p := w.heap.size) (q := w.heap.size + 1) (V2 := V2) (now := now) (by omega) s2 s3)
    clear hD2 hB2 HW HS q0
    go_wp2_with fail
    obtain ⟨V2, hV2⟩ : ∃ V2 : Value, V2 = .slice A2 (outD l i).length c2 := ⟨_, rfl⟩
    rw [← hV2]
    have HD2 : Hid (DR wb.heap.size w2 V2 (outD l i)) := by rw [hV2]; exact HD2
    obtain ⟨W, hW⟩ : ∃ W, W = ((w2.setCell ⟨w.heap.size, 0, none⟩ V2).setCell ⟨w.heap.size + 1, 0, none⟩ V2).setCell ⟨w.heap.size + 1, 1, none⟩ (.int .i64 now) := ⟨_, rfl⟩
    have hT := HT.out V2
    rw [← hW] at hT ⊢
    obtain ⟨t0, t1, hc⟩ := hT
    clear hW s0 s1 s2 s3 HT
    refine bodyPost_ret (by simp [results, Try.results23, go_sem, t0, t1]; try rfl) rfl ?_
    refine ⟨outD l i, 0, .inr ⟨rfl, HX.out.1, i, hi, HX.out.2, rfl⟩, V2, rfl, (HD2.out.same fun x hx => hc.block x (HD2.out.lt hx) (fun h => by have := HD2.out.ge hx; omega)).zero, ?_, fun x hx => .inr (by have := HD2.out.ge hx; have := HBb.out.size; omega)⟩
    exact (HBb.out.trans (HB2.out.mono HBb.out.size)).trans (hc.below (fun k hk => by omega) (Nat.le_trans HBb.out.size HB2.out.size))
  · have HX : Hid (∀ W, Below w.heap.size w W → ∃ l' E, DropR l id l' E ∧ LineD (.slice A l.length c) l' now E w (.returned (.tuple #[.agg #[.slice A l.length c, nV now], .int .i64 142])) W) := fun W hB => ⟨l, 142, .inl ⟨rfl, rfl, hh⟩, _, rfl, HA.out W hB, hB, fun x hx => .inl hx⟩
    clear HF HA hz hh
    go_wp2_with fail
    go_returns
    exact HX.out _ (((Below.refl _ _).alloc (Nat.le_refl _) _).alloc (by simp) _)
set_option maxRecDepth 100000 in
set_option maxHeartbeats 4000000 in
theorem taked_any (v : Value) (now : Int) (l : List DW) (w : World) (hA : DR 0 w v l) (hn : l.length ≤ 1000) (hsub : ∀ y ∈ ordD l, hasD l y.1 = true) :
    Calls Try.prog 22 #[.agg #[v, nV now]] w fun e w' => ∃ l' id ok v', TakeR l id ok l' ∧ e = .returned (.tuple #[.agg #[v', nV now], nV id, .bool ok]) ∧ DR 0 w' v' l' ∧ Below w.heap.size w w' ∧ Src v v' w.heap.size := by
  have hA0 := hA
  obtain ⟨A, c, rfl, hlc, _, _⟩ := hA.len
  have HA := Lib.hid (fun W (hB : Below w.heap.size w W) => hA0.keep hB)
  have HL := Lib.hid (fun W (hB : Below w.heap.size w W) => listd_any (.slice A l.length c) now l W (hA0.keep hB) hn)
  have HSUB := Lib.hid hsub
  have hA1 := hA0
  clear hA hA0 hsub
  go_enter Try.func22, Try.ntmps22
  go_wp2_with fail
  obtain ⟨wb, hwb⟩ : ∃ wb, wb = ((w.alloc (.cells #[.slice A l.length c, nV now] 27)).alloc (.cells #[.slice none 0 0, .int .i64 0] 27)) := ⟨_, rfl⟩
  rw [← hwb]
  have hbs : wb.heap.size = w.heap.size + 2 := by rw [hwb]; simp
  have q0 : wb.cell? ⟨w.heap.size, 0, none⟩ = some (.slice A l.length c) := by rw [hwb]; exact al_cell (al_new _ _ _ 0 _ rfl rfl)
  have q1 : wb.cell? ⟨w.heap.size, 1, none⟩ = some (nV now) := by rw [hwb]; exact al_cell (al_new _ _ _ 1 _ rfl rfl)
  have r0 : wb.cell? ⟨w.heap.size + 1, 0, none⟩ = some (.slice none 0 0) := by rw [hwb]; exact al_new _ _ _ 0 _ (by simp) rfl
  have r1 : wb.cell? ⟨w.heap.size + 1, 1, none⟩ = some (.int .i64 0) := by rw [hwb]; exact al_new _ _ _ 1 _ (by simp) rfl
  have fq : ∀ j, wb.frozen? ⟨w.heap.size, j, none⟩ = false := fun j => by rw [hwb, frozen_old _ _ _ (by simp)]; exact frozen_new _ _ _ _
  have fr : ∀ j, wb.frozen? ⟨w.heap.size + 1, j, none⟩ = false := fun j => by rw [hwb]; exact frozen_at _ _ _ _ _ (by simp)
  have hBb : Below w.heap.size w wb := by rw [hwb]; exact ((Below.refl _ _).alloc (Nat.le_refl _) _).alloc (by simp) _
  have HBb := Lib.hid hBb
  have HS := Lib.hid (show ∀ W, Below wb.heap.size wb W → (W.cell? ⟨w.heap.size, 0, none⟩ = some (.slice A l.length c) ∧ W.cell? ⟨w.heap.size, 1, none⟩ = some (nV now)) ∧ (W.cell? ⟨w.heap.size + 1, 0, none⟩ = some (.slice none 0 0) ∧ W.cell? ⟨w.heap.size + 1, 1, none⟩ = some (.int .i64 0)) ∧ (∀ j, W.frozen? ⟨w.heap.size, j, none⟩ = false) ∧ (∀ j, W.frozen? ⟨w.heap.size + 1, j, none⟩ = false) from fun W hB => ⟨⟨kept q0 hB, kept q1 hB⟩, ⟨kept r0 hB, kept r1 hB⟩, fun j => (hB.frozen (p := ⟨w.heap.size, j, none⟩) (by show w.heap.size < _; omega)).trans (fq j), fun j => (hB.frozen (p := ⟨w.heap.size + 1, j, none⟩) (by show w.heap.size + 1 < _; omega)).trans (fr j)⟩)
  have hbs2 : w.heap.size + 1 < wb.heap.size := by omega
  have HL' := Lib.hid (HL.out wb hBb)
  clear hwb hBb q1 r0 r1 fq fr hbs HL
  with_reducible refine HL'.out.mono ?_
  rintro e w1 ⟨vo, rfl, hN, hB1, hg⟩
  obtain ⟨oA, oc, rfl, hoA⟩ := hN.len
  obtain ⟨⟨s0, s1⟩, ⟨s2, s3⟩, s4, s5⟩ := HS.out w1 hB1
  cases ho : ordD l with
  | nil =>
    have hz : (idsD (ordD l)).length = 0 := by rw [ho]; rfl
    rw [show (idsD []).length = 0 from rfl]
    have hBw : Below w.heap.size w w1 := HBb.out.trans (hB1.mono HBb.out.size)
    have HX := Lib.hid (HA.out w1 hBw)
    have HBW := Lib.hid hBw
    have HO := Lib.hid ho
    clear hN hB1 hg hoA HA HS HL' HSUB hBw ho q0
    go_wp2_with fail
    obtain ⟨V2, hV2⟩ : ∃ V2 : Value, V2 = .slice A l.length c := ⟨_, rfl⟩
    rw [← hV2]
    obtain ⟨W, hW⟩ : ∃ W, W = (w1.setCell ⟨w.heap.size + 1, 0, none⟩ V2).setCell ⟨w.heap.size + 1, 1, none⟩ (.int .i64 now) := ⟨_, rfl⟩
    have u3 : (w1.setCell ⟨w.heap.size + 1, 0, none⟩ V2).cell? ⟨w.heap.size + 1, 1, none⟩ = some (.int .i64 0) := by rw [World.cell?_setCell_other _ _ _ _ (by intro e; simp only [Addr.mk.injEq] at e; omega)]; exact s3
    have t0 : W.cell? ⟨w.heap.size + 1, 0, none⟩ = some V2 := by rw [hW, World.cell?_setCell_other _ _ _ _ (by intro e; simp only [Addr.mk.injEq] at e; omega)]; exact World.cell?_setCell_same _ _ _ s2
    have t1 : W.cell? ⟨w.heap.size + 1, 1, none⟩ = some (.int .i64 now) := by rw [hW]; exact World.cell?_setCell_same _ _ _ u3
    have hc : Chg (fun k => k = w.heap.size + 1) w1 W := by rw [hW]; exact Chg.set (S := fun k => k = w.heap.size + 1) (a := ⟨w.heap.size + 1, 1, none⟩) (Chg.set (S := fun k => k = w.heap.size + 1) (a := ⟨w.heap.size + 1, 0, none⟩) (Chg.refl w1) rfl _) rfl _
    have hX : DR 0 w V2 l := by rw [hV2]; exact hA1
    have hBW : Below w.heap.size w W := HBW.out.trans (hc.below (fun k hk => by omega) HBW.out.size)
    rw [← hW]
    clear hW s0 s1 s2 s3
    refine bodyPost_ret (by simp [results, Try.results22, go_sem, t0, t1]; try rfl) rfl ?_
    exact ⟨l, 0, false, V2, .inl ⟨HO.out, rfl, rfl, rfl⟩, rfl, hX.keep hBW, hBW, fun x hx => .inl (by first | exact hx | (rw [← hV2]; exact hx) | (rw [hV2] at hx; exact hx))⟩
  | cons y r =>
    have hz : (idsD (ordD l)).length = r.length + 1 := by rw [ho]; simp [idsD]
    obtain ⟨ob, rfl⟩ := hoA (by omega)
    have k0 := hN.at (i := 0) (by omega)
    have hob : wb.heap.size ≤ ob := hg ob rfl
    have hy0 : (idsD (ordD l)).getD 0 0 = y.1 := by rw [ho]; rfl
    have hhas : hasD l y.1 = true := HSUB.out y (by rw [ho]; exact List.mem_cons_self)
    have hids : ∃ r', idsD (ordD l) = y.1 :: r' := ⟨idsD r, by rw [ho]; rfl⟩
    rw [hy0] at k0
    rw [show (idsD (y :: r)).length = r.length + 1 by simp [idsD]]
    obtain ⟨id, hid⟩ : ∃ id, id = y.1 := ⟨_, rfl⟩
    rw [← hid] at k0 hhas hids
    have hBw : Below w.heap.size w w1 := HBb.out.trans (hB1.mono HBb.out.size)
    have HFI := Lib.hid (find_any A c l id w1.drew ((HA.out w1 hBw).at.keep (below_dn w1 1)) (by omega))
    have HWI := Lib.hid (fun i hi => without_any A c l i w1.drew ((HA.out w1 hBw).at.keep (below_dn w1 1)) hlc hi (by omega))
    have HXX := Lib.hid (And.intro hhas hids)
    have HK := Lib.hid (fun W (hB : Below w1.heap.size w1 W) => HS.out W (hB1.trans (hB.mono hB1.size)))
    have HBW := Lib.hid hBw
    have hnl : (0 : Int) < (r.length : Int) + 1 := by omega
    have hnz : ¬ ((r.length : Int) + 1 = 0) := by omega
    have hw2 : w.heap.size + 1 < w1.heap.size := by have := hB1.size; omega
    clear hN hB1 hg HA HS HL' HSUB hBw ho q0 hz hy0 hhas hids hid
    go_upto_region 4 with fail
    go_cut [20] (fun _ wx => ∃ (i n2 : Nat) (A2 : Option Addr) (c2 : Nat) (w2 : World), wx = w2.setCell ⟨w.heap.size, 0, none⟩ (.slice A2 n2 c2) ∧ Hid (i < l.length ∧ (l.getD i d0).1 = id ∧ Below w1.heap.size w1 w2 ∧ DR w1.heap.size w2 (.slice A2 n2 c2) (outD l i)))
    case first =>
      go_region_law ((first
        | (go_simp; (with_reducible refine HFI.out.mono ?_); (rintro e _ ⟨z, rfl, hz, rfl⟩); (obtain ⟨_, i, rfl, hi, hie⟩ := (fnd_del hz).resolve_right (fun c => by have := HXX.out.1; rw [c.1] at this; cases this)))
        | (go_simp; (with_reducible refine (HWI.out _ hi).mono ?_); (rintro e w2 ⟨V2, rfl, hD2, hB2⟩); (obtain ⟨A2, c2, rfl, _⟩ := hD2.len); (obtain ⟨⟨z0, z1⟩, ⟨z2, z3⟩, z4, z5⟩ := HK.out w2 ((below_dn w1 1).trans hB2)))))
      all_goals go_wp2_with fail
      all_goals go_meet
      all_goals exact ⟨i, _, A2, c2, w2, rfl, hi, hie, (below_dn w1 1).trans hB2, hD2⟩
    case rest =>
      obtain ⟨i, n2, A2, c2, w2, rfl, HH⟩ := hcut
      obtain ⟨hi, hie, hB2, hD2⟩ := HH.out
      obtain ⟨⟨z0, z1⟩, ⟨z2, z3⟩, z4, z5⟩ := HK.out w2 hB2
      obtain ⟨V2, hV2⟩ : ∃ V2 : Value, V2 = .slice A2 n2 c2 := ⟨_, rfl⟩
      have x0 := kept k0 hB2
      obtain ⟨w3, hw3⟩ : ∃ w3, w3 = w2.setCell ⟨w.heap.size, 0, none⟩ (.slice A2 n2 c2) := ⟨_, rfl⟩
      rw [← hw3]
      have hobp : ob ≠ w.heap.size := by omega
      have hobq : ¬ ob = w.heap.size + 1 := by omega
      have hobq' : ¬ w.heap.size + 1 = ob := by omega
      have y0 : w3.cell? ⟨w.heap.size, 0, none⟩ = some (.slice A2 n2 c2) := by rw [hw3]; exact World.cell?_setCell_same _ _ _ z0
      have y1 : w3.cell? ⟨w.heap.size, 1, none⟩ = some (nV now) := by rw [hw3, World.cell?_setCell_other _ _ _ _ (by intro e; simp only [Addr.mk.injEq] at e; omega)]; exact z1
      have y2 : w3.cell? ⟨w.heap.size + 1, 0, none⟩ = some (.slice none 0 0) := by rw [hw3, World.cell?_setCell_other _ _ _ _ (by intro e; simp only [Addr.mk.injEq] at e; omega)]; exact z2
      have y3 : w3.cell? ⟨w.heap.size + 1, 1, none⟩ = some (.int .i64 0) := by rw [hw3, World.cell?_setCell_other _ _ _ _ (by intro e; simp only [Addr.mk.injEq] at e; omega)]; exact z3
      have x1 : w3.cell? ⟨ob, 0, none⟩ = some (nV id) := by rw [hw3, World.cell?_setCell_other _ _ _ _ (by intro e; simp only [Addr.mk.injEq] at e; omega)]; exact x0
      have f5 : ∀ j, w3.frozen? ⟨w.heap.size + 1, j, none⟩ = false := fun j => by rw [hw3, World.frozen?_setCell]; exact z5 j
      have hc3 : Chg (fun k => k = w.heap.size) w2 w3 := by rw [hw3]; exact Chg.set (S := fun k => k = w.heap.size) (a := ⟨w.heap.size, 0, none⟩) (Chg.refl w2) rfl _
      clear z0 z1 z2 z3 z4 z5 x0 k0 s0 s1 s2 s3 s4 s5 hw3 HK HFI HWI
      have HH3 := Lib.hid hc3
      clear hc3 hB2 hD2
      go_wp2_with fail
      go_region
      go_wp2_with fail
      rw [← hV2]
      obtain ⟨W, hW⟩ : ∃ W, W = ((w3.setCell ⟨w.heap.size + 1, 0, none⟩ V2).setCell ⟨w.heap.size + 1, 1, none⟩ (.int .i64 now)).drew := ⟨_, rfl⟩
      have t0 : W.cell? ⟨w.heap.size + 1, 0, none⟩ = some V2 := by
        rw [hW]
        show ((w3.setCell ⟨w.heap.size + 1, 0, none⟩ V2).setCell ⟨w.heap.size + 1, 1, none⟩ (.int .i64 now)).cell? _ = _
        rw [World.cell?_setCell_other _ _ _ _ (by intro e; simp only [Addr.mk.injEq] at e; omega)]; exact World.cell?_setCell_same _ _ _ y2
      have u3 : (w3.setCell ⟨w.heap.size + 1, 0, none⟩ V2).cell? ⟨w.heap.size + 1, 1, none⟩ = some (.int .i64 0) := by rw [World.cell?_setCell_other _ _ _ _ (by intro e; simp only [Addr.mk.injEq] at e; omega)]; exact y3
      have t1 : W.cell? ⟨w.heap.size + 1, 1, none⟩ = some (.int .i64 now) := by
        rw [hW]
        show ((w3.setCell ⟨w.heap.size + 1, 0, none⟩ V2).setCell ⟨w.heap.size + 1, 1, none⟩ (.int .i64 now)).cell? _ = _
        exact World.cell?_setCell_same _ _ _ u3
      obtain ⟨_, _, hB2, hD2⟩ := HH.out
      have hc : Chg (fun k => k = w.heap.size ∨ k = w.heap.size + 1) w2 W := by
        rw [hW]
        exact ((((HH3.out.mono (fun k hk => .inl hk)).set (a := ⟨w.heap.size + 1, 0, none⟩) (.inr rfl) _).set (a := ⟨w.heap.size + 1, 1, none⟩) (.inr rfl) _)).drew
      have hD3 : DR 0 W V2 (outD l i) := by
        rw [hV2]
        exact (hD2.same fun x hx => hc.block x (hD2.lt hx) (fun h => by have := hD2.ge hx; omega)).zero
      have hBW : Below w.heap.size w W := (HBW.out.trans (hB2.mono HBW.out.size)).trans (hc.below (fun k hk => by omega) (Nat.le_trans HBW.out.size hB2.size))
      rw [← hW]
      clear hW u3 y0 y1 y2 y3
      refine bodyPost_ret (by simp [results, Try.results22, go_sem, t0, t1]; try rfl) rfl ?_
      exact ⟨outD l i, id, true, V2, .inr ⟨i, hi, hie, rfl, rfl, HXX.out.2⟩, rfl, hD3, hBW, fun x hx => .inr (by rw [hV2] at hx; have := hD2.ge hx; have := HBW.out.size; omega)⟩
end Go.Proofs.Ytagfhlnedaagbaa
