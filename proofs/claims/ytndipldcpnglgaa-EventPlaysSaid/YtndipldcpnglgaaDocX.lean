/-
  The document's event: Wait, Set.
-/
import Derived.Test.YtndipldcpnglgaaDocE
namespace Go.Proofs.Ytndipldcpnglgaa
open Go.RowKit

/-- Three cells stored. -/
theorem threeOf {w : World} {q : Nat} {a b c x0 x1 x2 : Value} (s0 : w.cell? ⟨q, 0, none⟩ = some x0) (s1 : w.cell? ⟨q, 1, none⟩ = some x1) (s2 : w.cell? ⟨q, 2, none⟩ = some x2) {W : World} (hW : W = ((w.setCell ⟨q, 0, none⟩ a).setCell ⟨q, 1, none⟩ b).setCell ⟨q, 2, none⟩ c) :
    W.cell? ⟨q, 0, none⟩ = some a ∧ W.cell? ⟨q, 1, none⟩ = some b ∧ W.cell? ⟨q, 2, none⟩ = some c ∧ Chg (fun k => k = q) w W := by
  have ne : ∀ (i j : Nat), i ≠ j → (⟨q, i, none⟩ : Addr) ≠ ⟨q, j, none⟩ := fun i j h e => by simp only [Addr.mk.injEq] at e; omega
  have u1 : (w.setCell ⟨q, 0, none⟩ a).cell? ⟨q, 1, none⟩ = some x1 := by rw [World.cell?_setCell_other _ _ _ _ (ne 0 1 (by decide))]; exact s1
  have u2 : ((w.setCell ⟨q, 0, none⟩ a).setCell ⟨q, 1, none⟩ b).cell? ⟨q, 2, none⟩ = some x2 := by rw [World.cell?_setCell_other _ _ _ _ (ne 1 2 (by decide)), World.cell?_setCell_other _ _ _ _ (ne 0 2 (by decide))]; exact s2
  subst hW
  refine ⟨?_, ?_, World.cell?_setCell_same _ _ _ u2, ?_⟩
  · rw [World.cell?_setCell_other _ _ _ _ (ne 2 0 (by decide)), World.cell?_setCell_other _ _ _ _ (ne 1 0 (by decide))]; exact World.cell?_setCell_same _ _ _ s0
  · rw [World.cell?_setCell_other _ _ _ _ (ne 2 1 (by decide))]; exact World.cell?_setCell_same _ _ _ u1
  · exact Chg.set (S := fun k => k = q) (a := ⟨q, 2, none⟩) (Chg.set (S := fun k => k = q) (a := ⟨q, 1, none⟩) (Chg.set (S := fun k => k = q) (a := ⟨q, 0, none⟩) (Chg.refl w) rfl _) rfl _) rfl _
/-- An event of the document's behind a call. -/
def EvD (v : Value) (l : List DW) (now : Int) (up : Bool) (b : Bool) (E : Int) (w : World) (e : Ending) (w' : World) : Prop := ∃ v', e = .returned (.tuple #[.agg #[v', nV now, .bool up], .bool b, .int .i64 E]) ∧ DR 0 w' v' l ∧ Below w.heap.size w w' ∧ Src v v' w.heap.size
def waitDE (l : List DW) (now : Int) (up : Bool) (id prio til : Int) : Bool × Int :=
  if putDE l now id prio (-1) ≠ 0 then (false, putDE l now id prio (-1)) else if up = true then (true, 0) else if til = 0 then (false, 0) else (false, putDE l now id prio til)
def waitDL (l : List DW) (now : Int) (up : Bool) (id prio til : Int) : List DW :=
  if putDE l now id prio (-1) ≠ 0 then l else if up = true then l else if til = 0 then l else putD l now id prio til
/-- A box of an event. -/
structure Box3 (w : World) (p : Nat) (v : Value) (now : Int) (up : Bool) : Prop where
  c0 : w.cell? ⟨p, 0, none⟩ = some v
  c1 : w.cell? ⟨p, 1, none⟩ = some (nV now)
  c2 : w.cell? ⟨p, 2, none⟩ = some (.bool up)
  fz : ∀ j, w.frozen? ⟨p, j, none⟩ = false
theorem Box3.keep {w w' : World} {p : Nat} {v : Value} {now : Int} {up : Bool} (h : Box3 w p v now up) (hB : Below w.heap.size w w') : Box3 w' p v now up :=
  ⟨kept h.c0 hB, kept h.c1 hB, kept h.c2 hB, fun j => (hB.frozen (p := ⟨p, j, none⟩) (show p < _ from cell_lt h.c0)).trans (h.fz j)⟩
theorem Box3.new (w : World) (v : Value) (now : Int) (up : Bool) (ty : TypeId) {p : Nat} (hp : p = w.heap.size) : Box3 (w.alloc (.cells #[v, nV now, .bool up] ty)) p v now up :=
  ⟨al_new _ _ _ 0 _ hp rfl, al_new _ _ _ 1 _ hp rfl, al_new _ _ _ 2 _ hp rfl, fun _ => frozen_at _ _ _ _ _ hp⟩
theorem Box3.set2 {w : World} {p : Nat} {v : Value} {now : Int} {up : Bool} (h : Box3 w p v now up) (z : Bool) : Box3 (w.setCell ⟨p, 2, none⟩ (.bool z)) p v now z := by
  have ne : ∀ (i j : Nat), i ≠ j → (⟨p, i, none⟩ : Addr) ≠ ⟨p, j, none⟩ := fun i j h e => by simp only [Addr.mk.injEq] at e; omega
  exact ⟨by rw [World.cell?_setCell_other _ _ _ _ (ne 2 0 (by decide))]; exact h.c0, by rw [World.cell?_setCell_other _ _ _ _ (ne 2 1 (by decide))]; exact h.c1, World.cell?_setCell_same _ _ _ h.c2, fun j => by rw [World.frozen?_setCell]; exact h.fz j⟩
theorem Box3.far {w : World} {p q i : Nat} {v x : Value} {now : Int} {up : Bool} (h : Box3 w p v now up) (hq : q ≠ p) : Box3 (w.setCell ⟨q, i, none⟩ x) p v now up := by
  have ne : ∀ (j : Nat), (⟨q, i, none⟩ : Addr) ≠ ⟨p, j, none⟩ := fun j e => by simp only [Addr.mk.injEq] at e; omega
  exact ⟨by rw [World.cell?_setCell_other _ _ _ _ (ne 0)]; exact h.c0, by rw [World.cell?_setCell_other _ _ _ _ (ne 1)]; exact h.c1, by rw [World.cell?_setCell_other _ _ _ _ (ne 2)]; exact h.c2, fun j => by rw [World.frozen?_setCell]; exact h.fz j⟩
theorem Box3.set01 {w : World} {p : Nat} {v v' : Value} {now now' : Int} {up : Bool} (h : Box3 w p v now up) : Box3 ((w.setCell ⟨p, 0, none⟩ v').setCell ⟨p, 1, none⟩ (nV now')) p v' now' up := by
  have ne : ∀ (i j : Nat), i ≠ j → (⟨p, i, none⟩ : Addr) ≠ ⟨p, j, none⟩ := fun i j h e => by simp only [Addr.mk.injEq] at e; omega
  have u1 : (w.setCell ⟨p, 0, none⟩ v').cell? ⟨p, 1, none⟩ = some (nV now) := by rw [World.cell?_setCell_other _ _ _ _ (ne 0 1 (by decide))]; exact h.c1
  refine ⟨?_, World.cell?_setCell_same _ _ _ u1, ?_, fun j => by rw [World.frozen?_setCell, World.frozen?_setCell]; exact h.fz j⟩
  · rw [World.cell?_setCell_other _ _ _ _ (ne 1 0 (by decide))]; exact World.cell?_setCell_same _ _ _ h.c0
  · rw [World.cell?_setCell_other _ _ _ _ (ne 1 2 (by decide)), World.cell?_setCell_other _ _ _ _ (ne 0 2 (by decide))]; exact h.c2
theorem DR.other {H x : Nat} {w : World} {v : Value} {l : List DW} {o : Obj} (h : DR H w v l) (hb : w.heap[x]? = some o) (ho : ∀ c, o ≠ .cells c 73) (e : v.ownBlock = some x) : False := by
  rcases h.shape with ⟨h1, _⟩ | ⟨g, cap, cur, hv, hg, _⟩
  · rw [h1] at e; cases e
  · rw [hv] at e
    have e : some g = some x := e
    injection e with e
    rw [e, hb] at hg
    injection hg with hg
    exact ho _ hg
set_option maxRecDepth 100000 in
set_option maxHeartbeats 8000000 in
theorem waitd_any (v : Value) (now : Int) (up : Bool) (id prio til : Int) (l : List DW) (w : World) (hA : DR 0 w v l) (hn : l.length ≤ 900) :
    Calls Try.prog 9 #[.agg #[v, nV now, .bool up], nV id, nV prio, nV til] w fun e w' => EvD v (waitDL l now up id prio til) now up (waitDE l now up id prio til).1 (waitDE l now up id prio til).2 w e w' := by
  obtain ⟨A, cv, rfl, _, _, _⟩ := hA.len
  have HP := Lib.hid (fun til W (hB : Below w.heap.size w W) => putd_any (.slice A l.length cv) now id prio til l W (hA.keep hB) (by omega))
  have HA := Lib.hid (fun W (hB : Below w.heap.size w W) => hA.keep hB)
  have hvq : ¬ (Value.slice A l.length cv).ownBlock = some (w.heap.size + 1) := fun e => by have := hA.lt e; omega
  have HVQ0 := Lib.hid hvq
  have HVP0 := Lib.hid (show ¬ (Value.slice A l.length cv).ownBlock = some w.heap.size from fun e => by have := hA.lt e; omega)
  clear hA hvq
  go_enter Try.func9, Try.ntmps9
  go_wp2_with fail
  obtain ⟨p, hp⟩ : ∃ p, p = w.heap.size := ⟨_, rfl⟩
  obtain ⟨q, hq⟩ : ∃ q, q = w.heap.size + 1 := ⟨_, rfl⟩
  obtain ⟨wb, hwb⟩ : ∃ wb, wb = ((w.alloc (.cells #[.slice A l.length cv, nV now, .bool up] 29)).alloc (.cells #[.slice none 0 0, .int .i64 0, .bool false] 29)) := ⟨_, rfl⟩
  have hBb : Below w.heap.size w wb := by rw [hwb]; exact ((Below.refl _ _).alloc (Nat.le_refl _) _).alloc (by simp) _
  have hX : Box3 wb p (.slice A l.length cv) now up := by rw [hwb]; exact (Box3.new w (.slice A l.length cv) now up 29 hp).keep ((Below.refl _ _).alloc (by simp) _)
  have hY : Box3 wb q (.slice none 0 0) 0 false := by rw [hwb]; exact Box3.new _ (.slice none 0 0) 0 false 29 (by rw [hq]; simp)
  have HVQ : Hid (¬ (Value.slice A l.length cv).ownBlock = some q) := by rw [hq]; exact HVQ0
  have HVP : Hid (¬ (Value.slice A l.length cv).ownBlock = some p) := by rw [hp]; exact HVP0
  have hTP : wb.heap[p]? = some (.cells #[.slice A l.length cv, nV now, .bool up] 29) := by rw [hwb, hp, Below.heap_alloc _ _ _ (by simp)]; exact heap_alloc_new _ _
  have hTQ : wb.heap[q]? = some (.cells #[.slice none 0 0, .int .i64 0, .bool false] 29) := by
    have : q = (w.alloc (.cells #[.slice A l.length cv, nV now, .bool up] 29)).heap.size := by rw [hq]; simp
    rw [hwb, this]; exact heap_alloc_new _ _
  have HTT := Lib.hid (fun W (hB : Below wb.heap.size wb W) => And.intro ((hB.block p (Array.getElem?_eq_some_iff.1 hTP).1).trans hTP) ((hB.block q (Array.getElem?_eq_some_iff.1 hTQ).1).trans hTQ))
  clear hTP hTQ
  have hpq : p < q := by omega
  have hwp : w.heap.size ≤ p := by omega
  rw [← hwb, ← hq, ← hp]
  have HBb := Lib.hid hBb
  have HX := Lib.hid hX
  have HY := Lib.hid hY
  have HP1 := Lib.hid (HP.out (-1) wb hBb)
  clear hwb hBb hX hY hp hq
  with_reducible refine HP1.out.mono ?_
  rintro e w1 ⟨v1, rfl, hD1, hB1, _⟩
  have HB1b := Lib.hid hB1
  have hB1w : Below w.heap.size w w1 := HBb.out.trans (hB1.mono HBb.out.size)
  have hX1 := HX.out.keep hB1
  have hY1 := HY.out.keep hB1
  have HB1 := Lib.hid hB1w
  obtain ⟨A1, c1, rfl, _⟩ := hD1.len
  clear HP1 hB1 hD1 HX HY HBb hB1w
  have hA1 := HA.out w1 HB1.out
  have HA1 := Lib.hid hA1
  clear hA1
  by_cases he : putDE l now id prio (-1) = 0
  · rw [he]
    cases hu : up with
    | true =>
      have hL : waitDL l now up id prio til = l := by unfold waitDL; rw [if_neg (by simp [he]), if_pos hu]
      have hR : waitDE l now up id prio til = (true, 0) := by unfold waitDE; rw [if_neg (by simp [he]), if_pos hu]
      have HR := Lib.hid (And.intro hL hR)
      clear hL hR he
      obtain ⟨w2, hw2⟩ : ∃ w2, w2 = w1.alloc (.cells #[.slice A1 (putD l now id prio (-1)).length c1, nV now] 27) := ⟨_, rfl⟩
      have hB2 : Below w1.heap.size w1 w2 := by rw [hw2]; exact (Below.refl _ _).alloc (Nat.le_refl _) _
      have hX2 := hX1.keep hB2
      have hY2 := hY1.keep hB2
      rw [hu] at hX2 hX1
      have HU := Lib.hid hu
      clear hu
      have HX3 := Lib.hid hX2
      have HY3 := Lib.hid hY2
      have HB2 := Lib.hid hB2
      obtain ⟨x0, x1, x2, x3⟩ := hX2
      obtain ⟨y0, y1, y2, y3⟩ := hY2
      clear hB2 hX1 hY1
      go_upto_region 2 with fail
      rw [← hw2]
      clear hw2
      go_wp2_with fail
      obtain ⟨V2, hV2⟩ : ∃ V2 : Value, V2 = .slice A l.length cv := ⟨_, rfl⟩
      rw [← hV2]
      obtain ⟨W, hW⟩ : ∃ W, W = ((w2.setCell ⟨q, 0, none⟩ V2).setCell ⟨q, 1, none⟩ (.int .i64 now)).setCell ⟨q, 2, none⟩ (.bool true) := ⟨_, rfl⟩
      obtain ⟨t0, t1, t2, hcg⟩ := threeOf HY3.out.c0 HY3.out.c1 HY3.out.c2 hW
      rw [← hW]
      clear hW
      refine bodyPost_ret (by simp [results, Try.results9, go_sem, t0, t1, t2]; try rfl) rfl ?_
      rw [← HU.out, HR.out.1, HR.out.2]
      refine ⟨V2, by rw [HU.out], ?_, ?_, fun x hx => .inl (by first | exact hx | (rw [← hV2]; exact hx) | (rw [hV2] at hx; exact hx))⟩
      · rw [hV2]
        refine (HA1.out.keep HB2.out).same fun x hx => hcg.block x ((HA1.out.keep HB2.out).lt hx) fun e => ?_
        exact HVQ.out (by rw [← e]; exact hx)
      · exact (HB1.out.trans (HB2.out.mono HB1.out.size)).trans (hcg.below (fun k hk => by omega) (Nat.le_trans HB1.out.size HB2.out.size))
    | false =>
      have hu' : ¬ up = true := by rw [hu]; simp
      by_cases ht : til = 0
      · have hL : waitDL l now up id prio til = l := by unfold waitDL; rw [if_neg (by simp [he]), if_neg hu', if_pos ht]
        have hR : waitDE l now up id prio til = (false, 0) := by unfold waitDE; rw [if_neg (by simp [he]), if_neg hu', if_pos ht]
        have HR := Lib.hid (And.intro hL hR)
        clear hL hR he hu'
        obtain ⟨w2, hw2⟩ : ∃ w2, w2 = w1.alloc (.cells #[.slice A1 (putD l now id prio (-1)).length c1, nV now] 27) := ⟨_, rfl⟩
        have hB2 : Below w1.heap.size w1 w2 := by rw [hw2]; exact (Below.refl _ _).alloc (Nat.le_refl _) _
        have hX2 := hX1.keep hB2
        have hY2 := hY1.keep hB2
        rw [hu] at hX2 hX1
        have HU := Lib.hid hu
        clear hu
        have HX3 := Lib.hid hX2
        have HY3 := Lib.hid hY2
        have HB2 := Lib.hid hB2
        obtain ⟨x0, x1, x2, x3⟩ := hX2
        obtain ⟨y0, y1, y2, y3⟩ := hY2
        clear hB2 hX1 hY1
        go_upto_region 2 with fail
        rw [← hw2]
        clear hw2
        go_wp2_with fail
        obtain ⟨V2, hV2⟩ : ∃ V2 : Value, V2 = .slice A l.length cv := ⟨_, rfl⟩
        rw [← hV2]
        obtain ⟨W, hW⟩ : ∃ W, W = ((w2.setCell ⟨q, 0, none⟩ V2).setCell ⟨q, 1, none⟩ (.int .i64 now)).setCell ⟨q, 2, none⟩ (.bool false) := ⟨_, rfl⟩
        obtain ⟨t0, t1, t2, hcg⟩ := threeOf HY3.out.c0 HY3.out.c1 HY3.out.c2 hW
        rw [← hW]
        clear hW
        refine bodyPost_ret (by simp [results, Try.results9, go_sem, t0, t1, t2]; try rfl) rfl ?_
        rw [← HU.out, HR.out.1, HR.out.2]
        refine ⟨V2, by rw [HU.out], ?_, ?_, fun x hx => .inl (by first | exact hx | (rw [← hV2]; exact hx) | (rw [hV2] at hx; exact hx))⟩
        · rw [hV2]
          refine (HA1.out.keep HB2.out).same fun x hx => hcg.block x ((HA1.out.keep HB2.out).lt hx) fun e => ?_
          exact HVQ.out (by rw [← e]; exact hx)
        · exact (HB1.out.trans (HB2.out.mono HB1.out.size)).trans (hcg.below (fun k hk => by omega) (Nat.le_trans HB1.out.size HB2.out.size))
      · have hL : waitDL l now up id prio til = putD l now id prio til := by unfold waitDL; rw [if_neg (by simp [he]), if_neg hu', if_neg ht]
        have hR : waitDE l now up id prio til = (false, putDE l now id prio til) := by unfold waitDE; rw [if_neg (by simp [he]), if_neg hu', if_neg ht]
        have HR := Lib.hid (And.intro hL hR)
        clear hL hR he
        obtain ⟨w2, hw2⟩ : ∃ w2, w2 = w1.alloc (.cells #[.slice A1 (putD l now id prio (-1)).length c1, nV now] 27) := ⟨_, rfl⟩
        have hB2 : Below w1.heap.size w1 w2 := by rw [hw2]; exact (Below.refl _ _).alloc (Nat.le_refl _) _
        have hX2 := hX1.keep hB2
        have hY2 := hY1.keep hB2
        rw [hu] at hX2 hX1
        have HX3 := Lib.hid hX2
        have HY3 := Lib.hid hY2
        have HB2 := Lib.hid hB2
        have hne : ¬ p = q := by omega
        have hne' : ¬ q = p := by omega
        obtain ⟨x0, x1, x2, x3⟩ := hX2
        obtain ⟨y0, y1, y2, y3⟩ := hY2
        have HU := Lib.hid hu
        clear hB2 hX1 hY1 hu hu'
        go_upto_region 2 with fail
        rw [← hw2]
        clear hw2
        have HP2 := Lib.hid (HP.out til w2 (HB1.out.trans (HB2.out.mono HB1.out.size)))
        go_wp2_with fail
        with_reducible refine HP2.out.mono ?_
        rintro e w3 ⟨v3, rfl, hD3, hB3, hS3⟩
        obtain ⟨A3, c3, rfl, _⟩ := hD3.len
        have HD3 := Lib.hid hD3
        have HS3 := Lib.hid hS3
        clear hS3
        have hB3w : Below w.heap.size w w3 := (HB1.out.trans (HB2.out.mono HB1.out.size)).trans (hB3.mono (Nat.le_trans HB1.out.size HB2.out.size))
        obtain ⟨w4, hw4⟩ : ∃ w4, w4 = w3.alloc (.cells #[.slice A3 (putD l now id prio til).length c3, nV now] 27) := ⟨_, rfl⟩
        have hB4 : Below w3.heap.size w3 w4 := by rw [hw4]; exact (Below.refl _ _).alloc (Nat.le_refl _) _
        have hX4 := (HX3.out.keep hB3).keep hB4
        have hY4 := (HY3.out.keep hB3).keep hB4
        have HX4 := Lib.hid hX4
        have HY4 := Lib.hid hY4
        have HB4 := Lib.hid (hB3w.trans (hB4.mono hB3w.size))
        have HD4 := Lib.hid (hD3.keep hB4)
        have HB34 := Lib.hid (hB3.trans (hB4.mono hB3.size))
        have hq3 : q < w2.heap.size := cell_lt (a := ⟨q, 0, none⟩) y0
        have hq4 : q < w4.heap.size := Nat.lt_of_lt_of_le hq3 (Nat.le_trans hB3.size hB4.size)
        obtain ⟨x0, x1, x2, x3⟩ := hX4
        obtain ⟨y0, y1, y2, y3⟩ := hY4
        clear hD3 hB3 hB3w hB4 HP2 HX3 HY3
        go_upto_region 9 with fail
        rw [← hw4]
        have z0 : w4.cell? ⟨w3.heap.size, 0, none⟩ = some (.slice A3 (putD l now id prio til).length c3) := by rw [hw4]; exact al_new _ _ _ 0 _ rfl rfl
        have z1 : w4.cell? ⟨w3.heap.size, 1, none⟩ = some (nV now) := by rw [hw4]; exact al_new _ _ _ 1 _ rfl rfl
        clear hw4
        obtain ⟨V2, hV2⟩ : ∃ V2 : Value, V2 = .slice A3 (putD l now id prio til).length c3 := ⟨_, rfl⟩
        have HY3 : Hid (Box3 ((w4.setCell ⟨p, 0, none⟩ V2).setCell ⟨p, 1, none⟩ (.int .i64 now)) q (.slice none 0 0) 0 false) := (HY4.out.far hne).far hne
        have hcp : Chg (fun k => k = p) w4 ((w4.setCell ⟨p, 0, none⟩ V2).setCell ⟨p, 1, none⟩ (.int .i64 now)) := Chg.set (S := fun k => k = p) (a := ⟨p, 1, none⟩) (Chg.set (S := fun k => k = p) (a := ⟨p, 0, none⟩) (Chg.refl w4) rfl _) rfl _
        have HCP := Lib.hid hcp
        have hDq : ∀ x, (Value.slice A3 (putD l now id prio til).length c3).ownBlock = some x → x ≠ p ∧ x ≠ q := fun x hx => by
          have ht := HTT.out w4 (HB1b.out.trans ((HB2.out.trans (HB34.out.mono HB2.out.size)).mono HB1b.out.size))
          exact ⟨fun e => DR.other HD4.out ht.1 (fun c e => by injection e with _ e; cases e) (e ▸ hx), fun e => DR.other HD4.out ht.2 (fun c e => by injection e with _ e; cases e) (e ▸ hx)⟩
        clear hcp
        go_wp2_with fail
        rw [← hV2]
        obtain ⟨W, hW⟩ : ∃ W, W = ((((w4.setCell ⟨p, 0, none⟩ V2).setCell ⟨p, 1, none⟩ (.int .i64 now)).setCell ⟨q, 0, none⟩ V2).setCell ⟨q, 1, none⟩ (.int .i64 now)).setCell ⟨q, 2, none⟩ (.bool false) := ⟨_, rfl⟩
        obtain ⟨t0, t1, t2, hcg⟩ := threeOf HY3.out.c0 HY3.out.c1 HY3.out.c2 hW
        rw [← hW]
        clear hW
        refine bodyPost_ret (by simp [results, Try.results9, go_sem, t0, t1, t2]; try rfl) rfl ?_
        have hcq : Chg (fun k => k = p ∨ k = q) w4 W := (HCP.out.mono fun k hk => .inl hk).trans (hcg.mono fun k hk => .inr hk)
        rw [← HU.out, HR.out.1, HR.out.2]
        refine ⟨V2, by rw [HU.out], ?_, HB4.out.trans (hcq.below (fun k hk => by omega) HB4.out.size), fun x hx => (HS3.out x (by first | exact hx | (rw [← hV2]; exact hx) | (rw [hV2] at hx; exact hx))).imp (fun e => e) fun h => Nat.le_trans (Nat.le_trans HB1.out.size HB2.out.size) h⟩
        rw [hV2]
        refine HD4.out.same fun x hx => hcq.block x (HD4.out.lt hx) fun e => ?_
        have := hDq x hx
        omega
  · obtain ⟨E, hE⟩ : ∃ E, E = putDE l now id prio (-1) := ⟨_, rfl⟩
    have hL : waitDL l now up id prio til = l := by unfold waitDL; rw [if_pos he]
    have hR : waitDE l now up id prio til = (false, E) := by unfold waitDE; rw [if_pos he, hE]
    have HR := Lib.hid (And.intro hL hR)
    rw [← hE] at he ⊢
    clear hL hR hE
    obtain ⟨w2, hw2⟩ : ∃ w2, w2 = w1.alloc (.cells #[.slice A1 (putD l now id prio (-1)).length c1, nV now] 27) := ⟨_, rfl⟩
    have hB2 : Below w1.heap.size w1 w2 := by rw [hw2]; exact (Below.refl _ _).alloc (Nat.le_refl _) _
    have hX2 := hX1.keep hB2
    have hY2 := hY1.keep hB2
    have HX3 := Lib.hid hX2
    have HY3 := Lib.hid hY2
    have HB2 := Lib.hid hB2
    obtain ⟨x0, x1, x2, x3⟩ := hX2
    obtain ⟨y0, y1, y2, y3⟩ := hY2
    clear hB2 hX1 hY1
    go_upto_region 2 with fail
    rw [← hw2]
    clear hw2
    go_wp2_with fail
    obtain ⟨V2, hV2⟩ : ∃ V2 : Value, V2 = .slice A l.length cv := ⟨_, rfl⟩
    rw [← hV2]
    obtain ⟨W, hW⟩ : ∃ W, W = ((w2.setCell ⟨q, 0, none⟩ V2).setCell ⟨q, 1, none⟩ (.int .i64 now)).setCell ⟨q, 2, none⟩ (.bool up) := ⟨_, rfl⟩
    obtain ⟨t0, t1, t2, hcg⟩ := threeOf HY3.out.c0 HY3.out.c1 HY3.out.c2 hW
    rw [← hW]
    clear hW
    refine bodyPost_ret (by simp [results, Try.results9, go_sem, t0, t1, t2]; try rfl) rfl ?_
    rw [HR.out.1, HR.out.2]
    refine ⟨V2, rfl, ?_, ?_, fun x hx => .inl (by first | exact hx | (rw [← hV2]; exact hx) | (rw [hV2] at hx; exact hx))⟩
    · rw [hV2]
      refine (HA1.out.keep HB2.out).same fun x hx => hcg.block x ((HA1.out.keep HB2.out).lt hx) fun e => ?_
      exact HVQ.out (by rw [← e]; exact hx)
    · exact (HB1.out.trans (HB2.out.mono HB1.out.size)).trans (hcg.below (fun k hk => by omega) (Nat.le_trans HB1.out.size HB2.out.size))
/-- Set. -/
def SetD (l : List DW) (now : Int) (w : World) (e : Ending) (w' : World) : Prop := ∃ d, e = .returned (.tuple #[.agg #[.slice none 0 0, nV now, .bool true], d]) ∧ Nums w' d (idsD (ordD l)) ∧ Below w.heap.size w w' ∧ ∀ x, d.ownBlock = some x → w.heap.size ≤ x
set_option maxRecDepth 100000 in
set_option maxHeartbeats 4000000 in
theorem setd_any (v : Value) (now : Int) (up : Bool) (l : List DW) (w : World) (hA : DR 0 w v l) (hn : l.length ≤ 1000) :
    Calls Try.prog 11 #[.agg #[v, nV now, .bool up]] w fun e w' => SetD l now w e w' := by
  obtain ⟨A, cv, rfl, _, _, _⟩ := hA.len
  have HL := Lib.hid (fun W (hB : Below w.heap.size w W) => listd_any (.slice A l.length cv) now l W (hA.keep hB) hn)
  clear hA
  go_enter Try.func11, Try.ntmps11
  go_wp2_with fail
  obtain ⟨p, hp⟩ : ∃ p, p = w.heap.size := ⟨_, rfl⟩
  obtain ⟨q, hq⟩ : ∃ q, q = w.heap.size + 1 := ⟨_, rfl⟩
  obtain ⟨wb, hwb⟩ : ∃ wb, wb = ((w.alloc (.cells #[.slice A l.length cv, nV now, .bool up] 29)).alloc (.cells #[.slice none 0 0, .int .i64 0, .bool false] 29)) := ⟨_, rfl⟩
  have hBb : Below w.heap.size w wb := by rw [hwb]; exact ((Below.refl _ _).alloc (Nat.le_refl _) _).alloc (by simp) _
  have hX : Box3 wb p (.slice A l.length cv) now up := by rw [hwb]; exact (Box3.new w (.slice A l.length cv) now up 29 hp).keep ((Below.refl _ _).alloc (by simp) _)
  have hY : Box3 wb q (.slice none 0 0) 0 false := by rw [hwb]; exact Box3.new _ (.slice none 0 0) 0 false 29 (by rw [hq]; simp)
  have hwp : w.heap.size ≤ p := by omega
  have hpq : p < q := by omega
  rw [← hwb, ← hq, ← hp]
  have hqs : q < wb.heap.size := cell_lt (a := ⟨q, 0, none⟩) hY.c0
  have HL1 := Lib.hid (HL.out wb hBb)
  have HBb := Lib.hid hBb
  clear hwb hp hq hBb HL
  with_reducible refine HL1.out.mono ?_
  rintro e w1 ⟨d, rfl, hN, hB1, hf⟩
  obtain ⟨x0, x1, x2, x3⟩ := hX.keep hB1
  have HY1 := Lib.hid (hY.keep hB1)
  obtain ⟨y0, y1, y2, y3⟩ := hY.keep hB1
  obtain ⟨dA, dc, rfl, _⟩ := hN.len
  have HN := Lib.hid (And.intro hN (And.intro hB1 hf))
  clear hN hB1 hf hX hY HL1
  go_wp2_with fail
  obtain ⟨W, hW⟩ : ∃ W, W = ((w1.setCell ⟨q, 0, none⟩ (.slice none 0 0)).setCell ⟨q, 1, none⟩ (.int .i64 now)).setCell ⟨q, 2, none⟩ (.bool true) := ⟨_, rfl⟩
  obtain ⟨t0, t1, t2, hcg⟩ := threeOf HY1.out.c0 HY1.out.c1 HY1.out.c2 hW
  rw [← hW]
  clear hW
  obtain ⟨hN, hB1, hf⟩ := HN.out
  refine bodyPost_ret (by simp [results, Try.results11, go_sem, t0, t1, t2]; try rfl) rfl ?_
  refine ⟨_, rfl, hN.chg hcg fun x hx e => ?_, ?_, fun x hx => ?_⟩
  · have := hf x hx; omega
  · exact (HBb.out.trans (hB1.mono HBb.out.size)).trans (hcg.below (fun k hk => by omega) (Nat.le_trans HBb.out.size hB1.size))
  · have h1 := hf x hx
    have h2 := HBb.out.size
    omega
end Go.Proofs.Ytndipldcpnglgaa
