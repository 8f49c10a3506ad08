/-
  The document's semaphore: New, Wait, Signal.
-/
import Derived.Test.YtfinleobgmdebaaDocE
namespace Go.Proofs.Ytfinleobgmdebaa
open Go.RowKit

theorem dnew_bad (init most : Int) (w : World) (h : most < 1 ∨ 255 < most ∨ init < 0 ∨ most < init) : Calls Try.prog 8 #[nV init, nV most] w fun e w' => e = .returned (.tuple #[.agg #[.slice none 0 0, nV 0, nV 0, nV 0], .int .i64 150]) ∧ Below w.heap.size w w' := by
  have hB : Below w.heap.size w (w.alloc (.cells #[.slice none 0 0, .int .i64 0, .int .i64 0, .int .i64 0] 31)) := (Below.refl _ _).alloc (Nat.le_refl _) _
  go_enter Try.func8, Try.ntmps8
  by_cases h1 : most < 1
  · go_wp2_with fail
    go_returns
    exact ⟨rfl, hB⟩
  · by_cases h2 : 255 < most
    · go_wp2_with fail
      go_returns
      exact ⟨rfl, hB⟩
    · by_cases h3 : init < 0
      · go_wp2_with fail
        go_returns
        exact ⟨rfl, hB⟩
      · have h4 : most < init := by omega
        go_wp2_with fail
        go_returns
        exact ⟨rfl, hB⟩
theorem dnew_ok (init most : Nat) (w : World) (h1 : 1 ≤ most) (h2 : most ≤ 255) (h3 : init ≤ most) : Calls Try.prog 8 #[nV init, nV most] w fun e w' => e = .returned (.tuple #[.agg #[.slice none 0 0, nV 0, nV init, nV most], .int .i64 0]) ∧ Below w.heap.size w w' := by
  have i1 : ¬ ((most : Int) < 1) := by omega
  have i2 : ¬ ((255 : Int) < (most : Int)) := by omega
  have i3 : ¬ ((init : Int) < 0) := by omega
  have i4 : ¬ ((most : Int) < (init : Int)) := by omega
  have hB : Below w.heap.size w (w.alloc (.cells #[.slice none 0 0, .int .i64 0, .int .i64 init, .int .i64 most] 31)) := (Below.refl _ _).alloc (Nat.le_refl _) _
  go_enter Try.func8, Try.ntmps8
  go_wp2_with fail
  go_returns
  exact ⟨rfl, hB⟩
/-- Four cells stored. -/
theorem fourOf {w : World} {q : Nat} {a b c d x0 x1 x2 x3 : Value} (s0 : w.cell? ⟨q, 0, none⟩ = some x0) (s1 : w.cell? ⟨q, 1, none⟩ = some x1) (s2 : w.cell? ⟨q, 2, none⟩ = some x2) (s3 : w.cell? ⟨q, 3, none⟩ = some x3) {W : World} (hW : W = (((w.setCell ⟨q, 0, none⟩ a).setCell ⟨q, 1, none⟩ b).setCell ⟨q, 2, none⟩ c).setCell ⟨q, 3, none⟩ d) :
    W.cell? ⟨q, 0, none⟩ = some a ∧ W.cell? ⟨q, 1, none⟩ = some b ∧ W.cell? ⟨q, 2, none⟩ = some c ∧ W.cell? ⟨q, 3, none⟩ = some d ∧ Chg (fun k => k = q) w W := by
  have ne : ∀ (i j : Nat), i ≠ j → (⟨q, i, none⟩ : Addr) ≠ ⟨q, j, none⟩ := fun i j h e => by simp only [Addr.mk.injEq] at e; omega
  have u1 : (w.setCell ⟨q, 0, none⟩ a).cell? ⟨q, 1, none⟩ = some x1 := by rw [World.cell?_setCell_other _ _ _ _ (ne 0 1 (by decide))]; exact s1
  have u2 : ((w.setCell ⟨q, 0, none⟩ a).setCell ⟨q, 1, none⟩ b).cell? ⟨q, 2, none⟩ = some x2 := by rw [World.cell?_setCell_other _ _ _ _ (ne 1 2 (by decide)), World.cell?_setCell_other _ _ _ _ (ne 0 2 (by decide))]; exact s2
  have u3 : (((w.setCell ⟨q, 0, none⟩ a).setCell ⟨q, 1, none⟩ b).setCell ⟨q, 2, none⟩ c).cell? ⟨q, 3, none⟩ = some x3 := by rw [World.cell?_setCell_other _ _ _ _ (ne 2 3 (by decide)), World.cell?_setCell_other _ _ _ _ (ne 1 3 (by decide)), World.cell?_setCell_other _ _ _ _ (ne 0 3 (by decide))]; exact s3
  subst hW
  refine ⟨?_, ?_, ?_, World.cell?_setCell_same _ _ _ u3, ?_⟩
  · rw [World.cell?_setCell_other _ _ _ _ (ne 3 0 (by decide)), World.cell?_setCell_other _ _ _ _ (ne 2 0 (by decide)), World.cell?_setCell_other _ _ _ _ (ne 1 0 (by decide))]; exact World.cell?_setCell_same _ _ _ s0
  · rw [World.cell?_setCell_other _ _ _ _ (ne 3 1 (by decide)), World.cell?_setCell_other _ _ _ _ (ne 2 1 (by decide))]; exact World.cell?_setCell_same _ _ _ u1
  · rw [World.cell?_setCell_other _ _ _ _ (ne 3 2 (by decide))]; exact World.cell?_setCell_same _ _ _ u2
  · exact Chg.set (S := fun k => k = q) (a := ⟨q, 3, none⟩) (Chg.set (S := fun k => k = q) (a := ⟨q, 2, none⟩) (Chg.set (S := fun k => k = q) (a := ⟨q, 1, none⟩) (Chg.set (S := fun k => k = q) (a := ⟨q, 0, none⟩) (Chg.refl w) rfl _) rfl _) rfl _) rfl _
/-- A semaphore of the document's behind a call. -/
def SemD (v : Value) (l : List DW) (now : Int) (c m : Nat) (b : Bool) (E : Int) (w : World) (e : Ending) (w' : World) : Prop := ∃ v', e = .returned (.tuple #[.agg #[v', nV now, nV c, nV m], .bool b, .int .i64 E]) ∧ DR 0 w' v' l ∧ Below w.heap.size w w' ∧ Src v v' w.heap.size
def waitDE (l : List DW) (now : Int) (c : Nat) (id prio til : Int) : Bool × Int :=
  if putDE l now id prio (-1) ≠ 0 then (false, putDE l now id prio (-1)) else if 0 < c then (true, 0) else if til = 0 then (false, 0) else (false, putDE l now id prio til)
def waitDL (l : List DW) (now : Int) (c : Nat) (id prio til : Int) : List DW :=
  if putDE l now id prio (-1) ≠ 0 then l else if 0 < c then l else if til = 0 then l else putD l now id prio til
def waitDC (l : List DW) (now : Int) (c : Nat) (id prio : Int) : Nat := if putDE l now id prio (-1) ≠ 0 then c else c - 1
/-- A box of a semaphore. -/
structure Box4 (w : World) (p : Nat) (v : Value) (now c m : Int) : Prop where
  c0 : w.cell? ⟨p, 0, none⟩ = some v
  c1 : w.cell? ⟨p, 1, none⟩ = some (nV now)
  c2 : w.cell? ⟨p, 2, none⟩ = some (nV c)
  c3 : w.cell? ⟨p, 3, none⟩ = some (nV m)
  fz : ∀ j, w.frozen? ⟨p, j, none⟩ = false
theorem Box4.keep {w w' : World} {p : Nat} {v : Value} {now c m : Int} (h : Box4 w p v now c m) (hB : Below w.heap.size w w') : Box4 w' p v now c m :=
  ⟨kept h.c0 hB, kept h.c1 hB, kept h.c2 hB, kept h.c3 hB, fun j => (hB.frozen (p := ⟨p, j, none⟩) (show p < _ from cell_lt h.c0)).trans (h.fz j)⟩
theorem Box4.new (w : World) (v : Value) (now c m : Int) (ty : TypeId) {p : Nat} (hp : p = w.heap.size) : Box4 (w.alloc (.cells #[v, nV now, nV c, nV m] ty)) p v now c m :=
  ⟨al_new _ _ _ 0 _ hp rfl, al_new _ _ _ 1 _ hp rfl, al_new _ _ _ 2 _ hp rfl, al_new _ _ _ 3 _ hp rfl, fun _ => frozen_at _ _ _ _ _ hp⟩
theorem Box4.set2 {w : World} {p : Nat} {v : Value} {now c m : Int} (h : Box4 w p v now c m) (z : Int) : Box4 (w.setCell ⟨p, 2, none⟩ (nV z)) p v now z m := by
  have ne : ∀ (i j : Nat), i ≠ j → (⟨p, i, none⟩ : Addr) ≠ ⟨p, j, none⟩ := fun i j h e => by simp only [Addr.mk.injEq] at e; omega
  exact ⟨by rw [World.cell?_setCell_other _ _ _ _ (ne 2 0 (by decide))]; exact h.c0, by rw [World.cell?_setCell_other _ _ _ _ (ne 2 1 (by decide))]; exact h.c1, World.cell?_setCell_same _ _ _ h.c2, by rw [World.cell?_setCell_other _ _ _ _ (ne 2 3 (by decide))]; exact h.c3, fun j => by rw [World.frozen?_setCell]; exact h.fz j⟩
theorem Box4.far {w : World} {p q i : Nat} {v x : Value} {now c m : Int} (h : Box4 w p v now c m) (hq : q ≠ p) : Box4 (w.setCell ⟨q, i, none⟩ x) p v now c m := by
  have ne : ∀ (j : Nat), (⟨q, i, none⟩ : Addr) ≠ ⟨p, j, none⟩ := fun j e => by simp only [Addr.mk.injEq] at e; omega
  exact ⟨by rw [World.cell?_setCell_other _ _ _ _ (ne 0)]; exact h.c0, by rw [World.cell?_setCell_other _ _ _ _ (ne 1)]; exact h.c1, by rw [World.cell?_setCell_other _ _ _ _ (ne 2)]; exact h.c2, by rw [World.cell?_setCell_other _ _ _ _ (ne 3)]; exact h.c3, fun j => by rw [World.frozen?_setCell]; exact h.fz j⟩
theorem Box4.set01 {w : World} {p : Nat} {v v' : Value} {now now' c m : Int} (h : Box4 w p v now c m) : Box4 ((w.setCell ⟨p, 0, none⟩ v').setCell ⟨p, 1, none⟩ (nV now')) p v' now' c m := by
  have ne : ∀ (i j : Nat), i ≠ j → (⟨p, i, none⟩ : Addr) ≠ ⟨p, j, none⟩ := fun i j h e => by simp only [Addr.mk.injEq] at e; omega
  have u1 : (w.setCell ⟨p, 0, none⟩ v').cell? ⟨p, 1, none⟩ = some (nV now) := by rw [World.cell?_setCell_other _ _ _ _ (ne 0 1 (by decide))]; exact h.c1
  refine ⟨?_, World.cell?_setCell_same _ _ _ u1, ?_, ?_, fun j => by rw [World.frozen?_setCell, World.frozen?_setCell]; exact h.fz j⟩
  · rw [World.cell?_setCell_other _ _ _ _ (ne 1 0 (by decide))]; exact World.cell?_setCell_same _ _ _ h.c0
  · rw [World.cell?_setCell_other _ _ _ _ (ne 1 2 (by decide)), World.cell?_setCell_other _ _ _ _ (ne 0 2 (by decide))]; exact h.c2
  · rw [World.cell?_setCell_other _ _ _ _ (ne 1 3 (by decide)), World.cell?_setCell_other _ _ _ _ (ne 0 3 (by decide))]; exact h.c3
theorem DR.other {H x : Nat} {w : World} {v : Value} {l : List DW} {o : Obj} (h : DR H w v l) (hb : w.heap[x]? = some o) (ho : ∀ c, o ≠ .cells c 79) (e : v.ownBlock = some x) : False := by
  rcases h.shape with ⟨h1, _⟩ | ⟨g, cap, cur, hv, hg, _⟩
  · rw [h1] at e; cases e
  · rw [hv] at e
    have e : some g = some x := e
    injection e with e
    rw [e, hb] at hg
    injection hg with hg
    exact ho _ hg
set_option maxRecDepth 100000 in
set_option maxHeartbeats 8000000 in
theorem waitd_any (v : Value) (now : Int) (c m : Nat) (id prio til : Int) (l : List DW) (w : World) (hA : DR 0 w v l) (hn : l.length ≤ 900) (hc : c ≤ 255) :
    Calls Try.prog 10 #[.agg #[v, nV now, nV c, nV m], nV id, nV prio, nV til] w fun e w' => SemD v (waitDL l now c id prio til) now (waitDC l now c id prio) m (waitDE l now c id prio til).1 (waitDE l now c id prio til).2 w e w' := by
  obtain ⟨A, cv, rfl, _, _, _⟩ := hA.len
  have HP := Lib.hid (fun til W (hB : Below w.heap.size w W) => putd_any (.slice A l.length cv) now id prio til l W (hA.keep hB) (by omega))
  have HA := Lib.hid (fun W (hB : Below w.heap.size w W) => hA.keep hB)
  have hvq : ¬ (Value.slice A l.length cv).ownBlock = some (w.heap.size + 1) := fun e => by have := hA.lt e; omega
  have HVQ0 := Lib.hid hvq
  have HVP0 := Lib.hid (show ¬ (Value.slice A l.length cv).ownBlock = some w.heap.size from fun e => by have := hA.lt e; omega)
  clear hA hvq
  go_enter Try.func10, Try.ntmps10
  go_wp2_with fail
  obtain ⟨p, hp⟩ : ∃ p, p = w.heap.size := ⟨_, rfl⟩
  obtain ⟨q, hq⟩ : ∃ q, q = w.heap.size + 1 := ⟨_, rfl⟩
  obtain ⟨wb, hwb⟩ : ∃ wb, wb = ((w.alloc (.cells #[.slice A l.length cv, nV now, nV c, nV m] 31)).alloc (.cells #[.slice none 0 0, .int .i64 0, .int .i64 0, .int .i64 0] 31)) := ⟨_, rfl⟩
  have hBb : Below w.heap.size w wb := by rw [hwb]; exact ((Below.refl _ _).alloc (Nat.le_refl _) _).alloc (by simp) _
  have hX : Box4 wb p (.slice A l.length cv) now c m := by rw [hwb]; exact (Box4.new w (.slice A l.length cv) now c m 31 hp).keep ((Below.refl _ _).alloc (by simp) _)
  have hY : Box4 wb q (.slice none 0 0) 0 0 0 := by rw [hwb]; exact Box4.new _ (.slice none 0 0) 0 0 0 31 (by rw [hq]; simp)
  have HVQ : Hid (¬ (Value.slice A l.length cv).ownBlock = some q) := by rw [hq]; exact HVQ0
  have HVP : Hid (¬ (Value.slice A l.length cv).ownBlock = some p) := by rw [hp]; exact HVP0
  have hTP : wb.heap[p]? = some (.cells #[.slice A l.length cv, nV now, nV c, nV m] 31) := by rw [hwb, hp, Below.heap_alloc _ _ _ (by simp)]; exact heap_alloc_new _ _
  have hTQ : wb.heap[q]? = some (.cells #[.slice none 0 0, .int .i64 0, .int .i64 0, .int .i64 0] 31) := by
    have : q = (w.alloc (.cells #[.slice A l.length cv, nV now, nV c, nV m] 31)).heap.size := by rw [hq]; simp
    rw [hwb, this]; exact heap_alloc_new _ _
  have HTT := Lib.hid (fun W (hB : Below wb.heap.size wb W) => And.intro ((hB.block p (Array.getElem?_eq_some_iff.1 hTP).1).trans hTP) ((hB.block q (Array.getElem?_eq_some_iff.1 hTQ).1).trans hTQ))
  clear hTP hTQ
  have hpq : p < q := by omega
  have hwp : w.heap.size ≤ p := by omega
  rw [← hwb, ← hq, ← hp]
  have HBb := Lib.hid hBb
  have HX := Lib.hid hX
  have HY := Lib.hid hY
  have HP1 := Lib.hid (HP.out (-1) wb hBb)
  clear hwb hBb hX hY hp hq
  with_reducible refine HP1.out.mono ?_
  rintro e w1 ⟨v1, rfl, hD1, hB1, _⟩
  have HB1b := Lib.hid hB1
  have hB1w : Below w.heap.size w w1 := HBb.out.trans (hB1.mono HBb.out.size)
  have hX1 := HX.out.keep hB1
  have hY1 := HY.out.keep hB1
  have HB1 := Lib.hid hB1w
  obtain ⟨A1, c1, rfl, _⟩ := hD1.len
  clear HP1 hB1 hD1 HX HY HBb hB1w
  have hA1 := HA.out w1 HB1.out
  have HA1 := Lib.hid hA1
  clear hA1
  by_cases he : putDE l now id prio (-1) = 0
  · rw [he]
    have HE := Lib.hid he
    by_cases hc0 : 0 < c
    · have hL : waitDL l now c id prio til = l := by unfold waitDL; rw [if_neg (by simp [he]), if_pos hc0]
      have hC : waitDC l now c id prio = c - 1 := by unfold waitDC; rw [if_neg (by simp [he])]
      have hR : waitDE l now c id prio til = (true, 0) := by unfold waitDE; rw [if_neg (by simp [he]), if_pos hc0]
      have hcc : (c : Int) - 1 = ((c - 1 : Nat) : Int) := by omega
      have HR := Lib.hid (And.intro hL (And.intro hC hR))
      have HCC := Lib.hid hcc
      have i0 : (0 : Int) < (c : Int) := by omega
      have i1 : IntKind.i64.wrap ((c : Int) - 1) = (c : Int) - 1 := by rw [IntKind.wrap_i64]; omega
      clear hL hC hR he hcc
      obtain ⟨w2, hw2⟩ : ∃ w2, w2 = w1.alloc (.cells #[.slice A1 (putD l now id prio (-1)).length c1, nV now] 29) := ⟨_, rfl⟩
      have hB2 : Below w1.heap.size w1 w2 := by rw [hw2]; exact (Below.refl _ _).alloc (Nat.le_refl _) _
      have hX2 := hX1.keep hB2
      have hY2 := hY1.keep hB2
      have HX3 := Lib.hid hX2
      have HY3 := Lib.hid hY2
      have HB2 := Lib.hid hB2
      have hne : ¬ p = q := by omega
      have hne' : ¬ q = p := by omega
      obtain ⟨x0, x1, x2, x3, x4⟩ := hX2
      obtain ⟨y0, y1, y2, y3, y4⟩ := hY2
      clear hB2 hX1 hY1
      go_upto_region 2 with fail
      rw [← hw2]
      clear hw2
      have HY3 : Hid (Box4 (w2.setCell ⟨p, 2, none⟩ (nV ((c : Int) - 1))) q (.slice none 0 0) 0 0 0) := HY3.out.far hne
      have hc3 : Chg (fun k => k = p) w2 (w2.setCell ⟨p, 2, none⟩ (nV ((c : Int) - 1))) := Chg.set (S := fun k => k = p) (a := ⟨p, 2, none⟩) (Chg.refl w2) rfl _
      have HC3 := Lib.hid hc3
      clear hc3
      go_wp2_with fail
      obtain ⟨V2, hV2⟩ : ∃ V2 : Value, V2 = .slice A l.length cv := ⟨_, rfl⟩
      rw [← hV2]
      obtain ⟨W, hW⟩ : ∃ W, W = ((((w2.setCell ⟨p, 2, none⟩ (nV ((c : Int) - 1))).setCell ⟨q, 0, none⟩ V2).setCell ⟨q, 1, none⟩ (.int .i64 now)).setCell ⟨q, 2, none⟩ (.int .i64 ((c : Int) - 1))).setCell ⟨q, 3, none⟩ (.int .i64 (m : Int)) := ⟨_, rfl⟩
      obtain ⟨t0, t1, t2, t3, hcg⟩ := fourOf HY3.out.c0 HY3.out.c1 HY3.out.c2 HY3.out.c3 hW
      rw [← hW]
      clear hW
      refine bodyPost_ret (by simp [results, Try.results10, go_sem, t0, t1, t2, t3]; try rfl) rfl ?_
      have hcq : Chg (fun k => k = p ∨ k = q) w2 W := (HC3.out.mono fun k hk => .inl hk).trans (hcg.mono fun k hk => .inr hk)
      refine ⟨V2, by rw [HR.out.2.1, HR.out.2.2, HCC.out], ?_, ?_, fun x hx => .inl (by first | exact hx | (rw [← hV2]; exact hx) | (rw [hV2] at hx; exact hx))⟩
      · rw [HR.out.1, hV2]
        refine (HA1.out.keep HB2.out).same fun x hx => hcq.block x ((HA1.out.keep HB2.out).lt hx) fun e => ?_
        rcases e with e | e
        · exact HVP.out (by rw [← e]; exact hx)
        · exact HVQ.out (by rw [← e]; exact hx)
      · exact (HB1.out.trans (HB2.out.mono HB1.out.size)).trans (hcq.below (fun k hk => by omega) (Nat.le_trans HB1.out.size HB2.out.size))
    · by_cases ht : til = 0
      · have hL : waitDL l now c id prio til = l := by unfold waitDL; rw [if_neg (by simp [he]), if_neg hc0, if_pos ht]
        have hC : waitDC l now c id prio = c := by unfold waitDC; rw [if_neg (by simp [he])]; omega
        have hR : waitDE l now c id prio til = (false, 0) := by unfold waitDE; rw [if_neg (by simp [he]), if_neg hc0, if_pos ht]
        have HR := Lib.hid (And.intro hL (And.intro hC hR))
        have hc00 : c = 0 := by omega
        subst hc00
        clear hL hC hR he
        obtain ⟨w2, hw2⟩ : ∃ w2, w2 = w1.alloc (.cells #[.slice A1 (putD l now id prio (-1)).length c1, nV now] 29) := ⟨_, rfl⟩
        have hB2 : Below w1.heap.size w1 w2 := by rw [hw2]; exact (Below.refl _ _).alloc (Nat.le_refl _) _
        have hX2 := hX1.keep hB2
        have hY2 := hY1.keep hB2
        have HX3 := Lib.hid hX2
        have HY3 := Lib.hid hY2
        have HB2 := Lib.hid hB2
        have hne : ¬ p = q := by omega
        have hne' : ¬ q = p := by omega
        obtain ⟨x0, x1, x2, x3, x4⟩ := hX2
        obtain ⟨y0, y1, y2, y3, y4⟩ := hY2
        clear hB2 hX1 hY1
        go_upto_region 2 with fail
        rw [← hw2]
        clear hw2
        go_wp2_with fail
        obtain ⟨V2, hV2⟩ : ∃ V2 : Value, V2 = .slice A l.length cv := ⟨_, rfl⟩
        rw [← hV2]
        obtain ⟨W, hW⟩ : ∃ W, W = ((((w2).setCell ⟨q, 0, none⟩ V2).setCell ⟨q, 1, none⟩ (.int .i64 now)).setCell ⟨q, 2, none⟩ (.int .i64 0)).setCell ⟨q, 3, none⟩ (.int .i64 (m : Int)) := ⟨_, rfl⟩
        obtain ⟨t0, t1, t2, t3, hcg⟩ := fourOf HY3.out.c0 HY3.out.c1 HY3.out.c2 HY3.out.c3 hW
        rw [← hW]
        clear hW
        refine bodyPost_ret (by simp [results, Try.results10, go_sem, t0, t1, t2, t3]; try rfl) rfl ?_
        refine ⟨V2, by rw [HR.out.2.1, HR.out.2.2]; rfl, ?_, ?_, fun x hx => .inl (by first | exact hx | (rw [← hV2]; exact hx) | (rw [hV2] at hx; exact hx))⟩
        · rw [HR.out.1, hV2]
          refine (HA1.out.keep HB2.out).same fun x hx => hcg.block x ((HA1.out.keep HB2.out).lt hx) fun e => ?_
          exact HVQ.out (by rw [← e]; exact hx)
        · exact (HB1.out.trans (HB2.out.mono HB1.out.size)).trans (hcg.below (fun k hk => by omega) (Nat.le_trans HB1.out.size HB2.out.size))
      · have hL : waitDL l now c id prio til = putD l now id prio til := by unfold waitDL; rw [if_neg (by simp [he]), if_neg hc0, if_neg ht]
        have hC : waitDC l now c id prio = c := by unfold waitDC; rw [if_neg (by simp [he])]; omega
        have hR : waitDE l now c id prio til = (false, putDE l now id prio til) := by unfold waitDE; rw [if_neg (by simp [he]), if_neg hc0, if_neg ht]
        have HR := Lib.hid (And.intro hL (And.intro hC hR))
        have hc00 : c = 0 := by omega
        subst hc00
        clear hL hC hR he
        obtain ⟨w2, hw2⟩ : ∃ w2, w2 = w1.alloc (.cells #[.slice A1 (putD l now id prio (-1)).length c1, nV now] 29) := ⟨_, rfl⟩
        have hB2 : Below w1.heap.size w1 w2 := by rw [hw2]; exact (Below.refl _ _).alloc (Nat.le_refl _) _
        have hX2 := hX1.keep hB2
        have hY2 := hY1.keep hB2
        have HX3 := Lib.hid hX2
        have HY3 := Lib.hid hY2
        have HB2 := Lib.hid hB2
        have hne : ¬ p = q := by omega
        have hne' : ¬ q = p := by omega
        obtain ⟨x0, x1, x2, x3, x4⟩ := hX2
        obtain ⟨y0, y1, y2, y3, y4⟩ := hY2
        clear hB2 hX1 hY1
        go_upto_region 2 with fail
        rw [← hw2]
        clear hw2
        have HP2 := Lib.hid (HP.out til w2 (HB1.out.trans (HB2.out.mono HB1.out.size)))
        go_wp2_with fail
        with_reducible refine HP2.out.mono ?_
        rintro e w3 ⟨v3, rfl, hD3, hB3, hS3⟩
        obtain ⟨A3, c3, rfl, _⟩ := hD3.len
        have HD3 := Lib.hid hD3
        have HS3 := Lib.hid hS3
        clear hS3
        have hB3w : Below w.heap.size w w3 := (HB1.out.trans (HB2.out.mono HB1.out.size)).trans (hB3.mono (Nat.le_trans HB1.out.size HB2.out.size))
        obtain ⟨w4, hw4⟩ : ∃ w4, w4 = w3.alloc (.cells #[.slice A3 (putD l now id prio til).length c3, nV now] 29) := ⟨_, rfl⟩
        have hB4 : Below w3.heap.size w3 w4 := by rw [hw4]; exact (Below.refl _ _).alloc (Nat.le_refl _) _
        have hX4 := (HX3.out.keep hB3).keep hB4
        have hY4 := (HY3.out.keep hB3).keep hB4
        have HX4 := Lib.hid hX4
        have HY4 := Lib.hid hY4
        have HB4 := Lib.hid (hB3w.trans (hB4.mono hB3w.size))
        have HD4 := Lib.hid (hD3.keep hB4)
        have HB34 := Lib.hid (hB3.trans (hB4.mono hB3.size))
        have hq3 : q < w2.heap.size := cell_lt (a := ⟨q, 0, none⟩) y0
        have hq4 : q < w4.heap.size := Nat.lt_of_lt_of_le hq3 (Nat.le_trans hB3.size hB4.size)
        obtain ⟨x0, x1, x2, x3, x4⟩ := hX4
        obtain ⟨y0, y1, y2, y3, y4⟩ := hY4
        clear hD3 hB3 hB3w hB4 HP2 HX3 HY3
        go_upto_region 10 with fail
        rw [← hw4]
        have z0 : w4.cell? ⟨w3.heap.size, 0, none⟩ = some (.slice A3 (putD l now id prio til).length c3) := by rw [hw4]; exact al_new _ _ _ 0 _ rfl rfl
        have z1 : w4.cell? ⟨w3.heap.size, 1, none⟩ = some (nV now) := by rw [hw4]; exact al_new _ _ _ 1 _ rfl rfl
        clear hw4
        obtain ⟨V2, hV2⟩ : ∃ V2 : Value, V2 = .slice A3 (putD l now id prio til).length c3 := ⟨_, rfl⟩
        have HY3 : Hid (Box4 ((w4.setCell ⟨p, 0, none⟩ V2).setCell ⟨p, 1, none⟩ (.int .i64 now)) q (.slice none 0 0) 0 0 0) := (HY4.out.far hne).far hne
        have hcp : Chg (fun k => k = p) w4 ((w4.setCell ⟨p, 0, none⟩ V2).setCell ⟨p, 1, none⟩ (.int .i64 now)) := Chg.set (S := fun k => k = p) (a := ⟨p, 1, none⟩) (Chg.set (S := fun k => k = p) (a := ⟨p, 0, none⟩) (Chg.refl w4) rfl _) rfl _
        have HCP := Lib.hid hcp
        have hDq : ∀ x, (Value.slice A3 (putD l now id prio til).length c3).ownBlock = some x → x ≠ p ∧ x ≠ q := fun x hx => by
          have ht := HTT.out w4 (HB1b.out.trans ((HB2.out.trans (HB34.out.mono HB2.out.size)).mono HB1b.out.size))
          exact ⟨fun e => DR.other HD4.out ht.1 (fun c e => by injection e with _ e; cases e) (e ▸ hx), fun e => DR.other HD4.out ht.2 (fun c e => by injection e with _ e; cases e) (e ▸ hx)⟩
        clear hcp
        go_wp2_with fail
        rw [← hV2]
        obtain ⟨W, hW⟩ : ∃ W, W = (((((w4.setCell ⟨p, 0, none⟩ V2).setCell ⟨p, 1, none⟩ (.int .i64 now)).setCell ⟨q, 0, none⟩ V2).setCell ⟨q, 1, none⟩ (.int .i64 now)).setCell ⟨q, 2, none⟩ (.int .i64 0)).setCell ⟨q, 3, none⟩ (.int .i64 (m : Int)) := ⟨_, rfl⟩
        obtain ⟨t0, t1, t2, t3, hcg⟩ := fourOf HY3.out.c0 HY3.out.c1 HY3.out.c2 HY3.out.c3 hW
        rw [← hW]
        clear hW
        refine bodyPost_ret (by simp [results, Try.results10, go_sem, t0, t1, t2, t3]; try rfl) rfl ?_
        have hcq : Chg (fun k => k = p ∨ k = q) w4 W := (HCP.out.mono fun k hk => .inl hk).trans (hcg.mono fun k hk => .inr hk)
        refine ⟨V2, by rw [HR.out.2.1, HR.out.2.2]; rfl, ?_, HB4.out.trans (hcq.below (fun k hk => by omega) HB4.out.size), fun x hx => (HS3.out x (by first | exact hx | (rw [← hV2]; exact hx) | (rw [hV2] at hx; exact hx))).imp (fun e => e) fun h => Nat.le_trans (Nat.le_trans HB1.out.size HB2.out.size) h⟩
        rw [HR.out.1, hV2]
        refine HD4.out.same fun x hx => hcq.block x (HD4.out.lt hx) fun e => ?_
        have := hDq x hx
        omega
  · obtain ⟨E, hE⟩ : ∃ E, E = putDE l now id prio (-1) := ⟨_, rfl⟩
    have hL : waitDL l now c id prio til = l := by unfold waitDL; rw [if_pos he]
    have hC : waitDC l now c id prio = c := by unfold waitDC; rw [if_pos he]
    have hR : waitDE l now c id prio til = (false, E) := by unfold waitDE; rw [if_pos he, hE]
    have HR := Lib.hid (And.intro hL (And.intro hC hR))
    rw [← hE] at he ⊢
    obtain ⟨w2, hw2⟩ : ∃ w2, w2 = w1.alloc (.cells #[.slice A1 (putD l now id prio (-1)).length c1, nV now] 29) := ⟨_, rfl⟩
    have hB2 : Below w1.heap.size w1 w2 := by rw [hw2]; exact (Below.refl _ _).alloc (Nat.le_refl _) _
    have hX2 := hX1.keep hB2
    have hY2 := hY1.keep hB2
    have HX3 := Lib.hid hX2
    have HY3 := Lib.hid hY2
    have HB2 := Lib.hid hB2
    obtain ⟨x0, x1, x2, x3, x4⟩ := hX2
    obtain ⟨y0, y1, y2, y3, y4⟩ := hY2
    clear hL hC hR hE hB2 hX1 hY1
    go_upto_region 2 with fail
    rw [← hw2]
    clear hw2
    go_wp2_with fail
    obtain ⟨V2, hV2⟩ : ∃ V2 : Value, V2 = .slice A l.length cv := ⟨_, rfl⟩
    rw [← hV2]
    obtain ⟨W, hW⟩ : ∃ W, W = ((((w2).setCell ⟨q, 0, none⟩ V2).setCell ⟨q, 1, none⟩ (.int .i64 now)).setCell ⟨q, 2, none⟩ (.int .i64 ((c : Int)))).setCell ⟨q, 3, none⟩ (.int .i64 (m : Int)) := ⟨_, rfl⟩
    obtain ⟨t0, t1, t2, t3, hcg⟩ := fourOf HY3.out.c0 HY3.out.c1 HY3.out.c2 HY3.out.c3 hW
    rw [← hW]
    clear hW
    refine bodyPost_ret (by simp [results, Try.results10, go_sem, t0, t1, t2, t3]; try rfl) rfl ?_
    refine ⟨V2, by rw [HR.out.2.1, HR.out.2.2], ?_, ?_, fun x hx => .inl (by first | exact hx | (rw [← hV2]; exact hx) | (rw [hV2] at hx; exact hx))⟩
    · rw [HR.out.1, hV2]
      refine (HA1.out.keep HB2.out).same fun x hx => hcg.block x ((HA1.out.keep HB2.out).lt hx) fun e => ?_
      exact HVQ.out (by rw [← e]; exact hx)
    · exact (HB1.out.trans (HB2.out.mono HB1.out.size)).trans (hcg.below (fun k hk => by omega) (Nat.le_trans HB1.out.size HB2.out.size))
end Go.Proofs.Ytfinleobgmdebaa
