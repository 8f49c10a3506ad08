/-
  Drop and Take of the document's.
-/
import Derived.Test.YtndipldcpnglgaaDocP
namespace Go.Proofs.Ytndipldcpnglgaa
open Go.RowKit

/-- Two stores into the result, one into the line that came in. -/
structure TwoS (w2 W : World) (p q : Nat) (V2 : Value) (now : Int) : Prop where
  t0 : W.cell? ⟨q, 0, none⟩ = some V2
  t1 : W.cell? ⟨q, 1, none⟩ = some (.int .i64 now)
  chg : Chg (fun k => k = p ∨ k = q) w2 W
theorem twoOf {w2 : World} {p q : Nat} {V2 x y : Value} {now : Int} (hpq : p ≠ q) (s2 : w2.cell? ⟨q, 0, none⟩ = some x) (s3 : w2.cell? ⟨q, 1, none⟩ = some y) :
    TwoS w2 (((w2.setCell ⟨p, 0, none⟩ V2).setCell ⟨q, 0, none⟩ V2).setCell ⟨q, 1, none⟩ (.int .i64 now)) p q V2 now := by
  have u2 : (w2.setCell ⟨p, 0, none⟩ V2).cell? ⟨q, 0, none⟩ = some x := by rw [World.cell?_setCell_other _ _ _ _ (by intro e; simp only [Addr.mk.injEq] at e; omega)]; exact s2
  have u3 : ((w2.setCell ⟨p, 0, none⟩ V2).setCell ⟨q, 0, none⟩ V2).cell? ⟨q, 1, none⟩ = some y := by rw [World.cell?_setCell_other _ _ _ _ (by intro e; simp only [Addr.mk.injEq] at e; omega), World.cell?_setCell_other _ _ _ _ (by intro e; simp only [Addr.mk.injEq] at e; omega)]; exact s3
  refine ⟨?_, World.cell?_setCell_same _ _ _ u3, (((Chg.refl w2).set (a := ⟨p, 0, none⟩) (.inl rfl) _).set (a := ⟨q, 0, none⟩) (.inr rfl) _).set (a := ⟨q, 1, none⟩) (.inr rfl) _⟩
  rw [World.cell?_setCell_other _ _ _ _ (by intro e; simp only [Addr.mk.injEq] at e; omega)]
  exact World.cell?_setCell_same _ _ _ u2
/-- What is left without one. -/
def DropR (l : List DW) (id : Int) (l' : List DW) (E : Int) : Prop := (E = 142 ∧ l' = l ∧ hasD l id = false) ∨ (E = 0 ∧ hasD l id = true ∧ ∃ i : Nat, i < l.length ∧ (l.getD i d0).1 = id ∧ l' = outD l i)
theorem fnd_del {l : List DW} {id z : Int} (h : FndR l id z) : (hasD l id = true ∧ ∃ i : Nat, z = i ∧ i < l.length ∧ (l.getD i d0).1 = id) ∨ (hasD l id = false ∧ z = -1) := by
  have h0 := fnd_has h
  rcases h with ⟨h1, h2⟩ | ⟨i, h1, h2, h3, _⟩
  · rcases h0 with ⟨_, i, e, _⟩ | h0
    · omega
    · exact .inr h0
  · rcases h0 with ⟨h0, _⟩ | ⟨_, e⟩
    · exact .inl ⟨h0, i, h1, h2, h3⟩
    · omega
/-- Take. -/
def TakeR (l : List DW) (id : Int) (ok : Bool) (l' : List DW) : Prop := (ordD l = [] ∧ l' = l ∧ id = 0 ∧ ok = false) ∨ (∃ i : Nat, i < l.length ∧ (l.getD i d0).1 = id ∧ l' = outD l i ∧ ok = true ∧ ∃ r, idsD (ordD l) = id :: r)
set_option maxRecDepth 100000 in
set_option maxHeartbeats 4000000 in
theorem dropd_any (v : Value) (now id : Int) (l : List DW) (w : World) (hA : DR 0 w v l) (hn : l.length ≤ 1000) :
    Calls Try.prog 15 #[.agg #[v, nV now], nV id] w fun e w' => ∃ l' E, DropR l id l' E ∧ LineD v l' now E w e w' := by
  have hA0 := hA
  obtain ⟨A, c, rfl, hlc, _, _⟩ := hA.len
  have HF := Lib.hid (fun W (hB : Below w.heap.size w W) => find_any A c l id W (hA.at.keep hB) (by omega))
  have HA := Lib.hid (fun W (hB : Below w.heap.size w W) => hA0.keep hB)
  clear hA hA0
  go_enter Try.func15, Try.ntmps15
  go_wp2_with fail
  with_reducible refine (HF.out _ (((Below.refl _ _).alloc (Nat.le_refl _) _).alloc (by simp) _)).mono ?_
  rintro e _ ⟨z, rfl, hz, rfl⟩
  rcases fnd_del hz with ⟨hh, i, rfl, hi, hid⟩ | ⟨hh, rfl⟩
  · have HX := Lib.hid (And.intro hh hid)
    have i0 : (0 : Int) ≤ (i : Int) := Int.natCast_nonneg _
    clear HF hz hh hid
    obtain ⟨wb, hwb⟩ : ∃ wb, wb = ((w.alloc (.cells #[.slice A l.length c, nV now] 27)).alloc (.cells #[.slice none 0 0, .int .i64 0] 27)) := ⟨_, rfl⟩
    rw [← hwb]
    have hbs : wb.heap.size = w.heap.size + 2 := by rw [hwb]; simp
    have q0 : wb.cell? ⟨w.heap.size, 0, none⟩ = some (.slice A l.length c) := by rw [hwb]; exact al_cell (al_new _ _ _ 0 _ rfl rfl)
    have q1 : wb.cell? ⟨w.heap.size, 1, none⟩ = some (nV now) := by rw [hwb]; exact al_cell (al_new _ _ _ 1 _ rfl rfl)
    have r0 : wb.cell? ⟨w.heap.size + 1, 0, none⟩ = some (.slice none 0 0) := by rw [hwb]; exact al_new _ _ _ 0 _ (by simp) rfl
    have r1 : wb.cell? ⟨w.heap.size + 1, 1, none⟩ = some (.int .i64 0) := by rw [hwb]; exact al_new _ _ _ 1 _ (by simp) rfl
    have fq : ∀ j, wb.frozen? ⟨w.heap.size, j, none⟩ = false := fun j => by rw [hwb, frozen_old _ _ _ (by simp)]; exact frozen_new _ _ _ _
    have fr : ∀ j, wb.frozen? ⟨w.heap.size + 1, j, none⟩ = false := fun j => by rw [hwb]; exact frozen_at _ _ _ _ _ (by simp)
    have hBb : Below w.heap.size w wb := by rw [hwb]; exact ((Below.refl _ _).alloc (Nat.le_refl _) _).alloc (by simp) _
    have HBb := Lib.hid hBb
    have HW := Lib.hid (without_any A c l i wb ((HA.out _ hBb).at) hlc hi (by omega))
    have HS := Lib.hid (show ∀ W, Below wb.heap.size wb W → (W.cell? ⟨w.heap.size, 0, none⟩ = some (.slice A l.length c) ∧ W.cell? ⟨w.heap.size, 1, none⟩ = some (nV now)) ∧ (W.cell? ⟨w.heap.size + 1, 0, none⟩ = some (.slice none 0 0) ∧ W.cell? ⟨w.heap.size + 1, 1, none⟩ = some (.int .i64 0)) ∧ (∀ j, W.frozen? ⟨w.heap.size, j, none⟩ = false) ∧ (∀ j, W.frozen? ⟨w.heap.size + 1, j, none⟩ = false) from fun W hB => ⟨⟨kept q0 hB, kept q1 hB⟩, ⟨kept r0 hB, kept r1 hB⟩, fun j => (hB.frozen (p := ⟨w.heap.size, j, none⟩) (by show w.heap.size < _; omega)).trans (fq j), fun j => (hB.frozen (p := ⟨w.heap.size + 1, j, none⟩) (by show w.heap.size + 1 < _; omega)).trans (fr j)⟩)
    have hbs2 : w.heap.size + 1 < wb.heap.size := by omega
    clear hwb hBb HA q1 r0 r1 fq fr hbs
    go_wp2_with fail
    with_reducible refine HW.out.mono ?_
    rintro e w2 ⟨V2, rfl, hD2, hB2⟩
    obtain ⟨A2, c2, rfl, _⟩ := hD2.len
    obtain ⟨⟨s0, s1⟩, ⟨s2, s3⟩, s4, s5⟩ := HS.out w2 hB2
    have HD2 := Lib.hid hD2
    have HB2 := Lib.hid hB2
    have HT := Lib.hid (fun V2 => twoOf (w2 := w2) (p := w.heap.size) (q := w.heap.size + 1) (V2 := V2) (now := now) (by omega) s2 s3)
    clear hD2 hB2 HW HS q0
    go_wp2_with fail
    obtain ⟨V2, hV2⟩ : ∃ V2 : Value, V2 = .slice A2 (outD l i).length c2 := ⟨_, rfl⟩
    rw [← hV2]
    have HD2 : Hid (DR wb.heap.size w2 V2 (outD l i)) := by rw [hV2]; exact HD2
    obtain ⟨W, hW⟩ : ∃ W, W = ((w2.setCell ⟨w.heap.size, 0, none⟩ V2).setCell ⟨w.heap.size + 1, 0, none⟩ V2).setCell ⟨w.heap.size + 1, 1, none⟩ (.int .i64 now) := ⟨_, rfl⟩
    have hT := HT.out V2
    rw [← hW] at hT ⊢
    obtain ⟨t0, t1, hc⟩ := hT
    clear hW s0 s1 s2 s3 HT
    refine bodyPost_ret (by simp [results, Try.results15, go_sem, t0, t1]; try rfl) rfl ?_
    refine ⟨outD l i, 0, .inr ⟨rfl, HX.out.1, i, hi, HX.out.2, rfl⟩, V2, rfl, (HD2.out.same fun x hx => hc.block x (HD2.out.lt hx) (fun h => by have := HD2.out.ge hx; omega)).zero, ?_, fun x hx => .inr (by have := HD2.out.ge hx; have := HBb.out.size; omega)⟩
    exact (HBb.out.trans (HB2.out.mono HBb.out.size)).trans (hc.below (fun k hk => by omega) (Nat.le_trans HBb.out.size HB2.out.size))
  · have HX : Hid (∀ W, Below w.heap.size w W → ∃ l' E, DropR l id l' E ∧ LineD (.slice A l.length c) l' now E w (.returned (.tuple #[.agg #[.slice A l.length c, nV now], .int .i64 142])) W) := fun W hB => ⟨l, 142, .inl ⟨rfl, rfl, hh⟩, _, rfl, HA.out W hB, hB, fun x hx => .inl hx⟩
    clear HF HA hz hh
    go_wp2_with fail
    go_returns
    exact HX.out _ (((Below.refl _ _).alloc (Nat.le_refl _) _).alloc (by simp) _)
end Go.Proofs.Ytndipldcpnglgaa
