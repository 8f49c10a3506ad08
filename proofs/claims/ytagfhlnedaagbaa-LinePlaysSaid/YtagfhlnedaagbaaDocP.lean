/-
  Put of the document's.
-/
import Derived.Test.YtagfhlnedaagbaaDocO
import Derived.Handy
namespace Go.Proofs.Ytagfhlnedaagbaa
open Go.RowKit

def hasD (l : List DW) (id : Int) : Bool := l.any fun y => decide (y.1 = id)
def putDE (l : List DW) (now id prio til : Int) : Int :=
  if id < 0 ∨ 65535 < id then 140 else if prio < 0 ∨ 63 < prio then 143 else if til ≠ -1 ∧ (til ≤ now ∨ 1099511627776 < til) then 144 else if hasD l id = true then 141 else 0
def putD (l : List DW) (now id prio til : Int) : List DW := if putDE l now id prio til = 0 then l ++ [(id, prio, til)] else l
/-- Where a list lies: where it lay, or in a new block. -/
def Src (v v' : Value) (H : Nat) : Prop := ∀ x, v'.ownBlock = some x → v.ownBlock = some x ∨ H ≤ x
/-- A line of the document's behind a call. -/
def LineD (v : Value) (l : List DW) (now E : Int) (w : World) (e : Ending) (w' : World) : Prop := ∃ v', e = .returned (.tuple #[.agg #[v', nV now], .int .i64 E]) ∧ DR 0 w' v' l ∧ Below w.heap.size w w' ∧ Src v v' w.heap.size
theorem fnd_has {l : List DW} {id z : Int} (h : FndR l id z) : (hasD l id = true ∧ ∃ i : Nat, z = i ∧ i < l.length) ∨ (hasD l id = false ∧ z = -1) := by
  rcases h with ⟨h1, h2⟩ | ⟨i, h1, h2, h3, _⟩
  · refine .inr ⟨?_, h1⟩
    unfold hasD
    rw [List.any_eq_false]
    intro y hy
    obtain ⟨i, hi, rfl⟩ := List.mem_iff_getElem.1 hy
    have := h2 i hi
    rw [List.getD_eq_getElem?_getD, List.getElem?_eq_getElem hi] at this
    simpa using this
  · refine .inl ⟨?_, i, h1, h2⟩
    unfold hasD
    rw [List.any_eq_true]
    refine ⟨l.getD i d0, ?_, by simpa using h3⟩
    rw [List.getD_eq_getElem?_getD, List.getElem?_eq_getElem h2]
    exact List.getElem_mem h2
set_option maxRecDepth 100000 in
set_option maxHeartbeats 4000000 in
theorem putd_any (v : Value) (now id prio til : Int) (l : List DW) (w : World) (hA : DR 0 w v l) (hn : l.length ≤ 1000) :
    Calls Try.prog 21 #[.agg #[v, nV now], nV id, nV prio, nV til] w fun e w' => LineD v (putD l now id prio til) now (putDE l now id prio til) w e w' := by
  have hno : ∀ E, E ≠ 0 → putDE l now id prio til = E → ∀ W, Below w.heap.size w W → Hid (LineD v (putD l now id prio til) now (putDE l now id prio til) w (.returned (.tuple #[.agg #[v, nV now], .int .i64 E])) W) := fun E h0 hE W hB => ⟨v, by rw [hE], by unfold putD; rw [hE, if_neg h0]; exact hA.keep hB, hB, fun x hx => .inl hx⟩
  have HNO := Lib.hid hno
  clear hno
  obtain ⟨A, c, rfl, _, _, hnil⟩ := hA.len
  have HF := Lib.hid (fun W (hB : Below w.heap.size w W) => find_any A c l id W (hA.at.keep hB) (by omega))
  have HA := Lib.hid (fun W (hB : Below w.heap.size w W) => hA.keep hB)
  have hnil2 : A = none → l.length = 0 ∧ c = 0 := fun h => ⟨by have := hnil h; omega, hnil h⟩
  have HNIL := Lib.hid hnil2
  clear hA hnil hnil2
  go_enter Try.func21, Try.ntmps21
  by_cases h1 : id < 0
  · have HX := Lib.hid (HNO.out 140 (by decide) (by unfold putDE; rw [if_pos (.inl h1)]))
    clear HNO HF HA HNIL
    go_wp2_with fail
    go_returns
    exact (HX.out _ (((Below.refl _ _).alloc (Nat.le_refl _) _).alloc (by simp) _)).out
  by_cases h2 : 65535 < id
  · have HX := Lib.hid (HNO.out 140 (by decide) (by unfold putDE; rw [if_pos (.inr h2)]))
    clear HNO HF HA HNIL
    go_wp2_with fail
    go_returns
    exact (HX.out _ (((Below.refl _ _).alloc (Nat.le_refl _) _).alloc (by simp) _)).out
  by_cases h3 : prio < 0
  · have HX := Lib.hid (HNO.out 143 (by decide) (by unfold putDE; rw [if_neg (by omega), if_pos (.inl h3)]))
    clear HNO HF HA HNIL
    go_wp2_with fail
    go_returns
    exact (HX.out _ (((Below.refl _ _).alloc (Nat.le_refl _) _).alloc (by simp) _)).out
  by_cases h4 : 63 < prio
  · have HX := Lib.hid (HNO.out 143 (by decide) (by unfold putDE; rw [if_neg (by omega), if_pos (.inr h4)]))
    clear HNO HF HA HNIL
    go_wp2_with fail
    go_returns
    exact (HX.out _ (((Below.refl _ _).alloc (Nat.le_refl _) _).alloc (by simp) _)).out
  have h3' : 0 ≤ prio := by omega
  have h4' : prio ≤ 63 := by omega
  by_cases h5 : til = -1
  · go_wp2_with fail
    with_reducible refine (HF.out _ (((Below.refl _ _).alloc (Nat.le_refl _) _).alloc (by simp) _)).mono ?_
    rintro e _ ⟨z, rfl, hz, rfl⟩
    rcases fnd_has hz with ⟨hh, i, rfl, hi⟩ | ⟨hh, rfl⟩
    · have HX := Lib.hid (HNO.out 141 (by decide) (by unfold putDE; rw [if_neg (by omega), if_neg (by omega), if_neg (by omega), if_pos hh]))
      have i0 : (0 : Int) ≤ (i : Int) := Int.natCast_nonneg _
      clear HNO HF HA HNIL hz hh
      go_wp2_with fail
      go_returns
      exact (HX.out _ (((Below.refl _ _).alloc (Nat.le_refl _) _).alloc (by simp) _)).out
    · have hE : putDE l now id prio til = 0 := by unfold putDE; rw [if_neg (by omega), if_neg (by omega), if_neg (by omega), if_neg (by rw [hh]; simp)]
      have hp : putD l now id prio til = l ++ [(id, prio, til)] := by unfold putD; rw [if_pos hE]
      have HP := Lib.hid (And.intro hE hp)
      clear HNO HF hz hh hE hp
      obtain ⟨wb, hwb⟩ : ∃ wb, wb = ((w.alloc (.cells #[.slice A l.length c, nV now] 27)).alloc (.cells #[.slice none 0 0, .int .i64 0] 27)) := ⟨_, rfl⟩
      rw [← hwb]
      have hbs : wb.heap.size = w.heap.size + 2 := by rw [hwb]; simp
      have q0 : wb.cell? ⟨w.heap.size, 0, none⟩ = some (.slice A l.length c) := by rw [hwb]; exact al_cell (al_new _ _ _ 0 _ rfl rfl)
      have q1 : wb.cell? ⟨w.heap.size, 1, none⟩ = some (nV now) := by rw [hwb]; exact al_cell (al_new _ _ _ 1 _ rfl rfl)
      have r0 : wb.cell? ⟨w.heap.size + 1, 0, none⟩ = some (.slice none 0 0) := by rw [hwb]; exact al_new _ _ _ 0 _ (by simp) rfl
      have r1 : wb.cell? ⟨w.heap.size + 1, 1, none⟩ = some (.int .i64 0) := by rw [hwb]; exact al_new _ _ _ 1 _ (by simp) rfl
      have fq : ∀ j, wb.frozen? ⟨w.heap.size, j, none⟩ = false := fun j => by rw [hwb, frozen_old _ _ _ (by simp)]; exact frozen_new _ _ _ _
      have fr : ∀ j, wb.frozen? ⟨w.heap.size + 1, j, none⟩ = false := fun j => by rw [hwb]; exact frozen_at _ _ _ _ _ (by simp)
      have hBb : Below w.heap.size w wb := by rw [hwb]; exact ((Below.refl _ _).alloc (Nat.le_refl _) _).alloc (by simp) _
      have HLIT := Lib.hid (DR.lit (H := wb.heap.size) wb (Nat.le_refl _))
      have HDA := Lib.hid ((HA.out _ (hBb.alloc hBb.size (.cells #[] 61))).at)
      have HNL := Lib.hid (fun h => HNIL.out h)
      have HBb := Lib.hid hBb
      have HS := Lib.hid (show ∀ W, Below wb.heap.size wb W → (W.cell? ⟨w.heap.size, 0, none⟩ = some (.slice A l.length c) ∧ W.cell? ⟨w.heap.size, 1, none⟩ = some (nV now)) ∧ (W.cell? ⟨w.heap.size + 1, 0, none⟩ = some (.slice none 0 0) ∧ W.cell? ⟨w.heap.size + 1, 1, none⟩ = some (.int .i64 0)) ∧ (∀ j, W.frozen? ⟨w.heap.size, j, none⟩ = false) ∧ (∀ j, W.frozen? ⟨w.heap.size + 1, j, none⟩ = false) from fun W hB => ⟨⟨kept q0 hB, kept q1 hB⟩, ⟨kept r0 hB, kept r1 hB⟩, fun j => (hB.frozen (p := ⟨w.heap.size, j, none⟩) (by show w.heap.size < _; omega)).trans (fq j), fun j => (hB.frozen (p := ⟨w.heap.size + 1, j, none⟩) (by show w.heap.size + 1 < _; omega)).trans (fr j)⟩)
      have hbs2 : w.heap.size + 1 < wb.heap.size := by omega
      have q0' : (wb.alloc (.cells #[] 61)).cell? ⟨w.heap.size, 0, none⟩ = some (.slice A l.length c) := al_cell q0
      clear hwb hBb HA HNIL q1 r0 r1 fq fr hbs
      go_wp2_with (at_builtin; first
        | (refine wpList_spreadD rfl _ _ rfl HLIT.out HDA.out HNL.out (by simp) (by omega) rfl rfl (by simp) ?_; intro v1 w1 hD1 hC1; have hb1 : Below wb.heap.size wb w1 := ((Below.refl _ _).alloc (Nat.le_refl _) _).trans (Chg.below hC1 (fun k hk => by have e : some wb.heap.size = some k := hk; injection e with e; omega) (by simp)))
        | (refine wpList_appD (y := (id, prio, til)) rfl _ _ rfl hD1 (by simp; omega) rfl rfl (by have := hC1.size; simp at this; omega) ?_; intro g2 cap2 w2 hD2 hC2 _; have hb2 := hb1.trans (Chg.below hC2 (fun k hk => hD1.ge hk) hb1.size); obtain ⟨⟨s0, s1⟩, ⟨s2, s3⟩, s4, s5⟩ := HS.out w2 hb2; have HD2 := Lib.hid hD2; have HB2 := Lib.hid hb2; clear hD2 hC2 hb2 hD1 hC1 hb1 q0 q0')
        | (refine wpList_appD (y := (id, prio, -1)) rfl _ _ rfl hD1 (by simp; omega) rfl rfl (by have := hC1.size; simp at this; omega) ?_; intro g2 cap2 w2 hD2 hC2 _; have hb2 := hb1.trans (Chg.below hC2 (fun k hk => hD1.ge hk) hb1.size); obtain ⟨⟨s0, s1⟩, ⟨s2, s3⟩, s4, s5⟩ := HS.out w2 hb2; have HD2 := Lib.hid hD2; have HB2 := Lib.hid hb2; clear hD2 hC2 hb2 hD1 hC1 hb1 q0 q0'))
      obtain ⟨V2, hV2⟩ : ∃ V2 : Value, V2 = .slice (some ⟨g2, 0, none⟩) (l.length + 1) cap2 := ⟨_, rfl⟩
      rw [← hV2]
      obtain ⟨W, hW⟩ : ∃ W, W = ((w2.setCell ⟨w.heap.size, 0, none⟩ V2).setCell ⟨w.heap.size + 1, 0, none⟩ V2).setCell ⟨w.heap.size + 1, 1, none⟩ (.int .i64 now) := ⟨_, rfl⟩
      have u2 : (w2.setCell ⟨w.heap.size, 0, none⟩ V2).cell? ⟨w.heap.size + 1, 0, none⟩ = some (.slice none 0 0) := by rw [World.cell?_setCell_other _ _ _ _ (by intro e; simp only [Addr.mk.injEq] at e; omega)]; exact s2
      have u3 : ((w2.setCell ⟨w.heap.size, 0, none⟩ V2).setCell ⟨w.heap.size + 1, 0, none⟩ V2).cell? ⟨w.heap.size + 1, 1, none⟩ = some (.int .i64 0) := by rw [World.cell?_setCell_other _ _ _ _ (by intro e; simp only [Addr.mk.injEq] at e; omega), World.cell?_setCell_other _ _ _ _ (by intro e; simp only [Addr.mk.injEq] at e; omega)]; exact s3
      have t0 : W.cell? ⟨w.heap.size + 1, 0, none⟩ = some V2 := by rw [hW, World.cell?_setCell_other _ _ _ _ (by intro e; simp only [Addr.mk.injEq] at e; omega)]; exact World.cell?_setCell_same _ _ _ u2
      have t1 : W.cell? ⟨w.heap.size + 1, 1, none⟩ = some (.int .i64 now) := by rw [hW]; exact World.cell?_setCell_same _ _ _ u3
      have hc : Chg (fun k => k = w.heap.size ∨ k = w.heap.size + 1) w2 W := by rw [hW]; exact (((Chg.refl w2).set (a := ⟨w.heap.size, 0, none⟩) (.inl rfl) _).set (a := ⟨w.heap.size + 1, 0, none⟩) (.inr rfl) _).set (a := ⟨w.heap.size + 1, 1, none⟩) (.inr rfl) _
      rw [← hW]
      clear hW s0 s1 s2 s3 u2 u3
      refine bodyPost_ret (by simp [results, Try.results21, go_sem, t0, t1]; try rfl) rfl ?_
      have hd : DR wb.heap.size w2 V2 (l ++ [(id, prio, til)]) := by
        have := HD2.out
        simp only [List.nil_append] at this
        rw [hV2]
        first | exact this | (rw [h5]; exact this)
      refine ⟨V2, by rw [HP.out.1], ?_, ?_, fun x hx => .inr (by have := hd.ge hx; have := HBb.out.size; omega)⟩
      · rw [HP.out.2]
        exact (hd.same fun x hx => hc.block x (hd.lt hx) (fun h => by have := hd.ge hx; omega)).zero
      · exact (HBb.out.trans (HB2.out.mono HBb.out.size)).trans (hc.below (fun k hk => by omega) (Nat.le_trans HBb.out.size HB2.out.size))
  · by_cases h6 : til ≤ now
    · have HX := Lib.hid (HNO.out 144 (by decide) (by unfold putDE; rw [if_neg (by omega), if_neg (by omega), if_pos ⟨h5, .inl h6⟩]))
      clear HNO HF HA HNIL
      go_wp2_with fail
      go_returns
      exact (HX.out _ (((Below.refl _ _).alloc (Nat.le_refl _) _).alloc (by simp) _)).out
    · by_cases h7 : 1099511627776 < til
      · have HX := Lib.hid (HNO.out 144 (by decide) (by unfold putDE; rw [if_neg (by omega), if_neg (by omega), if_pos ⟨h5, .inr h7⟩]))
        clear HNO HF HA HNIL
        go_wp2_with fail
        go_returns
        exact (HX.out _ (((Below.refl _ _).alloc (Nat.le_refl _) _).alloc (by simp) _)).out
      · go_wp2_with fail
        with_reducible refine (HF.out _ (((Below.refl _ _).alloc (Nat.le_refl _) _).alloc (by simp) _)).mono ?_
        rintro e _ ⟨z, rfl, hz, rfl⟩
        rcases fnd_has hz with ⟨hh, i, rfl, hi⟩ | ⟨hh, rfl⟩
        · have HX := Lib.hid (HNO.out 141 (by decide) (by unfold putDE; rw [if_neg (by omega), if_neg (by omega), if_neg (by omega), if_pos hh]))
          have i0 : (0 : Int) ≤ (i : Int) := Int.natCast_nonneg _
          clear HNO HF HA HNIL hz hh
          go_wp2_with fail
          go_returns
          exact (HX.out _ (((Below.refl _ _).alloc (Nat.le_refl _) _).alloc (by simp) _)).out
        · have hE : putDE l now id prio til = 0 := by unfold putDE; rw [if_neg (by omega), if_neg (by omega), if_neg (by omega), if_neg (by rw [hh]; simp)]
          have hp : putD l now id prio til = l ++ [(id, prio, til)] := by unfold putD; rw [if_pos hE]
          have HP := Lib.hid (And.intro hE hp)
          clear HNO HF hz hh hE hp
          obtain ⟨wb, hwb⟩ : ∃ wb, wb = ((w.alloc (.cells #[.slice A l.length c, nV now] 27)).alloc (.cells #[.slice none 0 0, .int .i64 0] 27)) := ⟨_, rfl⟩
          rw [← hwb]
          have hbs : wb.heap.size = w.heap.size + 2 := by rw [hwb]; simp
          have q0 : wb.cell? ⟨w.heap.size, 0, none⟩ = some (.slice A l.length c) := by rw [hwb]; exact al_cell (al_new _ _ _ 0 _ rfl rfl)
          have q1 : wb.cell? ⟨w.heap.size, 1, none⟩ = some (nV now) := by rw [hwb]; exact al_cell (al_new _ _ _ 1 _ rfl rfl)
          have r0 : wb.cell? ⟨w.heap.size + 1, 0, none⟩ = some (.slice none 0 0) := by rw [hwb]; exact al_new _ _ _ 0 _ (by simp) rfl
          have r1 : wb.cell? ⟨w.heap.size + 1, 1, none⟩ = some (.int .i64 0) := by rw [hwb]; exact al_new _ _ _ 1 _ (by simp) rfl
          have fq : ∀ j, wb.frozen? ⟨w.heap.size, j, none⟩ = false := fun j => by rw [hwb, frozen_old _ _ _ (by simp)]; exact frozen_new _ _ _ _
          have fr : ∀ j, wb.frozen? ⟨w.heap.size + 1, j, none⟩ = false := fun j => by rw [hwb]; exact frozen_at _ _ _ _ _ (by simp)
          have hBb : Below w.heap.size w wb := by rw [hwb]; exact ((Below.refl _ _).alloc (Nat.le_refl _) _).alloc (by simp) _
          have HLIT := Lib.hid (DR.lit (H := wb.heap.size) wb (Nat.le_refl _))
          have HDA := Lib.hid ((HA.out _ (hBb.alloc hBb.size (.cells #[] 61))).at)
          have HNL := Lib.hid (fun h => HNIL.out h)
          have HBb := Lib.hid hBb
          have HS := Lib.hid (show ∀ W, Below wb.heap.size wb W → (W.cell? ⟨w.heap.size, 0, none⟩ = some (.slice A l.length c) ∧ W.cell? ⟨w.heap.size, 1, none⟩ = some (nV now)) ∧ (W.cell? ⟨w.heap.size + 1, 0, none⟩ = some (.slice none 0 0) ∧ W.cell? ⟨w.heap.size + 1, 1, none⟩ = some (.int .i64 0)) ∧ (∀ j, W.frozen? ⟨w.heap.size, j, none⟩ = false) ∧ (∀ j, W.frozen? ⟨w.heap.size + 1, j, none⟩ = false) from fun W hB => ⟨⟨kept q0 hB, kept q1 hB⟩, ⟨kept r0 hB, kept r1 hB⟩, fun j => (hB.frozen (p := ⟨w.heap.size, j, none⟩) (by show w.heap.size < _; omega)).trans (fq j), fun j => (hB.frozen (p := ⟨w.heap.size + 1, j, none⟩) (by show w.heap.size + 1 < _; omega)).trans (fr j)⟩)
          have hbs2 : w.heap.size + 1 < wb.heap.size := by omega
          have q0' : (wb.alloc (.cells #[] 61)).cell? ⟨w.heap.size, 0, none⟩ = some (.slice A l.length c) := al_cell q0
          clear hwb hBb HA HNIL q1 r0 r1 fq fr hbs
          go_wp2_with (at_builtin; first
            | (refine wpList_spreadD rfl _ _ rfl HLIT.out HDA.out HNL.out (by simp) (by omega) rfl rfl (by simp) ?_; intro v1 w1 hD1 hC1; have hb1 : Below wb.heap.size wb w1 := ((Below.refl _ _).alloc (Nat.le_refl _) _).trans (Chg.below hC1 (fun k hk => by have e : some wb.heap.size = some k := hk; injection e with e; omega) (by simp)))
            | (refine wpList_appD (y := (id, prio, til)) rfl _ _ rfl hD1 (by simp; omega) rfl rfl (by have := hC1.size; simp at this; omega) ?_; intro g2 cap2 w2 hD2 hC2 _; have hb2 := hb1.trans (Chg.below hC2 (fun k hk => hD1.ge hk) hb1.size); obtain ⟨⟨s0, s1⟩, ⟨s2, s3⟩, s4, s5⟩ := HS.out w2 hb2; have HD2 := Lib.hid hD2; have HB2 := Lib.hid hb2; clear hD2 hC2 hb2 hD1 hC1 hb1 q0 q0')
            | (refine wpList_appD (y := (id, prio, -1)) rfl _ _ rfl hD1 (by simp; omega) rfl rfl (by have := hC1.size; simp at this; omega) ?_; intro g2 cap2 w2 hD2 hC2 _; have hb2 := hb1.trans (Chg.below hC2 (fun k hk => hD1.ge hk) hb1.size); obtain ⟨⟨s0, s1⟩, ⟨s2, s3⟩, s4, s5⟩ := HS.out w2 hb2; have HD2 := Lib.hid hD2; have HB2 := Lib.hid hb2; clear hD2 hC2 hb2 hD1 hC1 hb1 q0 q0'))
          obtain ⟨V2, hV2⟩ : ∃ V2 : Value, V2 = .slice (some ⟨g2, 0, none⟩) (l.length + 1) cap2 := ⟨_, rfl⟩
          rw [← hV2]
          obtain ⟨W, hW⟩ : ∃ W, W = ((w2.setCell ⟨w.heap.size, 0, none⟩ V2).setCell ⟨w.heap.size + 1, 0, none⟩ V2).setCell ⟨w.heap.size + 1, 1, none⟩ (.int .i64 now) := ⟨_, rfl⟩
          have u2 : (w2.setCell ⟨w.heap.size, 0, none⟩ V2).cell? ⟨w.heap.size + 1, 0, none⟩ = some (.slice none 0 0) := by rw [World.cell?_setCell_other _ _ _ _ (by intro e; simp only [Addr.mk.injEq] at e; omega)]; exact s2
          have u3 : ((w2.setCell ⟨w.heap.size, 0, none⟩ V2).setCell ⟨w.heap.size + 1, 0, none⟩ V2).cell? ⟨w.heap.size + 1, 1, none⟩ = some (.int .i64 0) := by rw [World.cell?_setCell_other _ _ _ _ (by intro e; simp only [Addr.mk.injEq] at e; omega), World.cell?_setCell_other _ _ _ _ (by intro e; simp only [Addr.mk.injEq] at e; omega)]; exact s3
          have t0 : W.cell? ⟨w.heap.size + 1, 0, none⟩ = some V2 := by rw [hW, World.cell?_setCell_other _ _ _ _ (by intro e; simp only [Addr.mk.injEq] at e; omega)]; exact World.cell?_setCell_same _ _ _ u2
          have t1 : W.cell? ⟨w.heap.size + 1, 1, none⟩ = some (.int .i64 now) := by rw [hW]; exact World.cell?_setCell_same _ _ _ u3
          have hc : Chg (fun k => k = w.heap.size ∨ k = w.heap.size + 1) w2 W := by rw [hW]; exact (((Chg.refl w2).set (a := ⟨w.heap.size, 0, none⟩) (.inl rfl) _).set (a := ⟨w.heap.size + 1, 0, none⟩) (.inr rfl) _).set (a := ⟨w.heap.size + 1, 1, none⟩) (.inr rfl) _
          rw [← hW]
          clear hW s0 s1 s2 s3 u2 u3
          refine bodyPost_ret (by simp [results, Try.results21, go_sem, t0, t1]; try rfl) rfl ?_
          have hd : DR wb.heap.size w2 V2 (l ++ [(id, prio, til)]) := by
            have := HD2.out
            simp only [List.nil_append] at this
            rw [hV2]
            first | exact this | (rw [h5]; exact this)
          refine ⟨V2, by rw [HP.out.1], ?_, ?_, fun x hx => .inr (by have := hd.ge hx; have := HBb.out.size; omega)⟩
          · rw [HP.out.2]
            exact (hd.same fun x hx => hc.block x (hd.lt hx) (fun h => by have := hd.ge hx; omega)).zero
          · exact (HBb.out.trans (HB2.out.mono HBb.out.size)).trans (hc.below (fun k hk => by omega) (Nat.le_trans HBb.out.size HB2.out.size))
end Go.Proofs.Ytagfhlnedaagbaa
