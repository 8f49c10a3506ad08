/-
  Signal of the document's semaphore.
-/
import Derived.Test.YtfinleobgmdebaaDocW
namespace Go.Proofs.Ytfinleobgmdebaa
open Go.RowKit

def SigR (v : Value) (l : List DW) (now : Int) (c m : Nat) (w : World) (e : Ending) (w' : World) : Prop := ∃ (l' : List DW) (id : Int) (ok : Bool) (v' : Value) (c' : Nat) (E : Int), TakeR l id ok l' ∧ e = .returned (.tuple #[.agg #[v', nV now, nV c', nV m], nV id, .bool ok, .int .i64 E]) ∧ DR 0 w' v' l' ∧ Below w.heap.size w w' ∧ Src v v' w.heap.size ∧
  (ok = true → c' = c ∧ E = 0) ∧ (ok = false → (c = m → c' = c ∧ E = 151) ∧ (c < m → c' = c + 1 ∧ E = 0))
theorem TakeR.none {l l' : List DW} {id : Int} (h : TakeR l id false l') : l' = l ∧ id = 0 := by
  rcases h with ⟨_, h2, h3, _⟩ | ⟨_, _, _, _, h4, _⟩
  · exact ⟨h2, h3⟩
  · cases h4
set_option maxRecDepth 100000 in
set_option maxHeartbeats 8000000 in
theorem sigd_any (v : Value) (now : Int) (c m : Nat) (l : List DW) (w : World) (hA : DR 0 w v l) (hn : l.length ≤ 900) (hc : c ≤ 255) (hcm : c ≤ m) :
    Calls Try.prog 12 #[.agg #[v, nV now, nV c, nV m]] w fun e w' => SigR v l now c m w e w' := by
  obtain ⟨A, cv, rfl, _, _, _⟩ := hA.len
  have HP := Lib.hid (fun W (hB : Below w.heap.size w W) => taked_any (.slice A l.length cv) now l W (hA.keep hB) (by omega) (fun y hy => ord_has hy))
  have HA := Lib.hid (fun W (hB : Below w.heap.size w W) => hA.keep hB)
  clear hA
  go_enter Try.func12, Try.ntmps12
  go_wp2_with fail
  obtain ⟨p, hp⟩ : ∃ p, p = w.heap.size := ⟨_, rfl⟩
  obtain ⟨q, hq⟩ : ∃ q, q = w.heap.size + 1 := ⟨_, rfl⟩
  obtain ⟨wb, hwb⟩ : ∃ wb, wb = ((w.alloc (.cells #[.slice A l.length cv, nV now, nV c, nV m] 31)).alloc (.cells #[.slice none 0 0, .int .i64 0, .int .i64 0, .int .i64 0] 31)) := ⟨_, rfl⟩
  have hBb : Below w.heap.size w wb := by rw [hwb]; exact ((Below.refl _ _).alloc (Nat.le_refl _) _).alloc (by simp) _
  have hX : Box4 wb p (.slice A l.length cv) now c m := by rw [hwb]; exact (Box4.new w (.slice A l.length cv) now c m 31 hp).keep ((Below.refl _ _).alloc (by simp) _)
  have hY : Box4 wb q (.slice none 0 0) 0 0 0 := by rw [hwb]; exact Box4.new _ (.slice none 0 0) 0 0 0 31 (by rw [hq]; simp)
  have hTP : wb.heap[p]? = some (.cells #[.slice A l.length cv, nV now, nV c, nV m] 31) := by rw [hwb, hp, Below.heap_alloc _ _ _ (by simp)]; exact heap_alloc_new _ _
  have hTQ : wb.heap[q]? = some (.cells #[.slice none 0 0, .int .i64 0, .int .i64 0, .int .i64 0] 31) := by
    have : q = (w.alloc (.cells #[.slice A l.length cv, nV now, nV c, nV m] 31)).heap.size := by rw [hq]; simp
    rw [hwb, this]; exact heap_alloc_new _ _
  have HTT := Lib.hid (fun W (hB : Below wb.heap.size wb W) => And.intro ((hB.block p (Array.getElem?_eq_some_iff.1 hTP).1).trans hTP) ((hB.block q (Array.getElem?_eq_some_iff.1 hTQ).1).trans hTQ))
  have hne : ¬ p = q := by omega
  have hne' : ¬ q = p := by omega
  have hwp : w.heap.size ≤ p ∧ w.heap.size ≤ q := by omega
  rw [← hwb, ← hq, ← hp]
  have HBb := Lib.hid hBb
  have HX := Lib.hid hX
  have HY := Lib.hid hY
  have HP1 := Lib.hid (HP.out wb hBb)
  clear hwb hBb hX hY hp hq hTP hTQ HP
  with_reducible refine HP1.out.mono ?_
  rintro e w1 ⟨l', id, ok, v1, hT, rfl, hD1, hB1, hS1⟩
  obtain ⟨A1, c1, rfl, _⟩ := hD1.len
  obtain ⟨n1, hn1⟩ : ∃ n1, n1 = l'.length := ⟨_, rfl⟩
  rw [← hn1] at hD1 hS1 ⊢
  clear hn1
  obtain ⟨w2, hw2⟩ : ∃ w2, w2 = w1.alloc (.cells #[.slice A1 n1 c1, nV now] 29) := ⟨_, rfl⟩
  have hB2 : Below w1.heap.size w1 w2 := by rw [hw2]; exact (Below.refl _ _).alloc (Nat.le_refl _) _
  have hB12 : Below wb.heap.size wb w2 := hB1.trans (hB2.mono hB1.size)
  have hX2 := HX.out.keep hB12
  have hY2 := HY.out.keep hB12
  have z0 : w2.cell? ⟨w1.heap.size, 0, none⟩ = some (.slice A1 n1 c1) := by rw [hw2]; exact al_new _ _ _ 0 _ rfl rfl
  have z1 : w2.cell? ⟨w1.heap.size, 1, none⟩ = some (nV now) := by rw [hw2]; exact al_new _ _ _ 1 _ rfl rfl
  have HY3 := Lib.hid hY2
  have HX3 := Lib.hid hX2
  have HB := Lib.hid (HBb.out.trans (hB12.mono HBb.out.size))
  have hD2 := hD1.keep hB2
  have HD2 := Lib.hid hD2
  have HDQ := Lib.hid (show ∀ x, (Value.slice A1 n1 c1).ownBlock = some x → x ≠ p ∧ x ≠ q from fun x hx => by
    have ht := HTT.out w2 hB12
    exact ⟨fun e => DR.other hD2 ht.1 (fun c e => by injection e with _ e; cases e) (e ▸ hx), fun e => DR.other hD2 ht.2 (fun c e => by injection e with _ e; cases e) (e ▸ hx)⟩)
  have hA2 := HA.out w2 (HBb.out.trans (hB12.mono HBb.out.size))
  have HA2 := Lib.hid hA2
  have HVQ := Lib.hid (show ∀ x, (Value.slice A l.length cv).ownBlock = some x → x ≠ p ∧ x ≠ q from fun x hx => by
    have ht := HTT.out w2 hB12
    exact ⟨fun e => DR.other hA2 ht.1 (fun c e => by injection e with _ e; cases e) (e ▸ hx), fun e => DR.other hA2 ht.2 (fun c e => by injection e with _ e; cases e) (e ▸ hx)⟩)
  have HTK := Lib.hid hT
  have HS1 := Lib.hid (show Src (.slice A l.length cv) (.slice A1 n1 c1) w.heap.size from fun x hx => (hS1 x hx).imp (fun e => e) fun h => Nat.le_trans HBb.out.size h)
  clear hS1
  obtain ⟨x0, x1, x2, x3, x4⟩ := hX2
  obtain ⟨y0, y1, y2, y3, y4⟩ := hY2
  clear hD1 hD2 hB1 hB2 hB12 hT HX HY HBb HP1 HTT hA2 HA
  go_upto_region 2 with fail
  rw [← hw2]
  clear hw2
  cases ok with
  | true =>
    obtain ⟨V2, hV2⟩ : ∃ V2 : Value, V2 = .slice A1 n1 c1 := ⟨_, rfl⟩
    have HY3 : Hid (Box4 ((w2.setCell ⟨p, 0, none⟩ V2).setCell ⟨p, 1, none⟩ (.int .i64 now)) q (.slice none 0 0) 0 0 0) := (HY3.out.far hne).far hne
    have hcp : Chg (fun k => k = p) w2 ((w2.setCell ⟨p, 0, none⟩ V2).setCell ⟨p, 1, none⟩ (.int .i64 now)) := Chg.set (S := fun k => k = p) (a := ⟨p, 1, none⟩) (Chg.set (S := fun k => k = p) (a := ⟨p, 0, none⟩) (Chg.refl w2) rfl _) rfl _
    have HCP := Lib.hid hcp
    clear hcp
    go_wp2_with fail
    rw [← hV2]
    obtain ⟨W, hW⟩ : ∃ W, W = (((((w2.setCell ⟨p, 0, none⟩ V2).setCell ⟨p, 1, none⟩ (.int .i64 now)).setCell ⟨q, 0, none⟩ V2).setCell ⟨q, 1, none⟩ (.int .i64 now)).setCell ⟨q, 2, none⟩ (.int .i64 (c : Int))).setCell ⟨q, 3, none⟩ (.int .i64 (m : Int)) := ⟨_, rfl⟩
    obtain ⟨t0, t1, t2, t3, hcg⟩ := fourOf HY3.out.c0 HY3.out.c1 HY3.out.c2 HY3.out.c3 hW
    rw [← hW]
    clear hW
    refine bodyPost_ret (by simp [results, Try.results12, go_sem, t0, t1, t2, t3]; try rfl) rfl ?_
    have hcq : Chg (fun k => k = p ∨ k = q) w2 W := (HCP.out.mono fun k hk => .inl hk).trans (hcg.mono fun k hk => .inr hk)
    refine ⟨l', id, true, V2, c, 0, HTK.out, rfl, ?_, HB.out.trans (hcq.below (fun k hk => by omega) HB.out.size), (fun x hx => HS1.out x (by first | exact hx | (rw [← hV2]; exact hx) | (rw [hV2] at hx; exact hx))), fun _ => ⟨rfl, rfl⟩, fun h => by cases h⟩
    rw [hV2]
    refine HD2.out.same fun x hx => hcq.block x (HD2.out.lt hx) fun e => ?_
    have := HDQ.out x hx
    omega
  | false =>
    obtain ⟨hll, hid0⟩ := TakeR.none HTK.out
    by_cases hcmm : c = m
    · have i1 : (m : Int) ≤ (c : Int) := by omega
      have HCM := Lib.hid hcmm
      clear hll hcmm
      go_wp2_with fail
      obtain ⟨V2, hV2⟩ : ∃ V2 : Value, V2 = .slice A l.length cv := ⟨_, rfl⟩
      rw [← hV2]
      obtain ⟨W, hW⟩ : ∃ W, W = (((w2.setCell ⟨q, 0, none⟩ V2).setCell ⟨q, 1, none⟩ (.int .i64 now)).setCell ⟨q, 2, none⟩ (.int .i64 (c : Int))).setCell ⟨q, 3, none⟩ (.int .i64 (m : Int)) := ⟨_, rfl⟩
      obtain ⟨t0, t1, t2, t3, hcg⟩ := fourOf HY3.out.c0 HY3.out.c1 HY3.out.c2 HY3.out.c3 hW
      rw [← hW]
      clear hW
      refine bodyPost_ret (by simp [results, Try.results12, go_sem, t0, t1, t2, t3]; try rfl) rfl ?_
      obtain ⟨hll, hid0⟩ := TakeR.none HTK.out
      refine ⟨l', id, false, V2, c, 151, HTK.out, by rw [hid0], ?_, HB.out.trans (hcg.below (fun k hk => by omega) HB.out.size), (fun x hx => .inl (by first | exact hx | (rw [← hV2]; exact hx) | (rw [hV2] at hx; exact hx))), (fun h => by cases h), fun _ => ⟨fun _ => ⟨rfl, rfl⟩, fun h => by have := HCM.out; omega⟩⟩
      rw [hV2, hll]
      refine HA2.out.same fun x hx => hcg.block x (HA2.out.lt hx) fun e => ?_
      exact (HVQ.out x hx).2 e
    · have i1 : ¬ (m : Int) ≤ (c : Int) := by omega
      have i2 : IntKind.i64.wrap ((c : Int) + 1) = (c : Int) + 1 := by rw [IntKind.wrap_i64]; omega
      have HCM := Lib.hid hcmm
      have HY3 : Hid (Box4 (w2.setCell ⟨p, 2, none⟩ (nV ((c : Int) + 1))) q (.slice none 0 0) 0 0 0) := HY3.out.far hne
      have hc3 : Chg (fun k => k = p) w2 (w2.setCell ⟨p, 2, none⟩ (nV ((c : Int) + 1))) := Chg.set (S := fun k => k = p) (a := ⟨p, 2, none⟩) (Chg.refl w2) rfl _
      have HC3 := Lib.hid hc3
      clear hll hcmm hc3
      go_wp2_with fail
      obtain ⟨V2, hV2⟩ : ∃ V2 : Value, V2 = .slice A l.length cv := ⟨_, rfl⟩
      rw [← hV2]
      obtain ⟨W, hW⟩ : ∃ W, W = ((((w2.setCell ⟨p, 2, none⟩ (nV ((c : Int) + 1))).setCell ⟨q, 0, none⟩ V2).setCell ⟨q, 1, none⟩ (.int .i64 now)).setCell ⟨q, 2, none⟩ (.int .i64 ((c : Int) + 1))).setCell ⟨q, 3, none⟩ (.int .i64 (m : Int)) := ⟨_, rfl⟩
      obtain ⟨t0, t1, t2, t3, hcg⟩ := fourOf HY3.out.c0 HY3.out.c1 HY3.out.c2 HY3.out.c3 hW
      rw [← hW]
      clear hW
      refine bodyPost_ret (by simp [results, Try.results12, go_sem, t0, t1, t2, t3]; try rfl) rfl ?_
      obtain ⟨hll, hid0⟩ := TakeR.none HTK.out
      have hcq : Chg (fun k => k = p ∨ k = q) w2 W := (HC3.out.mono fun k hk => .inl hk).trans (hcg.mono fun k hk => .inr hk)
      refine ⟨l', id, false, V2, c + 1, 0, HTK.out, by rw [hid0]; rfl, ?_, HB.out.trans (hcq.below (fun k hk => by omega) HB.out.size), (fun x hx => .inl (by first | exact hx | (rw [← hV2]; exact hx) | (rw [hV2] at hx; exact hx))), (fun h => by cases h), fun _ => ⟨fun h => by have := HCM.out; omega, fun _ => ⟨rfl, rfl⟩⟩⟩
      rw [hV2, hll]
      refine HA2.out.same fun x hx => hcq.block x (HA2.out.lt hx) fun e => ?_
      have := HVQ.out x hx
      omega
end Go.Proofs.Ytfinleobgmdebaa
