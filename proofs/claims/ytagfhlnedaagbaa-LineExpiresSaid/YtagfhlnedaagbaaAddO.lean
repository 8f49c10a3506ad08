/-
  Put of one who isn't there.
-/
import Derived.Test.YtagfhlnedaagbaaAddW
namespace Go.Proofs.Ytagfhlnedaagbaa
open Go.RowKit

/-- A line put together behind a store of its queue. -/
theorem LnAt.joined {w1 w3 W4 w5 : World} {g b : Nat} {v v5 : Value} {S S' : Ln} (h : LnAt w1 g b v S) (hC3 : Chg (fun k => k = g ∨ k = b) w1 w3) (r0 : w3.cell? ⟨g, 0, none⟩ = some (.map (some b))) (r1 : w3.cell? ⟨g, 1, none⟩ = some v) (r2 : w3.cell? ⟨g, 2, none⟩ = some (nV S'.n)) (r3 : w3.cell? ⟨g, 3, none⟩ = some (nV S'.now))
    (f3 : ∀ j, w3.frozen? ⟨g, j, none⟩ = false) (hM3 : MapAt w3 b S'.has S'.look S'.n) (hB : Below w3.heap.size w3 W4) (hN5 : Nums w5 v5 S'.nums) (hC5 : Chg (fun k => v.ownBlock = some k) W4 w5) (hs : Slid v v5 W4) (ok : Ok S') :
    LnAt (w5.setCell ⟨g, 1, none⟩ v5) g b v5 S' ∧ Chg (Blk g b v) w1 (w5.setCell ⟨g, 1, none⟩ v5) ∧ Slid v v5 w1 := by
  have hgn : v.ownBlock ≠ some g := h.nv
  have hbn : v.ownBlock ≠ some b := h.nb
  have gb := h.ne
  have lg : g < w3.heap.size := cell_lt r0
  have lb : b < w3.heap.size := hM3.lt
  have sB := hB.size
  have s13 := hC3.size
  have hgn2 : v5.ownBlock ≠ some g := by
    rcases hs with e | ⟨k, e, hk⟩
    · rw [e]; exact hgn
    · rw [e]; intro c; injection c with c; omega
  have hbn2 : v5.ownBlock ≠ some b := by
    rcases hs with e | ⟨k, e, hk⟩
    · rw [e]; exact hbn
    · rw [e]; intro c; injection c with c; omega
  have k5 : ∀ j u, w3.cell? ⟨g, j, none⟩ = some u → w5.cell? ⟨g, j, none⟩ = some u := fun j u hu => hC5.cell (kept hu hB) hgn
  have so : ∀ j u, j ≠ 1 → w5.cell? ⟨g, j, none⟩ = some u → (w5.setCell ⟨g, 1, none⟩ v5).cell? ⟨g, j, none⟩ = some u := fun j u hj hu => by
    rw [World.cell?_setCell_other _ _ _ _ (by intro e; simp only [Addr.mk.injEq] at e; omega)]; exact hu
  have hW : Chg (fun k => k = g) w5 (w5.setCell ⟨g, 1, none⟩ v5) := Chg.set (S := fun k => k = g) (Chg.refl w5) (a := ⟨g, 1, none⟩) rfl _
  refine ⟨⟨so 0 _ (by omega) (k5 _ _ r0), World.cell?_setCell_same _ _ _ (k5 _ _ r1), so 2 _ (by omega) (k5 _ _ r2), so 3 _ (by omega) (k5 _ _ r3), fun j => ?_, ?_, ?_, gb, hgn2, hbn2, ok⟩, ?_, ?_⟩
  · rw [World.frozen?_setCell, hC5.frozen (a := ⟨g, j, none⟩) (by show g < _; omega) hgn, hB.frozen (p := ⟨g, j, none⟩) lg]
    exact f3 j
  · exact ((hM3.keep hB).chg hC5 hbn).chg hW (fun e => gb e.symm)
  · exact hN5.same fun x hx => Below.heap_setCell _ _ _ _ (fun e => by dsimp only at e; subst e; exact hgn2 hx)
  · refine Chg.set (((hC3.mono (S' := Blk g b v) ?_).trans' (Chg.of_below (S := fun _ => False) hB) (fun _ _ h => h.elim)).trans' hC5 fun i hi hb => .inr (.inr hb)) (a := ⟨g, 1, none⟩) (.inl rfl) _
    rintro k (e | e)
    · exact .inl e
    · exact .inr (.inl e)
  · rcases hs with e | ⟨k, e, hk⟩
    · exact .inl e
    · exact .inr ⟨k, e, by omega⟩
set_option maxHeartbeats 2000000 in
theorem add_ok {g b : Nat} {v : Value} {S : Ln} (id prio til : Int) (w : World) (h : LnAt w g b v S) (he : S.putE id prio til = 0) (hn : S.q.length ≤ 1000) (hN : S.n ≤ 1000) :
    Calls Try.prog 19 #[.pointer (some ⟨g, 0, none⟩), nV id, nV prio, nV til] w fun e w' => AddP g b v S id prio til w e w' := by
  obtain ⟨h1, h2, h3, h4⟩ := putE_ok he
  have HE := Lib.hid he
  have a1 : ¬ id < 0 := fun c => h1 (.inl c)
  have a2 : ¬ 65535 < id := fun c => h1 (.inr c)
  have a3 : ¬ prio < 0 := fun c => h2 (.inl c)
  have a4 : ¬ 63 < prio := fun c => h2 (.inr c)
  have hid : I64 id := by unfold I64; omega
  have c3 := h.c3
  have hw := waits_any id hid w h
  rw [h4] at hw
  have HW := Lib.hid hw
  have H := Lib.hid h
  have H1 := Lib.hid h1
  clear h h1 h2 h4 hw he
  by_cases h0 : til = -1
  · subst h0
    clear h3
    go_enter Try.func19, Try.ntmps19
    go_wp2_with fail
    refine HW.out.mono ?_
    rintro e w1 ⟨rfl, hB, _⟩
    have h1 := H.out.keep hB
    have HB := Lib.hid hB
    have HL1 := Lib.hid h1
    have k0 := h1.c0
    have k2 := h1.c2
    have f2 := h1.fz 2
    obtain ⟨w2, hrun, hM, hC⟩ := (h1.map.same (w' := w1.drew) rfl).put hid (show S.n < maxLen by unfold maxLen; omega) (prio, -1, (S.n : Int))
    simp only [wV] at hrun
    have HM := Lib.hid hM
    have HC := Lib.hid hC
    have gb := h1.ne
    have p0 : w2.cell? ⟨g, 0, none⟩ = some (.map (some b)) := hC.cell (w := w1.drew) h1.c0 gb
    have p1 : w2.cell? ⟨g, 1, none⟩ = some v := hC.cell (w := w1.drew) h1.c1 gb
    have p2 : w2.cell? ⟨g, 2, none⟩ = some (nV S.n) := hC.cell (w := w1.drew) h1.c2 gb
    have p3 : w2.cell? ⟨g, 3, none⟩ = some (nV S.now) := hC.cell (w := w1.drew) h1.c3 gb
    have q2 : w2.frozen? ⟨g, 2, none⟩ = false := (hC.frozen (a := ⟨g, 2, none⟩) h1.ltg gb).trans (h1.fz 2)
    have e1 : IntKind.i64.wrap ((S.n : Int) + 1) = (S.n : Int) + 1 := by rw [IntKind.wrap_i64]; omega
    clear h1 hM hC hB
    go_wp2_with fail
    go_region
    clear hrun
    go_upto_region 11 with fail
    obtain ⟨w3, hw3⟩ : ∃ w3, w3 = w2.setCell ⟨g, 2, none⟩ (.int .i64 ((S.n : Int) + 1)) := ⟨_, rfl⟩
    rw [← hw3]
    have r0 : w3.cell? ⟨g, 0, none⟩ = some (.map (some b)) := by rw [hw3, World.cell?_setCell_other _ _ _ _ (by intro e; simp only [Addr.mk.injEq] at e; omega)]; exact p0
    have r1 : w3.cell? ⟨g, 1, none⟩ = some v := by rw [hw3, World.cell?_setCell_other _ _ _ _ (by intro e; simp only [Addr.mk.injEq] at e; omega)]; exact p1
    have lg3 : g < w3.heap.size := cell_lt r0
    have hb3 : w3.heap[b]? = w2.heap[b]? := by rw [hw3]; exact Below.heap_setCell _ _ _ _ (fun e => gb e.symm)
    have hM3 : MapAt w3 b (S.put id prio (-1)).has (S.put id prio (-1)).look (S.n + 1) := (HM.out.same hb3).congr (fun z => by rw [has_put HE.out]) (fun z => by rw [look_put HL1.out.ok HE.out]) (Nat.le_refl _)
    have hC3 : Chg (fun k => k = g ∨ k = b) w1 w3 := by
      rw [hw3]
      exact ((Chg.refl w1).drew.trans (HC.out.mono fun k hk => .inr hk)).set (a := ⟨g, 2, none⟩) (.inl rfl) _
    have hV3 : Nums w3 v S.nums := HL1.out.row.chg hC3 fun x hx e => by
      rcases e with e | e
      · subst e; exact HL1.out.nv hx
      · subst e; exact HL1.out.nb hx
    have t3 : w3.cell? ⟨g, 3, none⟩ = some (nV S.now) := by rw [hw3, World.cell?_setCell_other _ _ _ _ (by intro e; simp only [Addr.mk.injEq] at e; omega)]; exact p3
    have t2 : w3.cell? ⟨g, 2, none⟩ = some (nV ((S.n : Int) + 1)) := by rw [hw3]; exact World.cell?_setCell_same _ _ _ p2
    have f3 : ∀ j, w3.frozen? ⟨g, j, none⟩ = false := fun j => by
      rw [hw3, World.frozen?_setCell, HC.out.frozen (a := ⟨g, j, none⟩) HL1.out.ltg gb]
      exact HL1.out.fz j
    have f31 := f3 1
    have hlk : ∀ a ∈ S.q, (S.put id prio (-1)).look (a.id.val : Int) = tri a := fun a ha => by
      rw [look_put HL1.out.ok HE.out, if_neg]
      · exact look_has HL1.out.ok ha
      · intro e
        have : S.has id = true := has_iff.2 ⟨a, ha, e⟩
        rw [(putE_ok HE.out).2.2.2] at this; cases this
    have hlx : (S.put id prio (-1)).look id = tri ⟨toId id, prio, (-1), S.n⟩ := by rw [look_put HL1.out.ok HE.out, if_pos rfl]; rfl
    have HP := Lib.hid fun W (hB : Below w3.heap.size w3 W) => place_any id hid W (kept r0 hB) (kept r1 hB) (hM3.keep hB) (hV3.keep hB) (nums_i64 S) (by rw [nums_len]; omega) (mono_bef HL1.out.ok hlk hlx)
    have HV3 := Lib.hid hV3
    have HM3 := Lib.hid hM3
    have HC3 := Lib.hid hC3
    have HLK := Lib.hid (And.intro hlk hlx)
    have hnb : v.ownBlock ≠ some w3.heap.size := fun e => by have := HV3.out.lt e; omega
    have hnl : S.nums.length ≤ 100000 := by rw [nums_len]; omega
    have HT := Lib.hid (And.intro r0 (And.intro t2 (And.intro t3 f3)))
    clear hM3 hV3 hC3 hlk hlx hw3 p0 p1 p2 p3 q2 k0 k2 f2 c3 hb3 t2 t3 f3
    go_region_law ((go_simp; first
      | (with_reducible refine (HP.out _ (by repeat (first | with_reducible exact Below.refl _ _ | with_reducible refine Below.drew ?_ | (with_reducible refine Below.alloc ?_ (by first | (simp; done) | (simp; omega)) _)))).mono ?_
         rintro e w4 ⟨k, rfl, hF, hB4⟩
         have HB4 := Lib.hid (below_two (w := w3) (by repeat (first | with_reducible exact Below.refl _ _ | with_reducible refine Below.drew ?_ | (with_reducible refine Below.alloc ?_ (by first | (simp; done) | (simp; omega)) _))) hB4)
         first | (have hx4 : w4.heap[w3.heap.size]? = some (.cells #[nV id] 3 (0, 0)) := (hB4.block _ (by simp)).trans (heap_alloc_new w3 (.cells #[nV id] 3))) | skip
         have hkl : k ≤ S.nums.length := hF.1
         have HF := Lib.hid hF
         have r4 := kept r1 HB4.out
         have f4 : w4.frozen? ⟨g, 1, none⟩ = false := (HB4.out.frozen (p := ⟨g, 1, none⟩) lg3).trans f31
         have lg4 : g < w4.heap.size := cell_lt r4
         clear hF hB4)
      | (with_reducible refine (insert_any v S.nums k id w3.heap.size w4 (HV3.out.keep HB4.out) hkl hnl hx4 hnb).mono ?_
         rintro e w5 ⟨v5, rfl, hN5, hC5, hs5⟩
         obtain ⟨A5, d5, rfl, _⟩ := hN5.len
         have r5 := hC5.cell r4 HL1.out.nv
         have f5 : w5.frozen? ⟨g, 1, none⟩ = false := (hC5.frozen (a := ⟨g, 1, none⟩) lg4 HL1.out.nv).trans f4
         have HFIN := Lib.hid (show ∃ W4, Below w3.heap.size w3 W4 ∧ Nums w5 (.slice A5 (insAt S.nums k id).length d5) (insAt S.nums k id) ∧ Chg (fun k => v.ownBlock = some k) W4 w5 ∧ Slid v (.slice A5 (insAt S.nums k id).length d5) W4 from ⟨w4, HB4.out, hN5, hC5, hs5⟩)
         clear hN5 hC5 hs5)
      | (with_reducible refine (insert_any v S.nums k id w4.heap.size (w4.alloc (.cells #[nV id] 3)) ((HV3.out.keep HB4.out).keep ((Below.refl _ _).alloc (Nat.le_refl _) _)) hkl hnl (heap_alloc_new w4 _) (fun e => by have := (HV3.out.keep HB4.out).lt e; omega)).mono ?_
         rintro e w5 ⟨v5, rfl, hN5, hC5, hs5⟩
         obtain ⟨A5, d5, rfl, _⟩ := hN5.len
         have r5 := hC5.cell (al_cell r4) HL1.out.nv
         have f5 : w5.frozen? ⟨g, 1, none⟩ = false := (hC5.frozen (a := ⟨g, 1, none⟩) (Nat.lt_of_lt_of_le lg4 (by simp)) HL1.out.nv).trans ((frozen_old w4 _ _ lg4).trans f4)
         have HFIN := Lib.hid (show ∃ W4, Below w3.heap.size w3 W4 ∧ Nums w5 (.slice A5 (insAt S.nums k id).length d5) (insAt S.nums k id) ∧ Chg (fun k => v.ownBlock = some k) W4 w5 ∧ Slid v (.slice A5 (insAt S.nums k id).length d5) W4 from ⟨w4.alloc (.cells #[nV id] 3), HB4.out.alloc HB4.out.size _, hN5, hC5, hs5⟩)
         clear hN5 hC5 hs5)))
    all_goals
      obtain ⟨W4, hB4, hN5, hC5, hs5⟩ := HFIN.out
      have hpn : insAt S.nums k id = (S.put id prio (-1)).nums := by
        rw [put_nums HLK.out.1 (toId_val H1.out) HLK.out.2 HF.out]
        unfold Ln.put Ln.nums
        rw [if_pos HE.out]
      have hen : (S.put id prio (-1)).n = S.n + 1 := by unfold Ln.put; rw [if_pos HE.out]
      have het : (S.put id prio (-1)).now = S.now := by unfold Ln.put; rw [if_pos HE.out]
      have hfin := HL1.out.joined (S' := S.put id prio (-1)) (v5 := .slice A5 (insAt S.nums k id).length d5) HC3.out r0 r1 (by rw [hen]; exact HT.out.2.1) (by rw [het]; exact HT.out.2.2.1) HT.out.2.2.2 (by rw [hen]; exact HM3.out) hB4 (by rw [← hpn]; exact hN5) hC5 hs5 (ok_put HL1.out.ok _ _ _)
      have HFF : Hid (AddP g b v S id prio (-1) w (.returned (.int .i64 0)) (w5.setCell ⟨g, 1, none⟩ (.slice A5 (insAt S.nums k id).length d5))) :=
        ⟨by rw [HE.out], _, hfin.1, (Chg.of_below HB.out).trans hfin.2.1, by
          rcases hfin.2.2 with e | ⟨x, e, hx⟩
          · exact .inl e
          · exact .inr ⟨x, e, Nat.le_trans HB.out.size hx⟩⟩
      clear hB4 hN5 hC5 hs5 hpn hen het hfin
      go_wp2_with fail
      go_ret
      exact HFF.out
  · have b1 : ¬ til ≤ S.now := fun c => h3 ⟨h0, .inl c⟩
    have b2 : ¬ 1099511627776 < til := fun c => h3 ⟨h0, .inr c⟩
    clear h3
    go_enter Try.func19, Try.ntmps19
    go_wp2_with fail
    refine HW.out.mono ?_
    rintro e w1 ⟨rfl, hB, _⟩
    have h1 := H.out.keep hB
    have HB := Lib.hid hB
    have HL1 := Lib.hid h1
    have k0 := h1.c0
    have k2 := h1.c2
    have f2 := h1.fz 2
    obtain ⟨w2, hrun, hM, hC⟩ := (h1.map.same (w' := w1.drew) rfl).put hid (show S.n < maxLen by unfold maxLen; omega) (prio, til, (S.n : Int))
    simp only [wV] at hrun
    have HM := Lib.hid hM
    have HC := Lib.hid hC
    have gb := h1.ne
    have p0 : w2.cell? ⟨g, 0, none⟩ = some (.map (some b)) := hC.cell (w := w1.drew) h1.c0 gb
    have p1 : w2.cell? ⟨g, 1, none⟩ = some v := hC.cell (w := w1.drew) h1.c1 gb
    have p2 : w2.cell? ⟨g, 2, none⟩ = some (nV S.n) := hC.cell (w := w1.drew) h1.c2 gb
    have p3 : w2.cell? ⟨g, 3, none⟩ = some (nV S.now) := hC.cell (w := w1.drew) h1.c3 gb
    have q2 : w2.frozen? ⟨g, 2, none⟩ = false := (hC.frozen (a := ⟨g, 2, none⟩) h1.ltg gb).trans (h1.fz 2)
    have e1 : IntKind.i64.wrap ((S.n : Int) + 1) = (S.n : Int) + 1 := by rw [IntKind.wrap_i64]; omega
    clear h1 hM hC hB
    go_wp2_with fail
    go_region
    clear hrun
    go_upto_region 11 with fail
    obtain ⟨w3, hw3⟩ : ∃ w3, w3 = w2.setCell ⟨g, 2, none⟩ (.int .i64 ((S.n : Int) + 1)) := ⟨_, rfl⟩
    rw [← hw3]
    have r0 : w3.cell? ⟨g, 0, none⟩ = some (.map (some b)) := by rw [hw3, World.cell?_setCell_other _ _ _ _ (by intro e; simp only [Addr.mk.injEq] at e; omega)]; exact p0
    have r1 : w3.cell? ⟨g, 1, none⟩ = some v := by rw [hw3, World.cell?_setCell_other _ _ _ _ (by intro e; simp only [Addr.mk.injEq] at e; omega)]; exact p1
    have lg3 : g < w3.heap.size := cell_lt r0
    have hb3 : w3.heap[b]? = w2.heap[b]? := by rw [hw3]; exact Below.heap_setCell _ _ _ _ (fun e => gb e.symm)
    have hM3 : MapAt w3 b (S.put id prio til).has (S.put id prio til).look (S.n + 1) := (HM.out.same hb3).congr (fun z => by rw [has_put HE.out]) (fun z => by rw [look_put HL1.out.ok HE.out]) (Nat.le_refl _)
    have hC3 : Chg (fun k => k = g ∨ k = b) w1 w3 := by
      rw [hw3]
      exact ((Chg.refl w1).drew.trans (HC.out.mono fun k hk => .inr hk)).set (a := ⟨g, 2, none⟩) (.inl rfl) _
    have hV3 : Nums w3 v S.nums := HL1.out.row.chg hC3 fun x hx e => by
      rcases e with e | e
      · subst e; exact HL1.out.nv hx
      · subst e; exact HL1.out.nb hx
    have t3 : w3.cell? ⟨g, 3, none⟩ = some (nV S.now) := by rw [hw3, World.cell?_setCell_other _ _ _ _ (by intro e; simp only [Addr.mk.injEq] at e; omega)]; exact p3
    have t2 : w3.cell? ⟨g, 2, none⟩ = some (nV ((S.n : Int) + 1)) := by rw [hw3]; exact World.cell?_setCell_same _ _ _ p2
    have f3 : ∀ j, w3.frozen? ⟨g, j, none⟩ = false := fun j => by
      rw [hw3, World.frozen?_setCell, HC.out.frozen (a := ⟨g, j, none⟩) HL1.out.ltg gb]
      exact HL1.out.fz j
    have f31 := f3 1
    have hlk : ∀ a ∈ S.q, (S.put id prio til).look (a.id.val : Int) = tri a := fun a ha => by
      rw [look_put HL1.out.ok HE.out, if_neg]
      · exact look_has HL1.out.ok ha
      · intro e
        have : S.has id = true := has_iff.2 ⟨a, ha, e⟩
        rw [(putE_ok HE.out).2.2.2] at this; cases this
    have hlx : (S.put id prio til).look id = tri ⟨toId id, prio, til, S.n⟩ := by rw [look_put HL1.out.ok HE.out, if_pos rfl]; rfl
    have HP := Lib.hid fun W (hB : Below w3.heap.size w3 W) => place_any id hid W (kept r0 hB) (kept r1 hB) (hM3.keep hB) (hV3.keep hB) (nums_i64 S) (by rw [nums_len]; omega) (mono_bef HL1.out.ok hlk hlx)
    have HV3 := Lib.hid hV3
    have HM3 := Lib.hid hM3
    have HC3 := Lib.hid hC3
    have HLK := Lib.hid (And.intro hlk hlx)
    have hnb : v.ownBlock ≠ some w3.heap.size := fun e => by have := HV3.out.lt e; omega
    have hnl : S.nums.length ≤ 100000 := by rw [nums_len]; omega
    have HT := Lib.hid (And.intro r0 (And.intro t2 (And.intro t3 f3)))
    clear hM3 hV3 hC3 hlk hlx hw3 p0 p1 p2 p3 q2 k0 k2 f2 c3 hb3 t2 t3 f3
    go_region_law ((go_simp; first
      | (with_reducible refine (HP.out _ (by repeat (first | with_reducible exact Below.refl _ _ | with_reducible refine Below.drew ?_ | (with_reducible refine Below.alloc ?_ (by first | (simp; done) | (simp; omega)) _)))).mono ?_
         rintro e w4 ⟨k, rfl, hF, hB4⟩
         have HB4 := Lib.hid (below_two (w := w3) (by repeat (first | with_reducible exact Below.refl _ _ | with_reducible refine Below.drew ?_ | (with_reducible refine Below.alloc ?_ (by first | (simp; done) | (simp; omega)) _))) hB4)
         first | (have hx4 : w4.heap[w3.heap.size]? = some (.cells #[nV id] 3 (0, 0)) := (hB4.block _ (by simp)).trans (heap_alloc_new w3 (.cells #[nV id] 3))) | skip
         have hkl : k ≤ S.nums.length := hF.1
         have HF := Lib.hid hF
         have r4 := kept r1 HB4.out
         have f4 : w4.frozen? ⟨g, 1, none⟩ = false := (HB4.out.frozen (p := ⟨g, 1, none⟩) lg3).trans f31
         have lg4 : g < w4.heap.size := cell_lt r4
         clear hF hB4)
      | (with_reducible refine (insert_any v S.nums k id w3.heap.size w4 (HV3.out.keep HB4.out) hkl hnl hx4 hnb).mono ?_
         rintro e w5 ⟨v5, rfl, hN5, hC5, hs5⟩
         obtain ⟨A5, d5, rfl, _⟩ := hN5.len
         have r5 := hC5.cell r4 HL1.out.nv
         have f5 : w5.frozen? ⟨g, 1, none⟩ = false := (hC5.frozen (a := ⟨g, 1, none⟩) lg4 HL1.out.nv).trans f4
         have HFIN := Lib.hid (show ∃ W4, Below w3.heap.size w3 W4 ∧ Nums w5 (.slice A5 (insAt S.nums k id).length d5) (insAt S.nums k id) ∧ Chg (fun k => v.ownBlock = some k) W4 w5 ∧ Slid v (.slice A5 (insAt S.nums k id).length d5) W4 from ⟨w4, HB4.out, hN5, hC5, hs5⟩)
         clear hN5 hC5 hs5)
      | (with_reducible refine (insert_any v S.nums k id w4.heap.size (w4.alloc (.cells #[nV id] 3)) ((HV3.out.keep HB4.out).keep ((Below.refl _ _).alloc (Nat.le_refl _) _)) hkl hnl (heap_alloc_new w4 _) (fun e => by have := (HV3.out.keep HB4.out).lt e; omega)).mono ?_
         rintro e w5 ⟨v5, rfl, hN5, hC5, hs5⟩
         obtain ⟨A5, d5, rfl, _⟩ := hN5.len
         have r5 := hC5.cell (al_cell r4) HL1.out.nv
         have f5 : w5.frozen? ⟨g, 1, none⟩ = false := (hC5.frozen (a := ⟨g, 1, none⟩) (Nat.lt_of_lt_of_le lg4 (by simp)) HL1.out.nv).trans ((frozen_old w4 _ _ lg4).trans f4)
         have HFIN := Lib.hid (show ∃ W4, Below w3.heap.size w3 W4 ∧ Nums w5 (.slice A5 (insAt S.nums k id).length d5) (insAt S.nums k id) ∧ Chg (fun k => v.ownBlock = some k) W4 w5 ∧ Slid v (.slice A5 (insAt S.nums k id).length d5) W4 from ⟨w4.alloc (.cells #[nV id] 3), HB4.out.alloc HB4.out.size _, hN5, hC5, hs5⟩)
         clear hN5 hC5 hs5)))
    all_goals
      obtain ⟨W4, hB4, hN5, hC5, hs5⟩ := HFIN.out
      have hpn : insAt S.nums k id = (S.put id prio til).nums := by
        rw [put_nums HLK.out.1 (toId_val H1.out) HLK.out.2 HF.out]
        unfold Ln.put Ln.nums
        rw [if_pos HE.out]
      have hen : (S.put id prio til).n = S.n + 1 := by unfold Ln.put; rw [if_pos HE.out]
      have het : (S.put id prio til).now = S.now := by unfold Ln.put; rw [if_pos HE.out]
      have hfin := HL1.out.joined (S' := S.put id prio til) (v5 := .slice A5 (insAt S.nums k id).length d5) HC3.out r0 r1 (by rw [hen]; exact HT.out.2.1) (by rw [het]; exact HT.out.2.2.1) HT.out.2.2.2 (by rw [hen]; exact HM3.out) hB4 (by rw [← hpn]; exact hN5) hC5 hs5 (ok_put HL1.out.ok _ _ _)
      have HFF : Hid (AddP g b v S id prio til w (.returned (.int .i64 0)) (w5.setCell ⟨g, 1, none⟩ (.slice A5 (insAt S.nums k id).length d5))) :=
        ⟨by rw [HE.out], _, hfin.1, (Chg.of_below HB.out).trans hfin.2.1, by
          rcases hfin.2.2 with e | ⟨x, e, hx⟩
          · exact .inl e
          · exact .inr ⟨x, e, Nat.le_trans HB.out.size hx⟩⟩
      clear hB4 hN5 hC5 hs5 hpn hen het hfin
      go_wp2_with fail
      go_ret
      exact HFF.out
theorem put_any {g b : Nat} {v : Value} {S : Ln} (id prio til : Int) (w : World) (h : LnAt w g b v S) (hn : S.q.length ≤ 1000) (hN : S.n ≤ 1000) :
    Calls Try.prog 19 #[.pointer (some ⟨g, 0, none⟩), nV id, nV prio, nV til] w fun e w' => AddP g b v S id prio til w e w' := by
  by_cases h1 : id < 0 ∨ 65535 < id
  · exact add_id id prio til w h h1
  · by_cases h2 : prio < 0 ∨ 63 < prio
    · exact add_prio id prio til w h h1 h2
    · by_cases h3 : til ≠ -1 ∧ (til ≤ S.now ∨ 1099511627776 < til)
      · exact add_til id prio til w h h1 h2 h3
      · by_cases h4 : S.has id = true
        · exact add_here id prio til w h h1 h2 h3 h4
        · exact add_ok id prio til w h (by unfold Ln.putE; rw [if_neg h1, if_neg h2, if_neg h3, if_neg h4]) hn hN
end Go.Proofs.Ytagfhlnedaagbaa
