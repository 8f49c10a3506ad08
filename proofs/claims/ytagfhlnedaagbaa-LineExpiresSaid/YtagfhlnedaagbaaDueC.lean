/-
  due, walked.
-/
import Derived.Test.YtagfhlnedaagbaaDueB
namespace Go.Proofs.Ytagfhlnedaagbaa
open Go.RowKit

theorem enters43 : Enters 43 := enters_of Try.func43 rfl rfl
theorem filter_snoc' {p : Int → Bool} {l : List Int} {k : Nat} (hk : k < l.length) : (l.take (k + 1)).filter p = (l.take k).filter p ++ (if p (l.getD k 0) = true then [l.getD k 0] else []) := by
  rw [List.take_succ_eq_append_getElem hk, List.filter_append, List.getD_eq_getElem?_getD, List.getElem?_eq_getElem hk, Option.getD_some]
  congr 1
  rw [List.filter_cons, List.filter_nil]
def DueP (S : Ln) (w : World) (e : Ending) (w' : World) : Prop := ∃ v', e = .returned v' ∧ Nums w' v' (goneL S S.now) ∧ Below w.heap.size w w' ∧ ∀ k, v'.ownBlock = some k → w.heap.size ≤ k
set_option maxHeartbeats 4000000 in
theorem due_any {g b : Nat} {v : Value} {S : Ln} (w : World) (c0 : w.cell? ⟨g, 0, none⟩ = some (.map (some b))) (c1 : w.cell? ⟨g, 1, none⟩ = some v) (c3 : w.cell? ⟨g, 3, none⟩ = some (nV S.now)) (hm : MapAt w b S.has S.look S.n) (hv : Nums w v S.nums)
    (hq : ∀ Z : List Int, Z.Perm (S.nums.filter fun x => dueB S.now (S.look x)) → Z.Pairwise (Ord (keyL S) (posL S)) → Z = goneL S S.now) (hpos : (S.nums.filter fun x => dueB S.now (S.look x)).Pairwise fun x y => posL S x < posL S y) (hn : S.q.length ≤ 1000) :
    Calls Try.prog 31 #[.pointer (some ⟨g, 0, none⟩)] w fun e w' => DueP S w e w' := by
  have HM := Lib.hid hm
  have HV := Lib.hid hv
  have HQ := Lib.hid hq
  have HPOS := Lib.hid hpos
  have lg : g < w.heap.size := cell_lt c0
  obtain ⟨l, hl⟩ : ∃ l, l = S.nums := ⟨_, rfl⟩
  obtain ⟨n, hnn⟩ : ∃ n, n = l.length := ⟨_, rfl⟩
  have hn1 : n ≤ 1000 := by rw [hnn, hl, nums_len]; exact hn
  have hI64 : ∀ y ∈ l, I64 y := by rw [hl]; exact nums_i64 S
  rw [← hl] at HV HQ HPOS
  obtain ⟨A, c, rfl, hA⟩ := HV.out.len
  rw [← hnn] at c1
  have HA := Lib.hid hA
  have HN := Lib.hid hnn
  have HI := Lib.hid hI64
  obtain ⟨t, ht⟩ : ∃ t, t = S.now := ⟨_, rfl⟩
  rw [← ht] at c3 HQ HPOS
  have HT := Lib.hid ht
  obtain ⟨p, hp⟩ : ∃ p : Int → Bool, p = fun x => dueB t (S.look x) := ⟨_, rfl⟩
  have HP := Lib.hid hp
  rw [← hp] at HQ HPOS
  clear hm hv hq hpos hl hnn hI64 hA ht hp hn
  go_enter Try.func31, Try.ntmps31
  go_wp2_with fail
  go_loopw [3, 5, 11] (fun dv _ iv wr => ∃ k : Nat, iv = .int .i64 k ∧ k ≤ n ∧ Hid (Nums wr dv ((l.take k).filter p)) ∧ Hid (Below w.heap.size w wr) ∧ Hid (wr.cell? ⟨w.heap.size, 0, none⟩ = some (.pointer (some ⟨g, 0, none⟩))) ∧ Hid (∀ x, dv.ownBlock = some x → w.heap.size + 1 ≤ x)) (fun _ _ iv _ => n - (intOf iv).toNat)
  case atStart => exact ⟨0, rfl, Nat.zero_le _, by
    show Nums _ _ _
    simpa using Nums.nil _, (Below.refl _ _).alloc (Nat.le_refl _) _, al_new _ _ _ 0 _ rfl rfl, fun x e => by cases e⟩
  case round =>
    obtain ⟨k, rfl, hk, HD, HB, HC, HF⟩ := hrel
    obtain ⟨dvv, hdv⟩ : ∃ dvv, dvv = u3 := ⟨_, rfl⟩
    subst hdv
    by_cases hlt : k < n
    · have hkl : k < l.length := by rw [← HN.out]; exact hlt
      obtain ⟨gq, rfl⟩ := HA.out (by rw [← HN.out]; omega)
      have k0 := (HV.out.below HB (fun x hx => HV.out.lt hx)).at (n := l.length) (cap := c) hkl
      have hx0 := HI.out _ (getD_in hkl)
      have hgx := fun W (hW : Below w.heap.size w W) => (HM.out.same (w' := W) (hW.block _ HM.out.lt)).get hx0
      have hsn := filter_snoc' (p := p) hkl
      obtain ⟨x, hx⟩ : ∃ x, x = l.getD k 0 := ⟨_, rfl⟩
      rw [← hx] at k0 hgx hsn
      have hpx : p x = dueB t (S.look x) := by rw [HP.out]
      obtain ⟨y, hy⟩ : ∃ y, y = S.look x := ⟨_, rfl⟩
      rw [← hy] at hpx
      have hg0 := hgx wr.drew (show Below w.heap.size w wr from HB).drew
      rw [← hy] at hg0
      have cp : wr.cell? ⟨w.heap.size, 0, none⟩ = some (.pointer (some ⟨g, 0, none⟩)) := HC
      have b0 := (show Below w.heap.size w wr from HB).cell (p := ⟨g, 0, none⟩) lg
      have b3 := (show Below w.heap.size w wr from HB).cell (p := ⟨g, 3, none⟩) lg
      rw [c0] at b0
      rw [c3] at b3
      have HRC := Lib.hid (fun W => reached_any y t W)
      rw [← hpx] at HRC
      have i0 : (0 : Int) ≤ (k : Int) := Int.natCast_nonneg _
      have i1 : (k : Int) < (n : Int) := by omega
      have HSN := Lib.hid hsn
      obtain ⟨q, hq⟩ : ∃ q, q = p x := ⟨_, rfl⟩
      rw [← hq] at HRC HSN
      obtain ⟨y0, y1, y2⟩ := y
      have HRC2 := HRC
      simp only [wV] at hg0 HRC2
      clear hkl hx0 hgx hsn hx hpx hy hq
      go_wp2_with fail
      go_cut [25] (fun qv wx => qv = .bool q ∧ Hid (Below wr.heap.size wr wx))
      case first =>
        go_region_law ((go_simp; (with_reducible refine (HRC2.out _).mono ?_; rintro e w1 ⟨rfl, hM1⟩)))
        all_goals (have HB1 := Lib.hid (below_two (show Below wr.heap.size wr wr.drew from (Below.refl _ _).drew) hM1.1))
        all_goals clear hM1
        all_goals go_wp2_with fail
        all_goals go_meet
        all_goals exact ⟨rfl, HB1.out⟩
      case rest =>
        obtain ⟨rfl, HB1⟩ := hcut
        have hB1 : Below wr.heap.size wr wc := HB1
        have hBw : Below w.heap.size w wr := HB
        have hD1 := (show Nums wr _ ((l.take k).filter p) from HD).keep hB1
        have HD1 := Lib.hid hD1
        have hc1 := kept (show wr.cell? _ = _ from HC) hB1
        have HC1 := Lib.hid hc1
        have HBW := Lib.hid (hBw.trans (hB1.mono hBw.size))
        have hlk : ((l.take k).filter p).length ≤ 100000 := by
          have h1 := List.length_filter_le p (l.take k)
          rw [List.length_take] at h1
          omega
        clear hB1 hBw hD1 hc1
        cases q
        · go_wp2_with fail
          go_roundw
          case rel => exact ⟨k + 1, by go_num, by omega, by
              have h1 := HSN.out
              show Nums wc _ ((l.take (k + 1)).filter p)
              rw [h1, if_neg (by simp), List.append_nil]
              exact HD1.out, HBW.out, HC1.out, HF⟩
          case measure => first | (simp [intOf]; done) | (simp [intOf]; omega)
        · go_wp2_with (at_builtin; refine wpList_app (z := x) rfl _ _ rfl HD1.out hlk rfl rfl ?_; intro g' cap' w2 hN2 hC2 hO2)
          have hw0 : w.heap.size + 1 ≤ wc.heap.size := by have := cell_lt (show wc.cell? _ = _ from HC1.out); dsimp only at this; omega
          have hF0 : ∀ x, dvv.ownBlock = some x → w.heap.size + 1 ≤ x := HF
          have hg' : w.heap.size + 1 ≤ g' := by
            rcases hO2 with e | e
            · exact hF0 _ e
            · omega
          have H1 := Lib.hid hN2
          have H2 := Lib.hid ((show Below w.heap.size w wc from HBW.out).trans (hC2.below (n := w.heap.size) (fun k hk => by have := hF0 k hk; omega) (by omega)))
          have H3 := Lib.hid (hC2.cell (show wc.cell? ⟨w.heap.size, 0, none⟩ = _ from HC1.out) (fun e => by have := hF0 _ e; dsimp only at this; omega))
          have H4 := Lib.hid hg'
          clear hN2 hC2 hO2 hF0
          go_roundw
          case rel => exact ⟨k + 1, by go_num, by omega, by
              have h1 := HSN.out
              show Nums w2 _ ((l.take (k + 1)).filter p)
              rw [h1, if_pos rfl]
              exact H1.out, H2.out, H3.out, fun x e => by
              have e : some g' = some x := e
              injection e with e
              rw [← e]; exact H4.out⟩
          case measure => first | (simp [intOf]; done) | (simp [intOf]; omega)
    · obtain rfl : k = n := by omega
      have hL : (l.take k).filter p = l.filter p := by rw [HN.out, List.take_length]
      have hN0 : Nums wr dvv (l.filter p) := by rw [← hL]; exact HD
      have hB0 : Below w.heap.size w wr := HB
      have hC0 : wr.cell? ⟨w.heap.size, 0, none⟩ = some (.pointer (some ⟨g, 0, none⟩)) := HC
      have hF0 : ∀ x, dvv.ownBlock = some x → w.heap.size + 1 ≤ x := HF
      clear HD HB HC HF hL
      obtain ⟨dA, dc, rfl, hdA⟩ := hN0.len
      cases dA with
      | none =>
        obtain ⟨h0, h1, h2⟩ := nil_cap hN0
        have HS := Lib.hid (sorts_nil (.func (.func 43) #[] #[.pointer (some ⟨w.heap.size, 0, none⟩)]) wr)
        have HFF : Hid (DueP S w (.returned (.slice none 0 0)) wr) := ⟨_, rfl, by
          rw [← HT.out, ← HQ.out [] (by rw [h2]) List.Pairwise.nil]
          exact Nums.nil _, hB0, fun k e => by cases e⟩
        rw [h0, h1]
        clear h0 h1 h2 hN0 hB0 hC0 hF0 hdA
        go_wp2_with fail
        with_reducible refine HS.out.mono ?_
        rintro e w1 ⟨rfl, rfl⟩
        go_wp2_with fail
        go_ret
        exact HFF
      | some ad =>
        have hpos : 0 < (l.filter p).length ∨ (l.filter p).length = 0 := by omega
        obtain ⟨g', cap', f, he, _⟩ := hN0.row rfl
        injection he with e1 e2 e3
        injection e1 with e1
        subst e1
        subst e3
        clear e2
        have hgF : w.heap.size + 1 ≤ g' := hF0 _ rfl
        have hsr : SR wr wr g' (l.filter p).length dc (l.filter p) := ⟨Chg.refl _, hN0, rfl⟩
        have hfl : (l.filter p).length ≤ 100000 := by have := List.length_filter_le p l; rw [← HN.out] at this; omega
        have hsc : SortC 43 #[.pointer (some ⟨w.heap.size, 0, none⟩)] (fun x y => cmpI (keyL S x) (keyL S y)) g' wr (l.filter p) := fun x y W hx hy hC => by
          have lt : ∀ k, k < w.heap.size + 1 → ¬ (k = g') := fun k hk e => by omega
          exact due1_any x y (HI.out x (List.mem_filter.1 hx).1) (HI.out y (List.mem_filter.1 hy).1) W (hC.cell ((hB0.cell (p := ⟨g, 0, none⟩) lg).trans c0) (lt g (by omega))) ((HM.out.same (hB0.block _ HM.out.lt)).chg hC (lt b (by have := HM.out.lt; omega))) (hC.cell hC0 (lt _ (by show w.heap.size < _; omega)))
        have HS := Lib.hid (sorts_any 43 #[.pointer (some ⟨w.heap.size, 0, none⟩)] (keyL S) (posL S) g' (l.filter p).length dc wr wr (l.filter p) enters43 hsc hfl hsr HPOS.out)
        have HFF := Lib.hid (show ∀ W, (∃ Z : List Int, Z.Perm (l.filter p) ∧ Z.Pairwise (Ord (keyL S) (posL S)) ∧ SR wr W g' (l.filter p).length dc Z) → DueP S w (.returned (slV g' (l.filter p).length dc)) W from fun W ⟨Z, h1, h2, h3⟩ => ⟨_, rfl, by
          rw [← HT.out, ← HQ.out Z h1 h2]; exact h3.row, hB0.trans (h3.chg.below (n := w.heap.size) (fun k e => by omega) hB0.size), fun k e => by
          have e : some g' = some k := e
          injection e with e; omega⟩)
        clear hpos hsr hsc hgF hfl hN0 hB0 hC0 hF0 hdA
        go_wp2_with fail
        with_reducible refine HS.out.mono ?_
        rintro e w1 ⟨rfl, hZ⟩
        have HFE := Lib.hid (HFF.out w1 hZ)
        clear hZ
        go_wp2_with fail
        go_ret
        exact HFE.out
end Go.Proofs.Ytagfhlnedaagbaa
