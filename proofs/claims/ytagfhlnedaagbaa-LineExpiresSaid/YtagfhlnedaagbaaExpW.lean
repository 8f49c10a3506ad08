/-
  Expire.
-/
import Derived.Test.YtagfhlnedaagbaaDueC
namespace Go.Proofs.Ytagfhlnedaagbaa
open Go.RowKit

theorem enters33 : Enters 33 := enters_of Try.func33 rfl rfl
def hasX (S : Ln) (D : List Int) (z : Int) : Bool := !decide (z ∈ D) && S.has z
def lookX (S : Ln) (D : List Int) (z : Int) : Int × Int × Int := if z ∈ D then (0, 0, 0) else S.look z
theorem mem_gone {S : Ln} (h : Ok S) {t : Int} {a : Wt} (ha : a ∈ S.q) : (a.id.val : Int) ∈ goneL S t ↔ Wt.due t a = true := by
  unfold goneL
  constructor
  · intro hm
    obtain ⟨c, hc, e⟩ := List.mem_map.1 hm
    obtain ⟨h1, h2⟩ := List.mem_filter.1 ((gone_perm S t).mem_iff.1 hc)
    have e1 := look_has h ha
    have e2 := look_has h h1
    rw [e, e1] at e2
    have e3 : a.til = c.til := (Prod.mk.inj (Prod.mk.inj e2).2).1
    unfold Wt.due at h2 ⊢
    rw [e3]; exact h2
  · intro hd
    exact List.mem_map.2 ⟨a, (gone_perm S t).mem_iff.2 (List.mem_filter.2 ⟨ha, hd⟩), rfl⟩
theorem has_expire {S : Ln} (h : Ok S) {t : Int} (he : S.expE t = 0) (z : Int) : hasX S (goneL S t) z = (S.expire t).has z := by
  unfold Ln.expire
  rw [if_pos he, Bool.eq_iff_iff, has_iff]
  unfold hasX
  simp only [Bool.and_eq_true, Bool.not_eq_true', decide_eq_false_iff_not, has_iff]
  constructor
  · rintro ⟨h1, a, ha, rfl⟩
    exact ⟨a, List.mem_filter.2 ⟨ha, by simpa using fun c => h1 ((mem_gone h ha).2 c)⟩, rfl⟩
  · rintro ⟨a, ha, rfl⟩
    obtain ⟨h1, h2⟩ := List.mem_filter.1 ha
    exact ⟨fun c => (by rw [(mem_gone h h1).1 c] at h2; cases h2), a, h1, rfl⟩
theorem look_expire {S : Ln} (h : Ok S) {t : Int} (he : S.expE t = 0) (z : Int) : lookX S (goneL S t) z = (S.expire t).look z := by
  have hok := ok_expire h t
  have hh := has_expire h he z
  cases hz : (S.expire t).has z with
  | true =>
    rw [hz] at hh
    obtain ⟨a, ha, rfl⟩ := has_iff.1 hz
    rw [look_has hok ha]
    unfold hasX at hh
    simp only [Bool.and_eq_true, Bool.not_eq_true', decide_eq_false_iff_not] at hh
    unfold lookX
    rw [if_neg hh.1]
    unfold Ln.expire at ha
    rw [if_pos he] at ha
    exact look_has h (List.mem_filter.1 ha).1
  | false =>
    rw [hz] at hh
    rw [find_none hz]
    unfold lookX
    by_cases hm : z ∈ goneL S t
    · rw [if_pos hm]
    · rw [if_neg hm]
      unfold hasX at hh
      simp [hm] at hh
      exact find_none hh
theorem nums_expire {S : Ln} (h : Ok S) {t : Int} (he : S.expE t = 0) : S.nums.filter (hasX S (goneL S t)) = (S.expire t).nums := by
  unfold Ln.expire Ln.nums
  rw [if_pos he, List.filter_map]
  congr 1
  refine List.filter_congr fun a ha => ?_
  show hasX S (goneL S t) (a.id.val : Int) = !Wt.due t a
  have hh : S.has (a.id.val : Int) = true := has_iff.2 ⟨a, ha, rfl⟩
  unfold hasX
  rw [hh, Bool.and_true]
  congr 1
  rw [Bool.eq_iff_iff, decide_eq_true_iff]
  exact mem_gone h ha
theorem gone_i64 (S : Ln) (t : Int) : ∀ y ∈ goneL S t, I64 y := by
  intro y hy
  obtain ⟨a, _, rfl⟩ := List.mem_map.1 hy
  exact id_i64 _
/-- What Expire answers and leaves. -/
def ExpP (g b : Nat) (v : Value) (S : Ln) (t : Int) (w : World) (e : Ending) (w' : World) : Prop :=
  ∃ d, e = .returned (.tuple #[d, .int .i64 (S.expE t)]) ∧ Nums w' d ((S.goneE t).map fun a => (a.id.val : Int)) ∧ (∃ v', LnAt w' g b v' (S.expire t) ∧ Chg (Blk g b v) w w' ∧ v'.ownBlock = v.ownBlock) ∧ ∀ k, d.ownBlock = some k → w.heap.size ≤ k ∧ ¬ Blk g b v k
set_option maxHeartbeats 4000000 in
theorem exp_no {g b : Nat} {v : Value} {S : Ln} (t : Int) (w : World) (h : LnAt w g b v S) (h1 : t < S.now ∨ 1099511627776 < t) :
    Calls Try.prog 20 #[.pointer (some ⟨g, 0, none⟩), nV t] w fun e w' => ExpP g b v S t w e w' := by
  have he : S.expE t = 144 := by unfold Ln.expE; rw [if_pos h1]
  have c3 := h.c3
  have lg := h.ltg
  have HF : ∀ w', Below w.heap.size w w' → Hid (ExpP g b v S t w (.returned (.tuple #[.slice none 0 0, .int .i64 144])) w') := fun w' hB => ⟨_, by rw [he], by
    unfold Ln.goneE; rw [he]; exact Nums.nil _, by
    unfold Ln.expire; rw [he]; exact ⟨v, h.keep hB, Chg.of_below hB, rfl⟩, fun k e => by cases e⟩
  have HFF := Lib.hid HF
  clear h he HF
  by_cases h0 : t < S.now
  · clear h1
    go_enter Try.func20, Try.ntmps20
    go_wp2_with fail
    go_ret2
    exact HFF.out _ ((Below.refl _ _).alloc (Nat.le_refl _) _)
  · have h2 : 1099511627776 < t := h1.resolve_left h0
    clear h1
    go_enter Try.func20, Try.ntmps20
    go_wp2_with fail
    go_ret2
    exact HFF.out _ ((Below.refl _ _).alloc (Nat.le_refl _) _)
set_option maxHeartbeats 4000000 in
theorem exp_ok {g b : Nat} {v : Value} {S : Ln} (t : Int) (w : World) (h : LnAt w g b v S) (h1 : ¬ (t < S.now ∨ 1099511627776 < t)) (hn : S.q.length ≤ 1000) :
    Calls Try.prog 20 #[.pointer (some ⟨g, 0, none⟩), nV t] w fun e w' => ExpP g b v S t w e w' := by
  have he : S.expE t = 0 := by unfold Ln.expE; rw [if_neg h1]
  have hge : (S.goneE t).map (fun a => (a.id.val : Int)) = goneL S t := by unfold Ln.goneE goneL; rw [if_pos he]
  have a1 : ¬ t < S.now := fun c => h1 (.inl c)
  have a2 : ¬ 1099511627776 < t := fun c => h1 (.inr c)
  have c3 := h.c3
  have lg := h.ltg
  have gb := h.ne
  have f3 := h.fz 3
  have H := Lib.hid h
  have HE := Lib.hid he
  have HGE := Lib.hid hge
  clear h he hge h1
  go_enter Try.func20, Try.ntmps20
  go_upto_region 4 with fail
  obtain ⟨w1, hw1⟩ : ∃ w1, w1 = (w.setCell ⟨g, 3, none⟩ (.int .i64 t)).alloc (.cells #[.pointer (some ⟨g, 0, none⟩)] 23) := ⟨_, rfl⟩
  rw [← hw1]
  have hsz : (w.setCell ⟨g, 3, none⟩ (.int .i64 t)).heap.size = w.heap.size := by simp
  have so : ∀ j u, j ≠ 3 → w.cell? ⟨g, j, none⟩ = some u → w1.cell? ⟨g, j, none⟩ = some u := fun j u hj hu => by
    rw [hw1]; refine al_cell ?_
    rw [World.cell?_setCell_other _ _ _ _ (by intro e; simp only [Addr.mk.injEq] at e; omega)]; exact hu
  have p0 := so 0 _ (by omega) H.out.c0
  have p1 := so 1 _ (by omega) H.out.c1
  have p2 := so 2 _ (by omega) H.out.c2
  have p3 : w1.cell? ⟨g, 3, none⟩ = some (nV t) := by rw [hw1]; exact al_cell (World.cell?_setCell_same _ _ _ c3)
  have pp : w1.cell? ⟨w.heap.size, 0, none⟩ = some (.pointer (some ⟨g, 0, none⟩)) := by rw [hw1]; exact al_new _ _ _ 0 _ hsz.symm rfl
  have hC1 : Chg (fun k => k = g) w w1 := by rw [hw1]; exact (Chg.set (S := fun k => k = g) (Chg.refl w) (a := ⟨g, 3, none⟩) rfl _).alloc _
  have hM1 : MapAt w1 b S.has S.look S.n := H.out.map.chg hC1 (fun e => gb e.symm)
  have hV1 : Nums w1 v S.nums := H.out.row.chg hC1 (fun x hx e => by subst e; exact H.out.nv hx)
  have hF1 : ∀ j, w1.frozen? ⟨g, j, none⟩ = false := fun j => by
    rw [hw1, frozen_old _ _ _ (by rw [hsz]; exact lg), World.frozen?_setCell]; exact H.out.fz j
  have l1 : w.heap.size < w1.heap.size := cell_lt pp
  have HD := Lib.hid (due_any (S := { S with now := t }) w1 p0 p1 p3 hM1 hV1 (fun Z h1 h2 => gone_eq H.out.ok (by rw [due_filter H.out.ok]; exact h1) h2) (by have h0 := due_pos H.out.ok t; rw [due_filter H.out.ok] at h0; exact h0) hn)
  have HC1 := Lib.hid hC1
  have HM1 := Lib.hid hM1
  have HV1 := Lib.hid hV1
  have HF1 := Lib.hid hF1
  clear hw1 hsz so hC1 hM1 hV1 hF1 c3
  go_wp2_with fail
  with_reducible refine HD.out.mono ?_
  rintro e w2 ⟨d, rfl, hN2, hB2, hfr⟩
  obtain ⟨D, hDD⟩ : ∃ D, D = goneL S t := ⟨_, rfl⟩
  have hN2 : Nums w2 d D := by rw [hDD]; exact hN2
  obtain ⟨dA, dc, rfl, hdA⟩ := hN2.len
  have hDl : ∀ y ∈ D, I64 y := by rw [hDD]; exact gone_i64 S t
  have hDn : D.length ≤ 1000 := by
    rw [hDD]; unfold goneL
    rw [List.length_map, (gone_perm S t).length_eq]
    have := List.length_filter_le (Wt.due t) S.q
    omega
  have q0 := kept p0 hB2
  have q1 := kept p1 hB2
  have q2 := kept p2 hB2
  have q3 := kept p3 hB2
  have qp := kept pp hB2
  have hM2 : MapAt w2 b (hasX S []) (lookX S []) S.n := (HM1.out.keep hB2).congr (fun z => by simp [hasX]) (fun z => by simp [lookX]) (Nat.le_refl _)
  have HM2 := Lib.hid hM2
  have HN2 := Lib.hid hN2
  have HB2 := Lib.hid hB2
  have HFR := Lib.hid hfr
  have HDL := Lib.hid hDl
  have HDA := Lib.hid hdA
  have HDD := Lib.hid hDD
  have bne : b ≠ w.heap.size := fun e => by have := H.out.ltb; omega
  have gne : g ≠ w.heap.size := fun e => by omega
  have dne : ∀ x, (Value.slice dA D.length dc).ownBlock = some x → w1.heap.size ≤ x := hfr
  have HDNE := Lib.hid dne
  obtain ⟨n, hnn⟩ : ∃ n, n = D.length := ⟨_, rfl⟩
  have HNN := Lib.hid hnn
  rw [← hnn] at hDn
  rw [← hnn]
  have lb1 : b < w1.heap.size := by have := H.out.ltb; omega
  clear hN2 hB2 hfr hDl hdA hM2 hDD dne hnn
  go_wp2_with fail
  go_loopw [8, 27] (fun _ iv wr => ∃ k : Nat, iv = .int .i64 k ∧ k ≤ n ∧ Hid (Chg (fun x => x = b) w2 wr) ∧ Hid (MapAt wr b (hasX S (D.take k)) (lookX S (D.take k)) S.n)) (fun _ iv _ => n - (intOf iv).toNat)
  case atStart => exact ⟨0, rfl, Nat.zero_le _, Chg.refl _, by show MapAt w2 b _ _ _; simpa using HM2.out⟩
  case round =>
    obtain ⟨k, rfl, hk, HC, HM⟩ := hrel
    have hC : Chg (fun x => x = b) w2 wr := HC
    have r0 := hC.cell q0 gb
    have rp := hC.cell qp (fun e => bne e.symm)
    by_cases hlt : k < n
    · have hkl : k < D.length := by rw [← HNN.out]; exact hlt
      obtain ⟨gd, rfl⟩ := HDA.out (by rw [← HNN.out]; omega)
      have hnd : Nums wr (.slice (some ⟨gd, 0, none⟩) D.length dc) D := HN2.out.chg hC (fun x hx e => by have := HDNE.out x hx; omega)
      have k0 := hnd.at hkl
      have hx0 := HDL.out _ (getD_in hkl)
      have htk : D.take (k + 1) = D.take k ++ [D.getD k 0] := by
        rw [List.take_succ_eq_append_getElem hkl, List.getD_eq_getElem?_getD, List.getElem?_eq_getElem hkl]; rfl
      obtain ⟨x, hx⟩ : ∃ x, x = D.getD k 0 := ⟨_, rfl⟩
      rw [← hx] at k0 hx0 htk
      have HTK := Lib.hid htk
      have i0 : (0 : Int) ≤ (k : Int) := Int.natCast_nonneg _
      have i1 : (k : Int) < (n : Int) := by omega
      clear hkl hnd hx htk
      go_wp2_with (at_delete; refine wpList_del rfl _ _ rfl rfl (show MapAt wr b _ _ _ from HM) hx0 rfl ?_; intro w3 hM3 hC3)
      have H1 := Lib.hid (hC.trans hC3)
      have H2 := Lib.hid (hM3.congr (hs' := hasX S (D.take (k + 1))) (lk' := lookX S (D.take (k + 1))) (fun z => by
        rw [HTK.out]; unfold hasX
        by_cases h1 : z = x
        · simp [h1]
        · simp [h1]) (fun z => by
        rw [HTK.out]; unfold lookX
        by_cases h1 : z = x
        · simp [h1]
        · simp [h1]) (Nat.le_refl _))
      clear hM3 hC3
      go_wp2_with fail
      go_roundw
      case rel => exact ⟨k + 1, by go_num, by omega, H1.out, H2.out⟩
      case measure => first | (simp [intOf]; done) | (simp [intOf]; omega)
    · obtain rfl : k = n := by omega
      have hDt : D.take k = D := by rw [HNN.out, List.take_length]
      have hM : MapAt wr b (hasX S D) (lookX S D) S.n := by
        have := HM
        unfold Hid at this
        rw [hDt] at this; exact this
      have r1 := hC.cell q1 gb
      have r2 := hC.cell q2 gb
      have r3 := hC.cell q3 gb
      have hV : Nums wr v S.nums := (HV1.out.keep HB2.out).chg hC (fun x hx e => by subst e; exact H.out.nb hx)
      have hlw : w2.heap.size ≤ wr.heap.size := hC.size
      have hlw1 : w1.heap.size ≤ w2.heap.size := HB2.out.size
      have hfz : ∀ j, wr.frozen? ⟨g, j, none⟩ = false := fun j => by
        rw [hC.frozen (a := ⟨g, j, none⟩) (by show g < _; omega) gb, HB2.out.frozen (p := ⟨g, j, none⟩) (by show g < _; omega)]
        exact HF1.out j
      have own_ne : ∀ x, v.ownBlock = some x → x < w.heap.size := fun x hx => H.out.row.lt hx
      have hDF := Lib.hid fun W (hB : Below wr.heap.size wr W) => delf_any 33 #[.pointer (some ⟨w.heap.size, 0, none⟩)] (hasX S D) v S.nums W (hV.keep hB) enters33 (by rw [nums_len]; omega) (fun x W' hx hC' => by
        have := exp1_any x (nums_i64 S x hx) W' (g := g) (b := b) (p := w.heap.size) (hC'.cell (kept r0 hB) (fun e => H.out.nv e)) ((hM.keep hB).chg hC' (fun e => H.out.nb e)) (hC'.cell (kept rp hB) (fun e => by have := own_ne _ e; dsimp only at this; omega))
        exact this)
      have HMW := Lib.hid hM
      have HCW := Lib.hid hC
      have HVW := Lib.hid hV
      have HFZ := Lib.hid hfz
      have HON := Lib.hid own_ne
      have hgl : g < wr.heap.size := cell_lt r0
      have hpl : w.heap.size < wr.heap.size := cell_lt rp
      have f1 := hfz 1
      clear hDt hM hV hfz own_ne HM HC hC
      go_wp2_with fail
      go_region_law ((go_simp; first
        | (with_reducible refine (hDF.out wr.drew (Below.refl _ _).drew).mono ?_
           rintro e w5 ⟨v5, rfl, hN5, hC5, ho5⟩
           obtain ⟨A5, d5, rfl, _⟩ := hN5.len
           have r15 := hC5.cell (w := wr.drew) r1 H.out.nv
           have rp5 := hC5.cell (w := wr.drew) rp (fun e => by have := HON.out _ e; dsimp only at this; omega)
           have f5 : w5.frozen? ⟨g, 1, none⟩ = false := (hC5.frozen (w := wr.drew) (a := ⟨g, 1, none⟩) hgl H.out.nv).trans f1
           have HFIN := Lib.hid (show Nums w5 (.slice A5 (S.nums.filter (hasX S D)).length d5) (S.nums.filter (hasX S D)) ∧ Chg (fun k => v.ownBlock = some k) wr w5 ∧ (Value.slice A5 (S.nums.filter (hasX S D)).length d5).ownBlock = v.ownBlock from ⟨hN5, (Chg.refl wr).drew.trans hC5, ho5⟩)
           clear hN5 hC5 ho5)))
      all_goals
        obtain ⟨hN5, hC5, ho5⟩ := HFIN.out
        have hxp : S.nums.filter (hasX S D) = (S.expire t).nums := by rw [HDD.out]; exact nums_expire H.out.ok HE.out
        have hen : (S.expire t).n = S.n := by unfold Ln.expire; rw [if_pos HE.out]
        have het : (S.expire t).now = t := by unfold Ln.expire; rw [if_pos HE.out]
        have hCw : Chg (fun k => k = g ∨ k = b) w wr := ((HC1.out.mono (fun k e => Or.inl e)).trans (Chg.of_below HB2.out)).trans (HCW.out.mono fun k e => Or.inr e)
        have hj := H.out.joined (S' := S.expire t) (w3 := wr) (W4 := wr) (w5 := w5) (v5 := .slice A5 (S.nums.filter (hasX S D)).length d5) hCw r0 r1 (by rw [hen]; exact r2) (by rw [het]; exact r3) HFZ.out (HMW.out.congr (fun z => by rw [HDD.out]; exact has_expire H.out.ok HE.out z) (fun z => by rw [HDD.out]; exact look_expire H.out.ok HE.out z) (by rw [hen]; exact Nat.le_refl _)) (Below.refl _ _) (by rw [← hxp]; exact hN5) hC5 (.inl ho5) (ok_expire H.out.ok t)
        have hnd : Nums (w5.setCell ⟨g, 1, none⟩ (.slice A5 (S.nums.filter (hasX S D)).length d5)) (.slice dA k dc) D := by
          have h1 : Nums wr (.slice dA D.length dc) D := HN2.out.chg HCW.out (fun x hx e => by have := HDNE.out x hx; omega)
          have h2 := h1.chg hC5 (fun x hx e => by have := HDNE.out x hx; have := HON.out x e; omega)
          rw [HNN.out]
          exact h2.same fun x hx => Below.heap_setCell _ _ _ _ (fun e => by have := HDNE.out x hx; dsimp only at e; omega)
        have HFF : Hid (ExpP g b v S t w (.returned (.tuple #[.slice dA k dc, .int .i64 0])) (w5.setCell ⟨g, 1, none⟩ (.slice A5 (S.nums.filter (hasX S D)).length d5))) := by
          refine ⟨_, by rw [HE.out], by rw [HGE.out, ← HDD.out]; exact hnd, ⟨_, hj.1, hj.2.1, ho5⟩, fun x hx => ?_⟩
          have h1 := HDNE.out x (by rw [← HNN.out]; exact hx)
          refine ⟨by omega, ?_⟩
          rintro (e | e | e)
          · omega
          · omega
          · have := HON.out x e; omega
        clear hN5 hC5 ho5 hxp hen het hCw hj hnd
        go_wp2_with fail
        go_ret2
        exact HFF
theorem exp_any {g b : Nat} {v : Value} {S : Ln} (t : Int) (w : World) (h : LnAt w g b v S) (hn : S.q.length ≤ 1000) :
    Calls Try.prog 20 #[.pointer (some ⟨g, 0, none⟩), nV t] w fun e w' => ExpP g b v S t w e w' := by
  by_cases h1 : t < S.now ∨ 1099511627776 < t
  · exact exp_no t w h h1
  · exact exp_ok t w h h1 hn
end Go.Proofs.Ytagfhlnedaagbaa
