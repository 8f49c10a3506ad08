/-
  Sorting a row of numbers in place: what holds of the row; slices.insertionSortCmpFunc.
-/
import Derived.Test.YtagfhlnedaagbaaListW
import Derived.Deep.RegionLaw
namespace Go.Proofs.Ytagfhlnedaagbaa
open Go.RowKit

/-! ### lists -/
def swapL (l : List Int) (i j : Nat) : List Int := (l.set i (l.getD j 0)).set j (l.getD i 0)
theorem swapL_len (l : List Int) (i j : Nat) : (swapL l i j).length = l.length := by simp [swapL]
theorem swapL_at {l : List Int} {i j : Nat} (hi : i < l.length) (hj : j < l.length) (p : Nat) : (swapL l i j).getD p 0 = if p = j then l.getD i 0 else if p = i then l.getD j 0 else l.getD p 0 := by
  unfold swapL
  rw [List.getD_eq_getElem?_getD, List.getElem?_set, List.getElem?_set]
  simp only [List.length_set]
  by_cases h1 : p = j
  · subst h1; simp [hj]
  · rw [if_neg (fun e => h1 e.symm), if_neg h1]
    by_cases h2 : p = i
    · subst h2; simp [hi]
    · rw [if_neg (fun e => h2 e.symm), if_neg h2, List.getD_eq_getElem?_getD]
theorem swapL_comm {l : List Int} {i j : Nat} (hi : i < l.length) (hj : j < l.length) : swapL l i j = swapL l j i := by
  refine lists_eq (by simp [swapL_len]) fun p _ => ?_
  rw [swapL_at hi hj, swapL_at hj hi]
  by_cases h1 : p = j
  · by_cases h2 : p = i
    · rw [if_pos h1, if_pos h2, ← h1, ← h2]
    · rw [if_pos h1, if_neg h2, if_pos h1]
  · by_cases h2 : p = i
    · rw [if_neg h1, if_pos h2, if_pos h2]
    · rw [if_neg h1, if_neg h2, if_neg h2, if_neg h1]
theorem getD_mid (A B : List Int) (x : Int) : (A ++ x :: B).getD A.length 0 = x := by
  rw [List.getD_eq_getElem?_getD, List.getElem?_append_right (Nat.le_refl _), Nat.sub_self]; rfl
theorem swapL_mid (A B C : List Int) (x y : Int) : swapL (A ++ x :: (B ++ y :: C)) A.length (A.length + 1 + B.length) = A ++ y :: (B ++ x :: C) := by
  have hlen : (A ++ x :: (B ++ y :: C)).length = A.length + 1 + B.length + 1 + C.length := by simp; omega
  refine lists_eq (by rw [swapL_len, hlen]; simp; omega) fun p hp => ?_
  rw [swapL_len, hlen] at hp
  rw [swapL_at (by omega) (by omega)]
  have e1 : (A ++ x :: (B ++ y :: C)).getD A.length 0 = x := getD_mid _ _ _
  have e2 : (A ++ x :: (B ++ y :: C)).getD (A.length + 1 + B.length) 0 = y := by
    have := getD_mid (A ++ x :: B) C y
    simp only [List.append_assoc, List.cons_append, List.length_append, List.length_cons] at this
    rw [show A.length + 1 + B.length = A.length + (B.length + 1) by omega]
    exact this
  have e3 : (A ++ y :: (B ++ x :: C)).getD (A.length + 1 + B.length) 0 = x := by
    have := getD_mid (A ++ y :: B) C x
    simp only [List.append_assoc, List.cons_append, List.length_append, List.length_cons] at this
    rw [show A.length + 1 + B.length = A.length + (B.length + 1) by omega]
    exact this
  by_cases h1 : p = A.length + 1 + B.length
  · rw [if_pos h1, e1, h1, e3]
  · rw [if_neg h1]
    by_cases h2 : p = A.length
    · rw [if_pos h2, e2, h2, getD_mid]
    · rw [if_neg h2]
      simp only [List.getD_eq_getElem?_getD]
      rcases Nat.lt_or_ge p A.length with h3 | h3
      · rw [List.getElem?_append_left h3, List.getElem?_append_left h3]
      · rw [List.getElem?_append_right h3, List.getElem?_append_right h3, show p - A.length = (p - A.length - 1) + 1 by omega, List.getElem?_cons_succ, List.getElem?_cons_succ]
        rcases Nat.lt_or_ge (p - A.length - 1) B.length with h4 | h4
        · rw [List.getElem?_append_left h4, List.getElem?_append_left h4]
        · rw [List.getElem?_append_right h4, List.getElem?_append_right h4, show p - A.length - 1 - B.length = (p - A.length - 1 - B.length - 1) + 1 by omega, List.getElem?_cons_succ, List.getElem?_cons_succ]

theorem swapL_mid' (A B C : List Int) (x y : Int) : swapL (A ++ x :: (B ++ y :: C)) (A.length + 1 + B.length) A.length = A ++ y :: (B ++ x :: C) := by
  rw [swapL_comm (by first | (simp; done) | (simp; omega)) (by first | (simp; done) | (simp; omega)), swapL_mid]

/-! ### the row under sort -/
abbrev slV (g n c : Nat) : Value := .slice (some ⟨g, 0, none⟩) n c
/-- A world of the sort's. -/
structure SR (w0 W : World) (g n c : Nat) (l : List Int) : Prop where
  chg : Chg (fun k => k = g) w0 W
  row : Nums W (slV g n c) l
  len : l.length = n
theorem SR.below {w0 W W' : World} {g n c : Nat} {l : List Int} (h : SR w0 W g n c l) (hB : Below W.heap.size W W') : SR w0 W' g n c l := ⟨h.chg.trans (Chg.of_below hB), h.row.keep hB, h.len⟩
theorem SR.drew {w0 W : World} {g n c : Nat} {l : List Int} (h : SR w0 W g n c l) : SR w0 W.drew g n c l := h.below (Below.refl _ _).drew
theorem SR.drewN {w0 W : World} {g n c : Nat} {l : List Int} (h : SR w0 W g n c l) (m : Nat) : SR w0 (W.drewN m) g n c l := h.below (below_dn _ _)
theorem SR.at {w0 W : World} {g n c : Nat} {l : List Int} (h : SR w0 W g n c l) {i : Nat} (hi : i < n) : W.cell? ⟨g, i, none⟩ = some (nV (l.getD i 0)) := h.row.at (by rw [h.len]; exact hi)
theorem SR.fz {w0 W : World} {g n c : Nat} {l : List Int} (h : SR w0 W g n c l) (i : Nat) : W.frozen? ⟨g, i, none⟩ = false := h.row.fz i
theorem SR.swap {w0 W : World} {g n c i j : Nat} {l : List Int} (h : SR w0 W g n c l) (hi : i < n) (hj : j < n) {x y : Int} (hx : x = l.getD j 0) (hy : y = l.getD i 0) :
    SR w0 ((W.setCell ⟨g, i, none⟩ (nV x)).setCell ⟨g, j, none⟩ (nV y)) g n c (swapL l i j) := by
  subst hx hy
  have hl := h.len
  refine ⟨Chg.set (Chg.set h.chg (a := ⟨g, i, none⟩) rfl _) (a := ⟨g, j, none⟩) rfl _, ?_, by rw [swapL_len]; exact hl⟩
  obtain ⟨g', cap, f, he, hr, hf, hnc, hm⟩ := h.row.row rfl
  injection he with e1 e2 e3
  injection e1 with e1
  injection e1 with e1 _ _
  subst e1
  subst e3
  have := Nums.of_row (l := swapL l i j) ((hr.set i (nV (l.getD j 0))).set j (nV (l.getD i 0))) (fun p hp => by
    rw [swapL_len] at hp
    rw [swapL_at (by omega) (by omega)]
    by_cases h1 : p = j
    · rw [if_pos h1, if_pos h1]
    · rw [if_neg h1, if_neg h1]
      by_cases h2 : p = i
      · rw [if_pos h2, if_pos h2]
      · rw [if_neg h2, if_neg h2]
        exact hf p hp) (by rw [swapL_len]; exact hnc) hm
  rw [swapL_len, hl] at this
  exact this
/-- What the comparing function answers. -/
def SortC (K : FuncId) (cap : Array Value) (cf : Int → Int → Int) (g : Nat) (w0 : World) (l0 : List Int) : Prop :=
  ∀ x y W, x ∈ l0 → y ∈ l0 → Chg (fun k => k = g) w0 W → Calls Try.prog K (#[nV x, nV y] ++ cap) W fun e w' => e = .returned (nV (cf x y)) ∧ ∃ q, w' = W.drewN q
/-- The order that comes out: by key, of one key by place. -/
def Ord (key : Int → Int) (pos : Int → Nat) (x y : Int) : Prop := key x < key y ∨ (key x = key y ∧ pos x < pos y)
theorem Ord.trans {key : Int → Int} {pos : Int → Nat} {x y z : Int} (h : Ord key pos x y) (k : Ord key pos y z) : Ord key pos x z := by unfold Ord at *; omega
theorem Ord.asym {key : Int → Int} {pos : Int → Nat} (x y : Int) (h : Ord key pos x y) : ¬ Ord key pos y x := by unfold Ord at *; omega

set_option maxHeartbeats 4000000 in
theorem isort_any (K : FuncId) (cap : Array Value) (key : Int → Int) (pos : Int → Nat) (g n c a b : Nat) (w0 w : World) (l0 P X S : List Int) (hK : Enters K) (hC : SortC K cap (fun x y => cmpI (key x) (key y)) g w0 l0) (hn : n ≤ 100000)
    (hS : SR w0 w g n c (P ++ (X ++ S))) (hm : ∀ x ∈ P ++ (X ++ S), x ∈ l0) (ha : a = P.length) (hb : b = P.length + X.length) (hX : X.Pairwise fun x y => pos x < pos y) :
    Calls Try.prog 52 #[slV g n c, nV a, nV b, .func (.func K) #[] cap] w fun e w' => e = .returned (.tuple #[]) ∧ ∃ Z, Z.Perm X ∧ Z.Pairwise (Ord key pos) ∧ SR w0 w' g n c (P ++ (Z ++ S)) := by
  have hlen := hS.len
  have hlt : P.length + X.length + S.length = n := by rw [← hlen]; simp; omega
  have HC := Lib.hid hC
  have HM := Lib.hid hm
  have HX := Lib.hid hX
  have HS := Lib.hid hS
  have eg := hK
  unfold Enters at eg
  have hbn : b ≤ n := by omega
  have hab : a ≤ b := by omega
  have HA := Lib.hid ha
  have HBB := Lib.hid hb
  have HLT := Lib.hid hlt
  clear hC hm hX hS hK hlen ha hb hlt
  go_enter Try.func52, Try.ntmps52
  go_wp2_with fail
  go_loopw [8] (fun iv wr => ∃ (m : Nat) (Z : List Int), iv = .int .i64 ((a + m : Nat) : Int) ∧ 1 ≤ m ∧ m ≤ b - a + 1 ∧ Hid (Z.Perm (X.take m)) ∧ Hid (Z.Pairwise (Ord key pos)) ∧ Hid (SR w0 wr g n c (P ++ (Z ++ (X.drop m ++ S))))) (fun iv _ => b + 1 - (intOf iv).toNat)
  case atStart =>
    refine ⟨1, X.take 1, by go_num, Nat.le_refl _, by omega, List.Perm.refl _, ?_, ?_⟩
    · show (X.take 1).Pairwise _
      cases X with
      | nil => exact List.Pairwise.nil
      | cons x r => exact List.pairwise_singleton _ _
    · show SR w0 w g n c (P ++ (X.take 1 ++ (X.drop 1 ++ S)))
      rw [← List.append_assoc (X.take 1), List.take_append_drop]
      exact HS.out
  case round =>
    obtain ⟨m, Z, rfl, hm1, hmb, HZ, HO, HR⟩ := hrel
    by_cases hlt : a + m < b
    · have hmX : m < X.length := by have := HA.out; have := HBB.out; omega
      obtain ⟨x, hx⟩ : ∃ x, x = X[m] := ⟨_, rfl⟩
      have hdr : X.drop m = x :: X.drop (m + 1) := by rw [hx]; exact List.drop_eq_getElem_cons hmX
      have hzl : Z.length = m := by rw [HZ.length_eq, List.length_take]; omega
      have hzx : ∀ z ∈ Z, pos z < pos x := fun z hz => by
        obtain ⟨t, ht, e⟩ := List.getElem_of_mem (HZ.mem_iff.1 hz)
        rw [List.length_take] at ht
        rw [List.getElem_take] at e
        rw [← e, hx]
        exact (List.pairwise_iff_getElem.1 HX.out) t m (by omega) hmX (by omega)
      have hxm : ∀ y, y ∈ X → y ∈ l0 := fun y hy => HM.out y (List.mem_append_right _ (List.mem_append_left _ hy))
      have hxl : x ∈ l0 := hxm x (by rw [hx]; exact List.getElem_mem hmX)
      have hzm : ∀ z ∈ Z, z ∈ l0 := fun z hz => hxm z (List.mem_of_mem_take (HZ.mem_iff.1 hz))
      have HDR := Lib.hid hdr
      have HZL := Lib.hid hzl
      have HZX := Lib.hid hzx
      have HXL := Lib.hid hxl
      have HZM := Lib.hid hzm
      have HXX := Lib.hid hx
      have hR0 : Hid (SR w0 wr g n c (P ++ (Z ++ x :: (X.drop (m + 1) ++ S)))) := by
        have := HR
        unfold Hid at this ⊢
        rw [hdr] at this
        exact this
      clear hdr hzl hzx hxm hxl hzm hx HR
      go_wp2_with fail
      go_loopw [9] (fun jv wr2 => ∃ (q : Nat) (Z1 Z2 : List Int), jv = .int .i64 ((a + q : Nat) : Int) ∧ q ≤ m ∧ Hid (Z1.length = q) ∧ Hid (Z1 ++ Z2 = Z) ∧ Hid (∀ z ∈ Z2, Ord key pos x z) ∧ Hid (SR w0 wr2 g n c (P ++ (Z1 ++ x :: (Z2 ++ (X.drop (m + 1) ++ S)))))) (fun jv _ => (intOf jv).toNat)
      case atStart => exact ⟨m, Z, [], by go_num, Nat.le_refl _, HZL.out, List.append_nil _, fun z hz => absurd hz (by simp), hR0⟩
      case round =>
        clear hR0
        obtain ⟨q, Z1, Z2, rfl, hqm, HQ, HZZ, HO2, HR⟩ := hrel
        have hout : (∀ z ∈ Z1, Ord key pos z x) → ∃ (Z' : List Int), Hid (Z'.Perm (X.take (m + 1))) ∧ Hid (Z'.Pairwise (Ord key pos)) ∧ Hid (SR w0 wr g n c (P ++ (Z' ++ (X.drop (m + 1) ++ S)))) := fun h => by
          refine ⟨Z1 ++ x :: Z2, ?_, ?_, ?_⟩
          · show (Z1 ++ x :: Z2).Perm _
            have e1 : X.take (m + 1) = X.take m ++ [x] := by
              rw [List.take_succ_eq_append_getElem hmX, HXX.out]
            rw [e1]
            have h1 : (Z1 ++ x :: Z2).Perm (x :: (Z1 ++ Z2)) := List.perm_middle
            have h2 : (x :: (Z1 ++ Z2)).Perm ((Z1 ++ Z2) ++ [x]) := (List.perm_append_singleton x _).symm
            have h3 : (Z1 ++ Z2).Perm (X.take m) := by
              have := HZ
              unfold Hid at this HZZ
              rw [HZZ]; exact this
            exact h1.trans (h2.trans (h3.append_right [x]))
          · show (Z1 ++ x :: Z2).Pairwise _
            have h0 : (Z1 ++ Z2).Pairwise (Ord key pos) := by
              have := HO
              unfold Hid at this HZZ
              rw [HZZ]; exact this
            obtain ⟨p1, p2, p3⟩ := List.pairwise_append.1 h0
            refine List.pairwise_append.2 ⟨p1, List.pairwise_cons.2 ⟨HO2, p2⟩, fun u hu y hy => ?_⟩
            rcases List.mem_cons.1 hy with rfl | hy
            · exact h u hu
            · exact p3 u hu y hy
          · show SR w0 wr g n c _
            have := HR
            unfold Hid at this
            simpa [List.append_assoc] using this
        have HOUT := Lib.hid hout
        clear hout
        rcases Nat.eq_zero_or_pos q with h0 | hpos
        · subst h0
          have hz1 : Z1 = [] := List.length_eq_zero_iff.1 HQ
          obtain ⟨Z', hZ', hO', hR'⟩ := HOUT.out (by rw [hz1]; simp)
          have HZ' := Lib.hid hZ'
          have HO' := Lib.hid hO'
          have HR' := Lib.hid hR'
          clear hz1 hZ' hO' hR'
          have e1 : IntKind.i64.wrap ((a : Int) + (m : Int) + 1) = (a : Int) + (m : Int) + 1 := by rw [IntKind.wrap_i64]; omega
          go_wp2_with fail
          go_region
          go_wp2_with fail
          go_roundw
          case rel => exact ⟨m + 1, Z', by go_num, by omega, by omega, HZ'.out, HO'.out, by
            have := HR'.out
            unfold Hid at this ⊢
            exact this.drew⟩
          case measure => simp [intOf]; omega
        · obtain ⟨q', rfl⟩ : ∃ q', q = q' + 1 := ⟨q - 1, by omega⟩
          obtain ⟨Z1', z, rfl⟩ : ∃ Z1' z, Z1 = Z1' ++ [z] := by
            have h0 : Z1 ≠ [] := fun e => by rw [e] at HQ; cases HQ
            exact ⟨Z1.dropLast, Z1.getLast h0, (List.dropLast_concat_getLast h0).symm⟩
          have hq' : Z1'.length = q' := by
            have := HQ
            unfold Hid at this
            simpa using this
          have hz : z ∈ Z := by
            have := HZZ
            unfold Hid at this
            rw [← this]; simp
          have hpl : (P ++ (Z1' ++ [z])).length = a + q' + 1 := by have := HA.out; simp; omega
          have hrow : P ++ (Z1' ++ [z] ++ x :: (Z2 ++ (X.drop (m + 1) ++ S))) = (P ++ Z1') ++ z :: ([] ++ x :: (Z2 ++ (X.drop (m + 1) ++ S))) := by simp
          have hsr : SR w0 wr g n c ((P ++ Z1') ++ z :: ([] ++ x :: (Z2 ++ (X.drop (m + 1) ++ S)))) := by
            rw [← hrow]; exact HR
          have hpl1 : (P ++ Z1').length = a + q' := by have := HA.out; simp; omega
          have hqn : a + q' + 1 < n := by omega
          have kz := hsr.at (i := a + q') (by omega)
          rw [← hpl1, getD_mid, hpl1] at kz
          have kx := hsr.at (i := a + q' + 1) hqn
          have hgx : ((P ++ Z1') ++ z :: ([] ++ x :: (Z2 ++ (X.drop (m + 1) ++ S)))).getD (a + q' + 1) 0 = x := by
            have := getD_mid (P ++ Z1' ++ [z]) (Z2 ++ (X.drop (m + 1) ++ S)) x
            rw [show (P ++ Z1' ++ [z]).length = a + q' + 1 by simp at hpl ⊢; omega] at this
            simpa [List.append_assoc] using this
          rw [hgx] at kx
          have fz := hsr.fz (a + q')
          have fx := hsr.fz (a + q' + 1)
          have hcc : ∀ m', Calls Try.prog K (#[nV x, nV z] ++ cap) (wr.drewN m') fun e w' => e = .returned (nV (cmpI (key x) (key z))) ∧ ∃ q, w' = (wr.drewN m').drewN q := fun m' => HC.out x z (wr.drewN m') HXL.out (HZM.out z hz) (hsr.drewN m').chg
          obtain ⟨d, hd⟩ : ∃ d, d = cmpI (key x) (key z) := ⟨_, rfl⟩
          rw [← hd] at hcc
          have HCC := Lib.hid hcc
          have HD := Lib.hid hd
          have HPZ := Lib.hid (HZX.out z hz)
          have HSR := Lib.hid hsr
          have HROW := Lib.hid hrow
          have HPL1 := Lib.hid hpl1
          have HQ' := Lib.hid hq'
          obtain ⟨jn, hjn⟩ : ∃ jn, jn = a + q' := ⟨_, rfl⟩
          have ej : ((a + (q' + 1) : Nat) : Int) = (jn : Int) + 1 := by omega
          rw [ej]
          rw [← hjn] at kz kx fz fx hqn
          obtain ⟨j1, hj1⟩ : ∃ j1, j1 = jn + 1 := ⟨_, rfl⟩
          rw [← hj1] at kx fx
          have e0 : ((jn : Int) + 1).toNat = j1 := by omega
          have hwp : IntKind.i64.wrap (jn : Int) = (jn : Int) := by rw [IntKind.wrap_i64]; omega
          have jz : (jn : Int) + 1 < (n : Int) := by omega
          have jz1 : (jn : Int) < (n : Int) := by omega
          have jza : (a : Int) < (jn : Int) + 1 := by omega
          have p0 : (0 : Int) ≤ (jn : Int) + 1 := by omega
          have HJ := Lib.hid (And.intro hjn hj1)
          clear hcc hd hsr hrow hpl hpl1 hq' hz hgx hjn hj1
          clear ej
          by_cases hlv : d < 0
          · go_wp2_with fail
            go_quiet (first | (go_at_fn K; refine Calls.quiet_of (HCC.out _)))
            go_wp2_with fail
            have HSQ := Lib.hid (HSR.out.drewN nq)
            obtain ⟨w1, hw1⟩ : ∃ w1, w1 = wr.drewN nq := ⟨_, rfl⟩
            have kz : w1.cell? ⟨g, jn, none⟩ = some (nV z) := by rw [hw1]; exact kz
            have kx : w1.cell? ⟨g, j1, none⟩ = some (nV x) := by rw [hw1]; exact kx
            have fz : w1.frozen? ⟨g, jn, none⟩ = false := by rw [hw1]; exact fz
            have fx : w1.frozen? ⟨g, j1, none⟩ = false := by rw [hw1]; exact fx
            rw [← hw1] at HSQ ⊢
            have hjne : jn ≠ j1 := by have := HJ.out.2; omega
            have HJN := Lib.hid hjne
            clear hw1 hjne
            go_region
            have hsw : SR w0 ((w1.setCell ⟨g, j1, none⟩ (nV z)).setCell ⟨g, jn, none⟩ (nV x)).drew g n c (P ++ (Z1' ++ x :: ((z :: Z2) ++ (X.drop (m + 1) ++ S)))) := by
              have hl := HSQ.out.len
              have e1 : j1 = (P ++ Z1').length + 1 + ([] : List Int).length := by rw [HPL1.out, HJ.out.2, HJ.out.1]; rfl
              have e2 : jn = (P ++ Z1').length := by rw [HPL1.out, HJ.out.1]
              have h1 : z = ((P ++ Z1') ++ z :: ([] ++ x :: (Z2 ++ (X.drop (m + 1) ++ S)))).getD jn 0 := by rw [e2, getD_mid]
              have h2 : x = ((P ++ Z1') ++ z :: ([] ++ x :: (Z2 ++ (X.drop (m + 1) ++ S)))).getD j1 0 := by
                have h3 := HSQ.out.at (i := j1) (by omega)
                rw [kx] at h3
                injection h3 with h3
                injection h3 with _ h3
              have := (HSQ.out.swap (i := j1) (j := jn) (by omega) (by omega) h1 h2).drew
              rw [show swapL ((P ++ Z1') ++ z :: ([] ++ x :: (Z2 ++ (X.drop (m + 1) ++ S)))) j1 jn = (P ++ Z1') ++ x :: ([] ++ z :: (Z2 ++ (X.drop (m + 1) ++ S))) by rw [e1, e2]; exact swapL_mid' _ _ _ _ _] at this
              simpa [List.append_assoc] using this
            have HSW := Lib.hid hsw
            clear hsw kz kx fz fx
            go_wp2_with fail
            go_roundw
            case rel => exact ⟨q', Z1', z :: Z2, by rw [HJ.out.1], by omega, HQ'.out, by
              have := HZZ
              unfold Hid at this ⊢
              rw [← this]; simp, by
              intro y hy
              rcases List.mem_cons.1 hy with rfl | hy
              · exact .inl (cmpI_neg.1 (by rw [← HD.out]; exact hlv))
              · exact HO2 y hy, HSW.out⟩
            case measure => first | (simp [intOf]; done) | (simp [intOf]; omega)
          · obtain ⟨Z', hZ', hO', hR'⟩ := HOUT.out (by
              have hzx : Ord key pos z x := by
                have h1 : ¬ key x < key z := fun c => hlv (by rw [HD.out]; exact cmpI_neg.2 c)
                have h2 := HPZ.out
                unfold Ord
                omega
              have h0 : ((Z1' ++ [z]) ++ Z2).Pairwise (Ord key pos) := by
                have h1 := HO
                have h2 := HZZ
                unfold Hid at h1 h2
                rw [h2]; exact h1
              have h3 := (List.pairwise_append.1 (List.pairwise_append.1 h0).1).2.2
              intro u hu
              rcases List.mem_append.1 hu with hu | hu
              · exact (h3 u hu z (by simp)).trans hzx
              · obtain rfl : u = z := by simpa using hu
                exact hzx)
            have HZ' := Lib.hid hZ'
            have HO' := Lib.hid hO'
            have HR' := Lib.hid hR'
            clear hZ' hO' hR'
            have e1 : IntKind.i64.wrap ((a : Int) + (m : Int) + 1) = (a : Int) + (m : Int) + 1 := by rw [IntKind.wrap_i64]; omega
            go_wp2_with fail
            go_quiet (first | (go_at_fn K; refine Calls.quiet_of (HCC.out _)))
            go_wp2_with fail
            go_roundw
            case rel => exact ⟨m + 1, Z', by go_num, by omega, by omega, HZ'.out, HO'.out, by
              have := HR'.out
              unfold Hid at this ⊢
              exact this.drewN _⟩
            case measure => simp [intOf]; omega
    · have hmb' : a + m = b ∨ a + m = b + 1 := by omega
      have hT : X.take m = X := by
        rw [List.take_of_length_le]
        have := HA.out; have := HBB.out; omega
      have hDr : X.drop m = [] := by
        rw [List.drop_of_length_le]
        have := HA.out; have := HBB.out; omega
      have HF : Hid (∃ Z, Z.Perm X ∧ Z.Pairwise (Ord key pos) ∧ SR w0 wr g n c (P ++ (Z ++ S))) := by
        refine ⟨Z, ?_, HO, ?_⟩
        · have := HZ
          unfold Hid at this
          rw [hT] at this
          exact this
        · have := HR
          unfold Hid at this
          rw [hDr] at this
          exact this
      clear hT hDr HZ HO HR
      go_wp2_with fail
      go_end0
      exact ⟨rfl, HF⟩
end Go.Proofs.Ytagfhlnedaagbaa
