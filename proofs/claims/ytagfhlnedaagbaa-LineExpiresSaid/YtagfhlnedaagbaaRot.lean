/-
  slices.swapRangeCmpFunc and slices.rotateCmpFunc.
-/
import Derived.Test.YtagfhlnedaagbaaSrt
namespace Go.Proofs.Ytagfhlnedaagbaa
open Go.RowKit

set_option maxHeartbeats 4000000 in
theorem swapR_any (fv : Value) (g n c a b k : Nat) (w0 w : World) (A X B Y C : List Int) (hn : n ≤ 100000) (hS : SR w0 w g n c (A ++ (X ++ (B ++ (Y ++ C))))) (hX : X.length = k) (hY : Y.length = k) (ha : a = A.length) (hb : b = A.length + X.length + B.length) :
    Calls Try.prog 55 #[slV g n c, nV a, nV b, nV k, fv] w fun e w' => e = .returned (.tuple #[]) ∧ SR w0 w' g n c (A ++ (Y ++ (B ++ (X ++ C)))) := by
  have hlen := hS.len
  have hlt : A.length + k + B.length + k ≤ n := by rw [← hlen]; simp; omega
  have HX := Lib.hid hX
  have HY := Lib.hid hY
  have HA := Lib.hid ha
  have HB := Lib.hid hb
  have HS := Lib.hid hS
  have hbk : b + k ≤ n := by omega
  have hak : a + k ≤ b := by omega
  clear hS hX hY ha hb hlen hlt
  go_enter Try.func55, Try.ntmps55
  go_wp2_with fail
  go_loopw [10] (fun iv wr => ∃ i : Nat, iv = .int .i64 i ∧ i ≤ k ∧ Hid (SR w0 wr g n c (A ++ ((Y.take i ++ X.drop i) ++ (B ++ ((X.take i ++ Y.drop i) ++ C)))))) (fun iv _ => k - (intOf iv).toNat)
  case atStart => exact ⟨0, rfl, Nat.zero_le _, by unfold Hid; simpa using HS.out⟩
  case round =>
    obtain ⟨i, rfl, hik, HR⟩ := hrel
    by_cases hlt : i < k
    · have hiX : i < X.length := by rw [HX.out]; exact hlt
      have hiY : i < Y.length := by rw [HY.out]; exact hlt
      obtain ⟨x, hx⟩ : ∃ x, x = X[i] := ⟨_, rfl⟩
      obtain ⟨y, hy⟩ : ∃ y, y = Y[i] := ⟨_, rfl⟩
      have hdX : X.drop i = x :: X.drop (i + 1) := by rw [hx]; exact List.drop_eq_getElem_cons hiX
      have hdY : Y.drop i = y :: Y.drop (i + 1) := by rw [hy]; exact List.drop_eq_getElem_cons hiY
      have htX : X.take (i + 1) = X.take i ++ [x] := by rw [List.take_succ_eq_append_getElem hiX, hx]
      have htY : Y.take (i + 1) = Y.take i ++ [y] := by rw [List.take_succ_eq_append_getElem hiY, hy]
      have hrow : A ++ ((Y.take i ++ X.drop i) ++ (B ++ ((X.take i ++ Y.drop i) ++ C))) = (A ++ Y.take i) ++ x :: ((X.drop (i + 1) ++ (B ++ X.take i)) ++ y :: (Y.drop (i + 1) ++ C)) := by rw [hdX, hdY]; simp
      have hres : (A ++ Y.take i) ++ y :: ((X.drop (i + 1) ++ (B ++ X.take i)) ++ x :: (Y.drop (i + 1) ++ C)) = A ++ ((Y.take (i + 1) ++ X.drop (i + 1)) ++ (B ++ ((X.take (i + 1) ++ Y.drop (i + 1)) ++ C))) := by rw [htX, htY]; simp
      have hsr : SR w0 wr g n c ((A ++ Y.take i) ++ x :: ((X.drop (i + 1) ++ (B ++ X.take i)) ++ y :: (Y.drop (i + 1) ++ C))) := by
        have := HR
        unfold Hid at this
        rw [hrow] at this
        exact this
      have e1 : (A ++ Y.take i).length = a + i := by have := HA.out; simp; omega
      have e2 : (X.drop (i + 1) ++ (B ++ X.take i)).length = k - 1 + B.length := by have := HX.out; simp; omega
      have ebi : (A ++ Y.take i).length + 1 + (X.drop (i + 1) ++ (B ++ X.take i)).length = b + i := by rw [e1, e2]; have := HB.out; have := HX.out; have := HA.out; omega
      obtain ⟨ai, hai⟩ : ∃ ai, ai = a + i := ⟨_, rfl⟩
      obtain ⟨bi, hbi⟩ : ∃ bi, bi = b + i := ⟨_, rfl⟩
      have ka := hsr.at (i := ai) (by omega)
      rw [hai, ← e1, getD_mid, e1, ← hai] at ka
      have kb := hsr.at (i := bi) (by omega)
      have hgb : ((A ++ Y.take i) ++ x :: ((X.drop (i + 1) ++ (B ++ X.take i)) ++ y :: (Y.drop (i + 1) ++ C))).getD bi 0 = y := by
        have := getD_mid ((A ++ Y.take i) ++ x :: (X.drop (i + 1) ++ (B ++ X.take i))) (Y.drop (i + 1) ++ C) y
        rw [show ((A ++ Y.take i) ++ x :: (X.drop (i + 1) ++ (B ++ X.take i))).length = bi by rw [List.length_append, List.length_cons]; omega] at this
        simpa [List.append_assoc] using this
      rw [hgb] at kb
      have fa := hsr.fz ai
      have fb := hsr.fz bi
      have hsw : ∀ W, SR w0 W g n c ((A ++ Y.take i) ++ x :: ((X.drop (i + 1) ++ (B ++ X.take i)) ++ y :: (Y.drop (i + 1) ++ C))) → SR w0 ((W.setCell ⟨g, ai, none⟩ (nV y)).setCell ⟨g, bi, none⟩ (nV x)).drew g n c (A ++ ((Y.take (i + 1) ++ X.drop (i + 1)) ++ (B ++ ((X.take (i + 1) ++ Y.drop (i + 1)) ++ C)))) := fun W hW => by
        have := (hW.swap (i := ai) (j := bi) (by omega) (by omega) hgb.symm (show x = _ by rw [hai, ← e1, getD_mid])).drew
        rw [← hres, ← swapL_mid, ebi, e1, ← hai, ← hbi]
        exact this
      have HSW := Lib.hid (hsw wr hsr)
      have w1 : IntKind.i64.wrap ((a : Int) + (i : Int)) = (ai : Int) := by rw [IntKind.wrap_i64]; omega
      have w2 : IntKind.i64.wrap ((b : Int) + (i : Int)) = (bi : Int) := by rw [IntKind.wrap_i64]; omega
      have w3 : (a : Int) + (i : Int) = (ai : Int) := by omega
      have w4 : (b : Int) + (i : Int) = (bi : Int) := by omega
      have p1 : (0 : Int) ≤ (ai : Int) := Int.natCast_nonneg _
      have p2 : (0 : Int) ≤ (bi : Int) := Int.natCast_nonneg _
      have p3 : (ai : Int) < (n : Int) := by omega
      have p4 : (bi : Int) < (n : Int) := by omega
      have HNE := Lib.hid (show ai ≠ bi by omega)
      clear hdX hdY htX htY hrow hres hsr e1 e2 ebi hai hbi hgb hsw hx hy hiX hiY HR
      go_wp2_with fail
      go_region
      go_wp2_with fail
      go_roundw
      case rel => exact ⟨i + 1, by go_num, by omega, HSW.out⟩
      case measure => first | (simp [intOf]; done) | (simp [intOf]; omega)
    · obtain rfl : i = k := by omega
      have HF : Hid (SR w0 wr g n c (A ++ (Y ++ (B ++ (X ++ C))))) := by
        have := HR
        unfold Hid at this ⊢
        rw [List.take_of_length_le (by rw [HY.out]; exact Nat.le_refl _), List.drop_of_length_le (by rw [HX.out]; exact Nat.le_refl _), List.take_of_length_le (by rw [HX.out]; exact Nat.le_refl _), List.drop_of_length_le (by rw [HY.out]; exact Nat.le_refl _)] at this
        simpa using this
      clear HR
      go_wp2_with fail
      go_end0
      exact ⟨rfl, HF⟩
set_option maxHeartbeats 4000000 in
theorem rot_any (fv : Value) (g n c a m b : Nat) (w0 w : World) (P X Y S : List Int) (hn : n ≤ 100000) (hS : SR w0 w g n c (P ++ (X ++ (Y ++ S)))) (hX : 0 < X.length) (hY : 0 < Y.length) (ha : a = P.length) (hm : m = P.length + X.length) (hb : b = P.length + X.length + Y.length) :
    Calls Try.prog 54 #[slV g n c, nV a, nV m, nV b, fv] w fun e w' => e = .returned (.tuple #[]) ∧ SR w0 w' g n c (P ++ (Y ++ (X ++ S))) := by
  have hlen := hS.len
  have hbn : b ≤ n := by rw [← hlen]; simp; omega
  have HA := Lib.hid ha
  have HM := Lib.hid hm
  have HB := Lib.hid hb
  have HS := Lib.hid hS
  have hmb : m ≤ b := by omega
  have ham : a ≤ m := by omega
  have HXP := Lib.hid hX
  have HYP := Lib.hid hY
  have ew1 : IntKind.i64.wrap ((m : Int) - (a : Int)) = ((m - a : Nat) : Int) := by rw [IntKind.wrap_i64]; omega
  have ew2 : IntKind.i64.wrap ((b : Int) - (m : Int)) = ((b - m : Nat) : Int) := by rw [IntKind.wrap_i64]; omega
  clear hS hX hY ha hm hb hlen
  go_enter Try.func54, Try.ntmps54
  go_wp2_with fail
  go_loopw [10, 11] (fun iv jv wr => ∃ (i j : Nat) (L Xr Yr R : List Int), iv = .int .i64 i ∧ jv = .int .i64 j ∧ 0 < i ∧ 0 < j ∧ i ≤ m ∧ m + j ≤ n ∧ Hid (Xr.length = i) ∧ Hid (Yr.length = j) ∧ Hid (L.length + i = m) ∧ Hid (L ++ (Yr ++ (Xr ++ R)) = P ++ (Y ++ (X ++ S))) ∧ Hid (SR w0 wr g n c (L ++ (Xr ++ (Yr ++ R))))) (fun iv jv _ => (intOf iv).toNat + (intOf jv).toNat)
  case atStart =>
    have h1 := HA.out
    have h2 := HM.out
    have h3 := HB.out
    have h4 := HXP.out
    have h5 := HYP.out
    exact ⟨m - a, b - m, P, X, Y, S, rfl, rfl, by omega, by omega, by omega, by omega, (by unfold Hid; omega), (by unfold Hid; omega), (by unfold Hid; omega), rfl, HS.out⟩
  case round =>
    obtain ⟨i, j, L, Xr, Yr, R, rfl, rfl, hi0, hj0, him, hjn, HX, HY, HL, HT, HR⟩ := hrel
    have hXl : Xr.length = i := HX
    have hYl : Yr.length = j := HY
    have hLl : L.length + i = m := HL
    have hRS : SR w0 wr g n c (L ++ (Xr ++ (Yr ++ R))) := HR
    have hTT : L ++ (Yr ++ (Xr ++ R)) = P ++ (Y ++ (X ++ S)) := HT
    have e1 : IntKind.i64.wrap ((m : Int) - (i : Int)) = ((m - i : Nat) : Int) := by rw [IntKind.wrap_i64]; omega
    rcases Nat.lt_trichotomy i j with hij | hij | hij
    · -- i < j
      have hYs : Yr = Yr.take (j - i) ++ Yr.drop (j - i) := (List.take_append_drop _ _).symm
      have hy1 : (Yr.take (j - i)).length = j - i := by rw [List.length_take]; omega
      have hy2 : (Yr.drop (j - i)).length = i := by rw [List.length_drop]; omega
      have hs := swapR_any fv g n c (m - i) (m + j - i) i w0 wr L Xr (Yr.take (j - i)) (Yr.drop (j - i)) R hn (by rw [← List.append_assoc (Yr.take (j - i)), List.take_append_drop]; exact hRS) hXl hy2 (by omega) (by omega)
      have HSW := Lib.hid hs
      have HN := Lib.hid (show ∀ W, SR w0 W g n c (L ++ (Yr.drop (j - i) ++ (Yr.take (j - i) ++ (Xr ++ R)))) → ∃ (L' Xr' Yr' R' : List Int), Hid (Xr'.length = i) ∧ Hid (Yr'.length = j - i) ∧ Hid (L'.length + i = m) ∧ Hid (L' ++ (Yr' ++ (Xr' ++ R')) = P ++ (Y ++ (X ++ S))) ∧ Hid (SR w0 W g n c (L' ++ (Xr' ++ (Yr' ++ R')))) from fun W hW => ⟨L, Yr.drop (j - i), Yr.take (j - i), Xr ++ R, hy2, hy1, hLl, (by
        show L ++ (Yr.take (j - i) ++ (Yr.drop (j - i) ++ (Xr ++ R))) = _
        rw [← hTT, ← List.append_assoc (Yr.take (j - i)), List.take_append_drop]), hW⟩)
      have e2 : IntKind.i64.wrap ((m : Int) + (j : Int)) = (m : Int) + (j : Int) := by rw [IntKind.wrap_i64]; omega
      have e3 : IntKind.i64.wrap ((m : Int) + (j : Int) - (i : Int)) = ((m + j - i : Nat) : Int) := by rw [IntKind.wrap_i64]; omega
      have e4 : IntKind.i64.wrap ((j : Int) - (i : Int)) = ((j - i : Nat) : Int) := by rw [IntKind.wrap_i64]; omega
      have e5 : ¬ ((i : Int) = (j : Int)) := by omega
      have e6 : ¬ ((j : Int) < (i : Int)) := by omega
      clear hs hYs hy1 hy2 hRS hTT HX HY HL HT HR
      go_wp2_with fail
      refine HSW.out.mono ?_
      rintro e w1 ⟨rfl, hW⟩
      obtain ⟨L', Xr', Yr', R', q1, q2, q3, q4, q5⟩ := HN.out w1 hW
      clear hW
      go_wp2_with fail
      go_roundw
      case rel => exact ⟨i, j - i, L', Xr', Yr', R', rfl, rfl, hi0, by omega, him, by omega, q1, q2, q3, q4, q5⟩
      case measure => first | (simp [intOf]; done) | (simp [intOf]; omega)
    · -- i = j
      subst hij
      have hs := swapR_any fv g n c (m - i) m i w0 wr L Xr [] Yr R hn (by simpa using hRS) hXl hYl (by omega) (by simp; omega)
      have HSW := Lib.hid hs
      have HT2 := Lib.hid hTT
      clear hs hRS hTT HX HY HL HT HR
      go_wp2_with fail
      refine HSW.out.mono ?_
      rintro e w1 ⟨rfl, hW⟩
      have HF : Hid (SR w0 w1 g n c (P ++ (Y ++ (X ++ S)))) := by
        unfold Hid
        rw [← HT2.out]
        simpa using hW
      clear hW
      go_wp2_with fail
      go_end0
      exact ⟨rfl, HF⟩
    · -- j < i
      have hx1 : (Xr.take j).length = j := by rw [List.length_take]; omega
      have hx2 : (Xr.drop j).length = i - j := by rw [List.length_drop]; omega
      have hs := swapR_any fv g n c (m - i) m j w0 wr L (Xr.take j) (Xr.drop j) Yr R hn (by rw [← List.append_assoc (Xr.take j), List.take_append_drop]; exact hRS) hx1 hYl (by omega) (by omega)
      have HSW := Lib.hid hs
      have HN := Lib.hid (show ∀ W, SR w0 W g n c (L ++ (Yr ++ (Xr.drop j ++ (Xr.take j ++ R)))) → ∃ (L' Xr' Yr' R' : List Int), Hid (Xr'.length = i - j) ∧ Hid (Yr'.length = j) ∧ Hid (L'.length + (i - j) = m) ∧ Hid (L' ++ (Yr' ++ (Xr' ++ R')) = P ++ (Y ++ (X ++ S))) ∧ Hid (SR w0 W g n c (L' ++ (Xr' ++ (Yr' ++ R')))) from fun W hW => ⟨L ++ Yr, Xr.drop j, Xr.take j, R, hx2, hx1, (by show (L ++ Yr).length + (i - j) = m; rw [List.length_append]; omega), (by
        show (L ++ Yr) ++ (Xr.take j ++ (Xr.drop j ++ R)) = _
        rw [← hTT, ← List.append_assoc (Xr.take j), List.take_append_drop, List.append_assoc]), (by
        show SR w0 W g n c ((L ++ Yr) ++ (Xr.drop j ++ (Xr.take j ++ R)))
        rw [List.append_assoc]; exact hW)⟩)
      have e4 : IntKind.i64.wrap ((i : Int) - (j : Int)) = ((i - j : Nat) : Int) := by rw [IntKind.wrap_i64]; omega
      have e5 : ¬ ((i : Int) = (j : Int)) := by omega
      have e6 : (j : Int) < (i : Int) := by omega
      clear hs hx1 hx2 hRS hTT HX HY HL HT HR
      go_wp2_with fail
      refine HSW.out.mono ?_
      rintro e w1 ⟨rfl, hW⟩
      obtain ⟨L', Xr', Yr', R', q1, q2, q3, q4, q5⟩ := HN.out w1 hW
      clear hW
      go_wp2_with fail
      go_roundw
      case rel => exact ⟨i - j, j, L', Xr', Yr', R', rfl, rfl, by omega, hj0, by omega, hjn, q1, q2, q3, q4, q5⟩
      case measure => first | (simp [intOf]; done) | (simp [intOf]; omega)
end Go.Proofs.Ytagfhlnedaagbaa
