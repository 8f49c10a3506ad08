/-
  slices.symMergeCmpFunc: the two cases of one element.
-/
import Derived.Test.YtagfhlnedaagbaaRot
namespace Go.Proofs.Ytagfhlnedaagbaa
open Go.RowKit

theorem getD_gt (A B : List Int) (t : Nat) : (A ++ B).getD (A.length + t) 0 = B.getD t 0 := by
  rw [List.getD_eq_getElem?_getD, List.getElem?_append_right (by omega), show A.length + t - A.length = t by omega, ← List.getD_eq_getElem?_getD]
theorem getD_lt {A : List Int} (B : List Int) {t : Nat} (h : t < A.length) : (A ++ B).getD t 0 = A.getD t 0 := by
  rw [List.getD_eq_getElem?_getD, List.getElem?_append_left h, ← List.getD_eq_getElem?_getD]
theorem take_all {R : Int → Int → Prop} (tr : ∀ a b c, R a b → R b c → R a c) {Y : List Int} (hY : Y.Pairwise R) {x : Int} {t : Nat} (ht : t ≤ Y.length) (h : t = 0 ∨ R (Y.getD (t - 1) 0) x) : ∀ y ∈ Y.take t, R y x := by
  intro y hy
  obtain ⟨i, hi, rfl⟩ := List.getElem_of_mem hy
  rw [List.length_take] at hi
  rw [List.getElem_take]
  rcases h with h | h
  · omega
  · have h1 : t - 1 < Y.length := by omega
    rw [List.getD_eq_getElem?_getD, List.getElem?_eq_getElem h1, Option.getD_some] at h
    rcases Nat.lt_or_ge i (t - 1) with h2 | h2
    · exact tr _ _ _ ((List.pairwise_iff_getElem.1 hY) i (t - 1) (by omega) h1 h2) h
    · obtain rfl : i = t - 1 := by omega
      exact h
theorem drop_all {R : Int → Int → Prop} (tr : ∀ a b c, R a b → R b c → R a c) {Y : List Int} (hY : Y.Pairwise R) {x : Int} {t : Nat} (h : t = Y.length ∨ R x (Y.getD t 0)) : ∀ y ∈ Y.drop t, R x y := by
  intro y hy
  obtain ⟨i, hi, rfl⟩ := List.getElem_of_mem hy
  rw [List.length_drop] at hi
  rw [List.getElem_drop]
  rcases h with h | h
  · omega
  · have h1 : t < Y.length := by omega
    rw [List.getD_eq_getElem?_getD, List.getElem?_eq_getElem h1, Option.getD_some] at h
    rcases Nat.eq_zero_or_pos i with h2 | h2
    · subst h2; exact h
    · exact tr _ _ _ h ((List.pairwise_iff_getElem.1 hY) t (t + i) h1 (by omega) (by omega))
/-- What a merge leaves. -/
def MrgP (key : Int → Int) (pos : Int → Nat) (w0 : World) (g n c : Nat) (P X Y S : List Int) (e : Ending) (w' : World) : Prop := e = .returned (.tuple #[]) ∧ ∃ Z, Z.Perm (X ++ Y) ∧ Z.Pairwise (Ord key pos) ∧ SR w0 w' g n c (P ++ (Z ++ S))

set_option maxHeartbeats 8000000 in
set_option maxRecDepth 100000 in
theorem sym_one (K : FuncId) (cap : Array Value) (key : Int → Int) (pos : Int → Nat) (g n c a m b : Nat) (w0 w : World) (l0 P Y S : List Int) (x : Int) (hK : Enters K) (hC : SortC K cap (fun x y => cmpI (key x) (key y)) g w0 l0) (hn : n ≤ 100000)
    (hS : SR w0 w g n c (P ++ ([x] ++ (Y ++ S)))) (hx : x ∈ l0) (hy : ∀ y ∈ Y, y ∈ l0) (hY : Y.Pairwise (Ord key pos)) (hxy : ∀ y ∈ Y, pos x < pos y) (ha : a = P.length) (hm : m = P.length + 1) (hb : b = P.length + 1 + Y.length) :
    Calls Try.prog 53 #[slV g n c, nV a, nV m, nV b, .func (.func K) #[] cap] w fun e w' => MrgP key pos w0 g n c P [x] Y S e w' := by
  have hlen := hS.len
  have hbn : b ≤ n := by rw [← hlen]; simp; omega
  have HC := Lib.hid hC
  have HX := Lib.hid hx
  have HYL := Lib.hid hy
  have HYP := Lib.hid hY
  have HXY := Lib.hid hxy
  have HS := Lib.hid hS
  have HA := Lib.hid ha
  have HM := Lib.hid hm
  have HB := Lib.hid hb
  have eg := hK
  unfold Enters at eg
  have hmb : m ≤ b := by omega
  have hma : m = a + 1 := by omega
  have e1 : IntKind.i64.wrap ((m : Int) - (a : Int)) = 1 := by rw [IntKind.wrap_i64]; omega
  have HMA := Lib.hid hma
  have han : a < n := by omega
  clear hC hx hy hY hxy hS ha hm hb hlen hK hma
  go_enter Try.func53, Try.ntmps53
  go_wp2_with fail
  go_loopw [10, 11] (fun iv jv wr => ∃ i j : Nat, iv = .int .i64 i ∧ jv = .int .i64 j ∧ m ≤ i ∧ i ≤ j ∧ j ≤ b ∧ Hid (i = m ∨ Ord key pos (Y.getD (i - m - 1) 0) x) ∧ Hid (j = b ∨ Ord key pos x (Y.getD (j - m) 0)) ∧ Hid (SR w0 wr g n c (P ++ ([x] ++ (Y ++ S))))) (fun iv jv _ => (intOf jv).toNat - (intOf iv).toNat)
  case atStart => exact ⟨m, b, rfl, rfl, Nat.le_refl _, hmb, Nat.le_refl _, .inl rfl, .inl rfl, HS.out⟩
  case round =>
    obtain ⟨i, j, rfl, rfl, hmi, hij, hjb, H1, H2, HR⟩ := hrel
    by_cases hlt : i < j
    · obtain ⟨h, hh⟩ : ∃ h, h = (i + j) / 2 := ⟨_, rfl⟩
      have hh1 : i ≤ h := by omega
      have hh2 : h < j := by omega
      have e2 : ((i : Int) + (j : Int)) / 2 = (h : Int) := by omega
      have hsr : SR w0 wr g n c (P ++ ([x] ++ (Y ++ S))) := HR
      have hPx : (P ++ [x]).length = m := by have := HM.out; simp; omega
      have kx := hsr.at (i := a) (by omega)
      have hg1 : (P ++ ([x] ++ (Y ++ S))).getD a 0 = x := by rw [HA.out]; exact getD_mid _ _ _
      rw [hg1] at kx
      have ky := hsr.at (i := h) (by omega)
      have hyl : h - m < Y.length := by have := HB.out; have := HM.out; omega
      have hg2 : (P ++ ([x] ++ (Y ++ S))).getD h 0 = Y.getD (h - m) 0 := by
        rw [← List.append_assoc P, show h = (P ++ [x]).length + (h - m) by omega, getD_gt, getD_lt _ hyl]
        congr 1; omega
      rw [hg2] at ky
      obtain ⟨y, hyy⟩ : ∃ y, y = Y.getD (h - m) 0 := ⟨_, rfl⟩
      rw [← hyy] at ky
      have hym : y ∈ Y := by rw [hyy, List.getD_eq_getElem?_getD, List.getElem?_eq_getElem hyl]; exact List.getElem_mem hyl
      have hcc : ∀ m', Calls Try.prog K (#[nV y, nV x] ++ cap) (wr.drewN m') fun e w' => e = .returned (nV (cmpI (key y) (key x))) ∧ ∃ q, w' = (wr.drewN m').drewN q := fun m' => HC.out y x (wr.drewN m') (HYL.out y hym) HX.out (hsr.drewN m').chg
      obtain ⟨d, hd⟩ : ∃ d, d = cmpI (key y) (key x) := ⟨_, rfl⟩
      rw [← hd] at hcc
      have HCC := Lib.hid hcc
      have HD := Lib.hid hd
      have HYY := Lib.hid hyy
      have HPY := Lib.hid (HXY.out y hym)
      have HHH := Lib.hid hh
      have p0 : (0 : Int) ≤ (h : Int) := Int.natCast_nonneg _
      have p1 : (h : Int) < (n : Int) := by omega
      have p2 : (0 : Int) ≤ (a : Int) := Int.natCast_nonneg _
      have p3 : (a : Int) < (n : Int) := by omega
      clear hsr hPx hg1 hyl hg2 hyy hym hcc hd hh
      by_cases hlv : d < 0
      · go_wp2_with fail
        go_quiet (first | (go_at_fn K; refine Calls.quiet_of (HCC.out _)))
        go_wp2_with fail
        go_roundw
        case rel => exact ⟨h + 1, j, by go_num, rfl, by omega, by omega, by omega, (by
          refine .inr ?_
          rw [show h + 1 - m - 1 = h - m by omega, ← HYY.out]
          exact .inl (cmpI_neg.1 (by rw [← HD.out]; exact hlv))), H2, (by
          have := HR
          unfold Hid at this ⊢
          exact this.drewN _)⟩
        case measure => first | (simp [intOf]; done) | (simp [intOf]; omega)
      · go_wp2_with fail
        go_quiet (first | (go_at_fn K; refine Calls.quiet_of (HCC.out _)))
        go_wp2_with fail
        go_roundw
        case rel => exact ⟨i, h, rfl, by go_num, hmi, by omega, by omega, H1, (by
          refine .inr ?_
          rw [← HYY.out]
          have h1 : ¬ key y < key x := fun c => by have h3 := cmpI_neg.2 c; rw [← HD.out] at h3; omega
          have h2 := HPY.out
          unfold Ord
          omega), (by
          have := HR
          unfold Hid at this ⊢
          exact this.drewN _)⟩
        case measure => first | (simp [intOf]; done) | (simp [intOf]; omega)
    · obtain rfl : i = j := by omega
      obtain ⟨Y1, hY1⟩ : ∃ Y1, Y1 = Y.take (i - m) := ⟨_, rfl⟩
      obtain ⟨Y2, hY2⟩ : ∃ Y2, Y2 = Y.drop (i - m) := ⟨_, rfl⟩
      have hYs : Y = Y1 ++ Y2 := by rw [hY1, hY2, List.take_append_drop]
      have hl1 : Y1.length = i - m := by rw [hY1, List.length_take]; have := HB.out; have := HM.out; omega
      have tr : ∀ a b c, Ord key pos a b → Ord key pos b c → Ord key pos a c := fun _ _ _ => Ord.trans
      have ho1 : ∀ y ∈ Y1, Ord key pos y x := by
        rw [hY1]
        refine take_all tr HYP.out (by have := HB.out; have := HM.out; omega) ?_
        rcases H1 with h | h
        · exact .inl (by omega)
        · exact .inr (by rw [show i - m - 1 = i - m - 1 from rfl]; exact h)
      have ho2 : ∀ y ∈ Y2, Ord key pos x y := by
        rw [hY2]
        refine drop_all tr HYP.out ?_
        rcases H2 with h | h
        · exact .inl (by have := HB.out; have := HM.out; omega)
        · exact .inr h
      have hF : ∀ W, SR w0 W g n c (P ++ ((Y1 ++ x :: Y2) ++ S)) → MrgP key pos w0 g n c P [x] Y S (.returned (.tuple #[])) W := fun W hW => by
        refine ⟨rfl, Y1 ++ x :: Y2, ?_, ?_, hW⟩
        · rw [hYs]; exact List.perm_middle
        · have h0 := HYP.out
          rw [hYs] at h0
          obtain ⟨q1, q2, q3⟩ := List.pairwise_append.1 h0
          refine List.pairwise_append.2 ⟨q1, List.pairwise_cons.2 ⟨ho2, q2⟩, fun u hu v hv => ?_⟩
          rcases List.mem_cons.1 hv with rfl | hv
          · exact ho1 u hu
          · exact q3 u hu v hv
      have HF := Lib.hid hF
      have HL1 := Lib.hid hl1
      have hR0 : Hid (SR w0 wr g n c (P ++ ([x] ++ ((Y1 ++ Y2) ++ S)))) := by
        have := HR
        unfold Hid at this ⊢
        rw [← hYs]; exact this
      have e3 : IntKind.i64.wrap ((i : Int) - 1) = ((a + (i - m) : Nat) : Int) := by have := HMA.out; rw [IntKind.wrap_i64]; omega
      have hin : a + (i - m) < n := by have := HMA.out; omega
      clear hY1 hY2 hYs hl1 ho1 ho2 hF H1 H2 HR tr
      go_wp2_with fail
      go_loopw [13] (fun kv wr => ∃ q : Nat, kv = .int .i64 ((a + q : Nat) : Int) ∧ q ≤ i - m ∧ Hid (SR w0 wr g n c (P ++ ((Y1.take q ++ x :: Y1.drop q) ++ (Y2 ++ S))))) (fun kv _ => n - (intOf kv).toNat)
      case atStart => exact ⟨0, by go_num, Nat.zero_le _, by unfold Hid at hR0 ⊢; simpa using hR0⟩
      case round =>
        clear hR0
        obtain ⟨q, rfl, hqi, HR⟩ := hrel
        by_cases hlq : q < i - m
        · have hq1 : q < Y1.length := by rw [HL1.out]; exact hlq
          obtain ⟨y, hy⟩ : ∃ y, y = Y1[q] := ⟨_, rfl⟩
          have hd1 : Y1.drop q = y :: Y1.drop (q + 1) := by rw [hy]; exact List.drop_eq_getElem_cons hq1
          have ht1 : Y1.take (q + 1) = Y1.take q ++ [y] := by rw [List.take_succ_eq_append_getElem hq1, hy]
          have hrow : P ++ ((Y1.take q ++ x :: Y1.drop q) ++ (Y2 ++ S)) = (P ++ Y1.take q) ++ x :: ([] ++ y :: (Y1.drop (q + 1) ++ (Y2 ++ S))) := by rw [hd1]; simp
          have hres : (P ++ Y1.take q) ++ y :: ([] ++ x :: (Y1.drop (q + 1) ++ (Y2 ++ S))) = P ++ ((Y1.take (q + 1) ++ x :: Y1.drop (q + 1)) ++ (Y2 ++ S)) := by rw [ht1]; simp
          have hsr : SR w0 wr g n c ((P ++ Y1.take q) ++ x :: ([] ++ y :: (Y1.drop (q + 1) ++ (Y2 ++ S)))) := by
            have := HR
            unfold Hid at this
            rw [hrow] at this
            exact this
          have el : (P ++ Y1.take q).length = a + q := by have := HA.out; simp; omega
          obtain ⟨k0, hk0⟩ : ∃ k0, k0 = a + q := ⟨_, rfl⟩
          obtain ⟨k1, hk1⟩ : ∃ k1, k1 = k0 + 1 := ⟨_, rfl⟩
          have kx := hsr.at (i := k0) (by omega)
          rw [hk0, ← el, getD_mid, el, ← hk0] at kx
          have ky := hsr.at (i := k1) (by omega)
          have hgy : ((P ++ Y1.take q) ++ x :: ([] ++ y :: (Y1.drop (q + 1) ++ (Y2 ++ S)))).getD k1 0 = y := by
            have := getD_mid ((P ++ Y1.take q) ++ [x]) (Y1.drop (q + 1) ++ (Y2 ++ S)) y
            rw [show ((P ++ Y1.take q) ++ [x]).length = k1 by rw [List.length_append, el]; simp; omega] at this
            simpa [List.append_assoc] using this
          rw [hgy] at ky
          have fx := hsr.fz k0
          have fy := hsr.fz k1
          have hsw : SR w0 ((wr.setCell ⟨g, k0, none⟩ (nV y)).setCell ⟨g, k1, none⟩ (nV x)).drew g n c (P ++ ((Y1.take (q + 1) ++ x :: Y1.drop (q + 1)) ++ (Y2 ++ S))) := by
            have := (hsr.swap (i := k0) (j := k1) (by omega) (by omega) hgy.symm (show x = _ by rw [hk0, ← el, getD_mid])).drew
            rw [← hres, ← swapL_mid, el]
            rw [show a + q + 1 + ([] : List Int).length = k1 by simp; omega, ← hk0]
            exact this
          have HSW := Lib.hid hsw
          have ej : ((a + q : Nat) : Int) = (k0 : Int) := by omega
          rw [ej]
          have w1 : IntKind.i64.wrap ((k0 : Int) + 1) = (k1 : Int) := by rw [IntKind.wrap_i64]; omega
          have w2 : (k0 : Int) + 1 = (k1 : Int) := by omega
          have p1 : (0 : Int) ≤ (k0 : Int) := Int.natCast_nonneg _
          have p2 : (0 : Int) ≤ (k1 : Int) := Int.natCast_nonneg _
          have p3 : (k0 : Int) < (n : Int) := by omega
          have p4 : (k1 : Int) < (n : Int) := by omega
          have p5 : (k0 : Int) < ((a + (i - m) : Nat) : Int) := by omega
          have HKK := Lib.hid (And.intro hk0 hk1)
          have HNE := Lib.hid (show k0 ≠ k1 by omega)
          clear hy hd1 ht1 hrow hres hsr el hgy hsw hk0 hk1 ej HR hq1
          go_wp2_with fail
          go_region
          go_wp2_with fail
          go_roundw
          case rel => exact ⟨q + 1, by rw [show ((a + (q + 1) : Nat) : Int) = (k1 : Int) by have := HKK.out; omega], by omega, HSW.out⟩
          case measure => have := HKK.out; first | (simp [intOf]; done) | (simp [intOf]; omega)
        · obtain rfl : q = i - m := by omega
          have hFF := HF.out wr (by
            have := HR
            unfold Hid at this
            rw [← HL1.out] at this
            simpa [List.append_assoc] using this)
          have HFF := Lib.hid hFF
          clear hFF HR
          go_wp2_with fail
          (try simp only [Exit.inBlock, Exit.then])
          refine bodyPost_ret (results_none rfl _ _ _) rfl ?_
          exact HFF.out
end Go.Proofs.Ytagfhlnedaagbaa
