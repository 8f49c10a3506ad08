/-
  slices.symMergeCmpFunc: one element on the right; the whole.
-/
import Derived.Test.YtagfhlnedaagbaaSym
namespace Go.Proofs.Ytagfhlnedaagbaa
open Go.RowKit

set_option maxHeartbeats 8000000 in
set_option maxRecDepth 100000 in
theorem sym_last (K : FuncId) (cap : Array Value) (key : Int → Int) (pos : Int → Nat) (g n c a m b : Nat) (w0 w : World) (l0 P X S : List Int) (y : Int) (hK : Enters K) (hC : SortC K cap (fun x y => cmpI (key x) (key y)) g w0 l0) (hn : n ≤ 100000)
    (hS : SR w0 w g n c (P ++ (X ++ ([y] ++ S)))) (hy : y ∈ l0) (hx : ∀ x ∈ X, x ∈ l0) (hX : X.Pairwise (Ord key pos)) (hxy : ∀ x ∈ X, pos x < pos y) (hX2 : 2 ≤ X.length) (ha : a = P.length) (hm : m = P.length + X.length) (hb : b = P.length + X.length + 1) :
    Calls Try.prog 53 #[slV g n c, nV a, nV m, nV b, .func (.func K) #[] cap] w fun e w' => MrgP key pos w0 g n c P X [y] S e w' := by
  have hlen := hS.len
  have hbn : b ≤ n := by rw [← hlen]; simp; omega
  have HC := Lib.hid hC
  have HY := Lib.hid hy
  have HXL := Lib.hid hx
  have HXP := Lib.hid hX
  have HXY := Lib.hid hxy
  have HS := Lib.hid hS
  have HA := Lib.hid ha
  have HM := Lib.hid hm
  have HB := Lib.hid hb
  have eg := hK
  unfold Enters at eg
  have ham : a ≤ m := by omega
  have hmn : m < n := by omega
  have hne : ¬ ((m : Int) - (a : Int) = 1) := by omega
  have e1 : IntKind.i64.wrap ((m : Int) - (a : Int)) = (m : Int) - (a : Int) := by rw [IntKind.wrap_i64]; omega
  have e2 : IntKind.i64.wrap ((b : Int) - (m : Int)) = 1 := by rw [IntKind.wrap_i64]; omega
  have e9 : (((m : Int) - (a : Int)) == 1) = false := beq_eq_false_iff_ne.2 hne
  have HBM := Lib.hid (show b = m + 1 by omega)
  clear hC hx hy hX hxy hS ha hm hb hlen hK hX2
  go_enter Try.func53, Try.ntmps53
  go_wp2_with fail
  go_loopw [14, 15] (fun iv jv wr => ∃ i j : Nat, iv = .int .i64 i ∧ jv = .int .i64 j ∧ a ≤ i ∧ i ≤ j ∧ j ≤ m ∧ Hid (i = a ∨ Ord key pos (X.getD (i - a - 1) 0) y) ∧ Hid (j = m ∨ Ord key pos y (X.getD (j - a) 0)) ∧ Hid (SR w0 wr g n c (P ++ (X ++ ([y] ++ S))))) (fun iv jv _ => (intOf jv).toNat - (intOf iv).toNat)
  case atStart => exact ⟨a, m, rfl, rfl, Nat.le_refl _, ham, Nat.le_refl _, .inl rfl, .inl rfl, HS.out⟩
  case round =>
    obtain ⟨i, j, rfl, rfl, hai, hij, hjm, H1, H2, HR⟩ := hrel
    by_cases hlt : i < j
    · obtain ⟨h, hh⟩ : ∃ h, h = (i + j) / 2 := ⟨_, rfl⟩
      have hh1 : i ≤ h := by omega
      have hh2 : h < j := by omega
      have e3 : ((i : Int) + (j : Int)) / 2 = (h : Int) := by omega
      have hsr : SR w0 wr g n c (P ++ (X ++ ([y] ++ S))) := HR
      have hPX : (P ++ X).length = m := by have := HM.out; simp; omega
      have ky := hsr.at (i := m) hmn
      have hg1 : (P ++ (X ++ ([y] ++ S))).getD m 0 = y := by rw [← List.append_assoc, ← hPX]; exact getD_mid _ _ _
      rw [hg1] at ky
      have kx := hsr.at (i := h) (by omega)
      have hxl : h - a < X.length := by have := HM.out; have := HA.out; omega
      have hg2 : (P ++ (X ++ ([y] ++ S))).getD h 0 = X.getD (h - a) 0 := by
        have := getD_gt P (X ++ ([y] ++ S)) (h - a)
        rw [show P.length + (h - a) = h by have := HA.out; omega, getD_lt _ hxl] at this
        exact this
      rw [hg2] at kx
      obtain ⟨x, hxx⟩ : ∃ x, x = X.getD (h - a) 0 := ⟨_, rfl⟩
      rw [← hxx] at kx
      have hxm : x ∈ X := by rw [hxx, List.getD_eq_getElem?_getD, List.getElem?_eq_getElem hxl]; exact List.getElem_mem hxl
      have hcc : ∀ m', Calls Try.prog K (#[nV y, nV x] ++ cap) (wr.drewN m') fun e w' => e = .returned (nV (cmpI (key y) (key x))) ∧ ∃ q, w' = (wr.drewN m').drewN q := fun m' => HC.out y x (wr.drewN m') HY.out (HXL.out x hxm) (hsr.drewN m').chg
      obtain ⟨d, hd⟩ : ∃ d, d = cmpI (key y) (key x) := ⟨_, rfl⟩
      rw [← hd] at hcc
      have HCC := Lib.hid hcc
      have HD := Lib.hid hd
      have HXX := Lib.hid hxx
      have HPX := Lib.hid (HXY.out x hxm)
      have HHH := Lib.hid hh
      have p0 : (0 : Int) ≤ (h : Int) := Int.natCast_nonneg _
      have p1 : (h : Int) < (n : Int) := by omega
      have p2 : (0 : Int) ≤ (m : Int) := Int.natCast_nonneg _
      have p3 : (m : Int) < (n : Int) := by omega
      clear hsr hPX hg1 hxl hg2 hxx hxm hcc hd hh
      by_cases hlv : d < 0
      · have hd0 : decide (d < 0) = true := decide_eq_true hlv
        go_wp2_with fail
        go_quiet (first | (go_at_fn K; refine Calls.quiet_of (HCC.out _)))
        go_wp2_with fail
        go_roundw
        case rel => exact ⟨i, h, rfl, by go_num, hai, by omega, by omega, H1, (by
          refine .inr ?_
          rw [← HXX.out]
          exact .inl (cmpI_neg.1 (by rw [← HD.out]; exact hlv))), (by
          have := HR
          unfold Hid at this ⊢
          exact this.drewN _)⟩
        case measure => first | (simp [intOf]; done) | (simp [intOf]; omega)
      · have hd0 : decide (d < 0) = false := decide_eq_false hlv
        go_wp2_with fail
        go_quiet (first | (go_at_fn K; refine Calls.quiet_of (HCC.out _)))
        go_wp2_with fail
        go_roundw
        case rel => exact ⟨h + 1, j, by go_num, rfl, by omega, by omega, by omega, (by
          refine .inr ?_
          rw [show h + 1 - a - 1 = h - a by omega, ← HXX.out]
          have h1 : ¬ key y < key x := fun c => by have h3 := cmpI_neg.2 c; rw [← HD.out] at h3; omega
          have h2 := HPX.out
          unfold Ord
          omega), H2, (by
          have := HR
          unfold Hid at this ⊢
          exact this.drewN _)⟩
        case measure => first | (simp [intOf]; done) | (simp [intOf]; omega)
    · obtain rfl : i = j := by omega
      obtain ⟨X1, hX1⟩ : ∃ X1, X1 = X.take (i - a) := ⟨_, rfl⟩
      obtain ⟨X2, hX2⟩ : ∃ X2, X2 = X.drop (i - a) := ⟨_, rfl⟩
      have hXs : X = X1 ++ X2 := by rw [hX1, hX2, List.take_append_drop]
      have hl1 : X1.length = i - a := by rw [hX1, List.length_take]; have := HM.out; have := HA.out; omega
      have hl2 : X2.length = m - i := by rw [hX2, List.length_drop]; have := HM.out; have := HA.out; omega
      have tr : ∀ a b c, Ord key pos a b → Ord key pos b c → Ord key pos a c := fun _ _ _ => Ord.trans
      have ho1 : ∀ x ∈ X1, Ord key pos x y := by
        rw [hX1]
        refine take_all tr HXP.out (by have := HM.out; have := HA.out; omega) ?_
        rcases H1 with h | h
        · exact .inl (by omega)
        · exact .inr h
      have ho2 : ∀ x ∈ X2, Ord key pos y x := by
        rw [hX2]
        refine drop_all tr HXP.out ?_
        rcases H2 with h | h
        · exact .inl (by have := HM.out; have := HA.out; omega)
        · exact .inr h
      have hF : ∀ W, SR w0 W g n c (P ++ ((X1 ++ y :: X2) ++ S)) → MrgP key pos w0 g n c P X [y] S (.returned (.tuple #[])) W := fun W hW => by
        refine ⟨rfl, X1 ++ y :: X2, ?_, ?_, hW⟩
        · rw [hXs]; exact List.perm_middle.trans (List.perm_append_singleton y _).symm
        · have h0 := HXP.out
          rw [hXs] at h0
          obtain ⟨q1, q2, q3⟩ := List.pairwise_append.1 h0
          refine List.pairwise_append.2 ⟨q1, List.pairwise_cons.2 ⟨ho2, q2⟩, fun u hu v hv => ?_⟩
          rcases List.mem_cons.1 hv with rfl | hv
          · exact ho1 u hu
          · exact q3 u hu v hv
      have HF := Lib.hid hF
      have HL1 := Lib.hid hl1
      have HL2 := Lib.hid hl2
      have hR0 : Hid (SR w0 wr g n c (P ++ ((X1 ++ X2) ++ ([y] ++ S)))) := by
        have := HR
        unfold Hid at this ⊢
        rw [← hXs]; exact this
      clear hX1 hX2 hXs hl1 hl2 ho1 ho2 hF H1 H2 HR tr
      go_wp2_with fail
      go_loopw [17] (fun kv wr => ∃ r : Nat, kv = .int .i64 ((i + r : Nat) : Int) ∧ r ≤ m - i ∧ Hid (SR w0 wr g n c (P ++ (X1 ++ (X2.take r ++ y :: (X2.drop r ++ S)))))) (fun kv _ => (intOf kv).toNat)
      case atStart => exact ⟨m - i, by rw [show i + (m - i) = m by omega], Nat.le_refl _, by
        unfold Hid at hR0 ⊢
        rw [List.take_of_length_le (by rw [HL2.out]; exact Nat.le_refl _), List.drop_of_length_le (by rw [HL2.out]; exact Nat.le_refl _)]
        simpa [List.append_assoc] using hR0⟩
      case round =>
        clear hR0
        obtain ⟨r, rfl, hri, HR⟩ := hrel
        rcases Nat.eq_zero_or_pos r with hr0 | hr0
        · subst hr0
          have hFF := HF.out wr (by
            have := HR
            unfold Hid at this
            simpa [List.append_assoc] using this)
          have HFF := Lib.hid hFF
          clear hFF HR
          go_wp2_with fail
          (try simp only [Exit.inBlock, Exit.then])
          refine bodyPost_ret (results_none rfl _ _ _) rfl ?_
          exact HFF.out
        · obtain ⟨q, rfl⟩ : ∃ q, r = q + 1 := ⟨r - 1, by omega⟩
          have hq1 : q < X2.length := by rw [HL2.out]; omega
          obtain ⟨z, hz⟩ : ∃ z, z = X2[q] := ⟨_, rfl⟩
          have hd1 : X2.drop q = z :: X2.drop (q + 1) := by rw [hz]; exact List.drop_eq_getElem_cons hq1
          have ht1 : X2.take (q + 1) = X2.take q ++ [z] := by rw [List.take_succ_eq_append_getElem hq1, hz]
          have hrow : P ++ (X1 ++ (X2.take (q + 1) ++ y :: (X2.drop (q + 1) ++ S))) = (P ++ (X1 ++ X2.take q)) ++ z :: ([] ++ y :: (X2.drop (q + 1) ++ S)) := by rw [ht1]; simp
          have hres : (P ++ (X1 ++ X2.take q)) ++ y :: ([] ++ z :: (X2.drop (q + 1) ++ S)) = P ++ (X1 ++ (X2.take q ++ y :: (X2.drop q ++ S))) := by rw [hd1]; simp
          have hsr : SR w0 wr g n c ((P ++ (X1 ++ X2.take q)) ++ z :: ([] ++ y :: (X2.drop (q + 1) ++ S))) := by
            have := HR
            unfold Hid at this
            rw [hrow] at this
            exact this
          have el : (P ++ (X1 ++ X2.take q)).length = i + q := by have := HA.out; have := HL1.out; have := HL2.out; simp; omega
          obtain ⟨k0, hk0⟩ : ∃ k0, k0 = i + q := ⟨_, rfl⟩
          obtain ⟨k1, hk1⟩ : ∃ k1, k1 = k0 + 1 := ⟨_, rfl⟩
          have kx := hsr.at (i := k0) (by omega)
          rw [hk0, ← el, getD_mid, el, ← hk0] at kx
          have ky := hsr.at (i := k1) (by omega)
          have hgy : ((P ++ (X1 ++ X2.take q)) ++ z :: ([] ++ y :: (X2.drop (q + 1) ++ S))).getD k1 0 = y := by
            have := getD_mid ((P ++ (X1 ++ X2.take q)) ++ [z]) (X2.drop (q + 1) ++ S) y
            rw [show ((P ++ (X1 ++ X2.take q)) ++ [z]).length = k1 by rw [List.length_append, el]; simp; omega] at this
            simpa [List.append_assoc] using this
          rw [hgy] at ky
          have fx := hsr.fz k0
          have fy := hsr.fz k1
          have hsw : SR w0 ((wr.setCell ⟨g, k1, none⟩ (nV z)).setCell ⟨g, k0, none⟩ (nV y)).drew g n c (P ++ (X1 ++ (X2.take q ++ y :: (X2.drop q ++ S)))) := by
            have := (hsr.swap (i := k1) (j := k0) (by omega) (by omega) (show z = _ by rw [hk0, ← el, getD_mid]) hgy.symm).drew
            rw [← hres, ← swapL_mid', el]
            rw [show i + q + 1 + ([] : List Int).length = k1 by simp; omega, ← hk0]
            exact this
          have HSW := Lib.hid hsw
          have ej : ((i + (q + 1) : Nat) : Int) = (k0 : Int) + 1 := by omega
          rw [ej]
          have w1 : IntKind.i64.wrap (k0 : Int) = (k0 : Int) := by rw [IntKind.wrap_i64]; omega
          have w2 : ((k0 : Int) + 1).toNat = k1 := by omega
          have p1 : (0 : Int) ≤ (k0 : Int) := Int.natCast_nonneg _
          have p2 : (0 : Int) ≤ (k0 : Int) + 1 := by omega
          have p3 : (k0 : Int) < (n : Int) := by omega
          have p4 : (k0 : Int) + 1 < (n : Int) := by omega
          have p5 : (i : Int) < (k0 : Int) + 1 := by omega
          have HKK := Lib.hid (And.intro hk0 hk1)
          have HNE := Lib.hid (show k0 ≠ k1 by omega)
          clear hz hd1 ht1 hrow hres hsr el hgy hsw hk0 hk1 ej HR hq1
          go_wp2_with fail
          go_region
          go_wp2_with fail
          go_roundw
          case rel => exact ⟨q, by rw [show ((i + q : Nat) : Int) = (k0 : Int) by have := HKK.out; omega], by omega, HSW.out⟩
          case measure => first | (simp [intOf]; done) | (simp [intOf]; omega)
end Go.Proofs.Ytagfhlnedaagbaa
