/-
  slices.symMergeCmpFunc: the whole, by recursion.
-/
import Derived.Test.YtagfhlnedaagbaaSymB
namespace Go.Proofs.Ytagfhlnedaagbaa
open Go.RowKit

/-- Two sorted halves that are in order are one sorted list. -/
theorem halves {R : Int → Int → Prop} {X1 X2 Y1 Y2 Z1 Z2 : List Int} (hX : (X1 ++ X2).Pairwise R) (hY : (Y1 ++ Y2).Pairwise R) (c1 : ∀ x ∈ X1, ∀ y ∈ Y2, R x y) (c2 : ∀ y ∈ Y1, ∀ x ∈ X2, R y x)
    (h1 : Z1.Perm (X1 ++ Y1)) (o1 : Z1.Pairwise R) (h2 : Z2.Perm (X2 ++ Y2)) (o2 : Z2.Pairwise R) : (Z1 ++ Z2).Perm ((X1 ++ X2) ++ (Y1 ++ Y2)) ∧ (Z1 ++ Z2).Pairwise R := by
  refine ⟨?_, List.pairwise_append.2 ⟨o1, o2, fun a ha b hb => ?_⟩⟩
  · refine (h1.append h2).trans ?_
    rw [List.append_assoc, List.append_assoc]
    refine List.Perm.append_left X1 ?_
    rw [← List.append_assoc, ← List.append_assoc]
    exact (List.perm_append_comm).append_right Y2
  · have q1 := (List.pairwise_append.1 hX).2.2
    have q2 := (List.pairwise_append.1 hY).2.2
    rcases List.mem_append.1 (h1.mem_iff.1 ha) with ha | ha
    · rcases List.mem_append.1 (h2.mem_iff.1 hb) with hb | hb
      · exact q1 a ha b hb
      · exact c1 a ha b hb
    · rcases List.mem_append.1 (h2.mem_iff.1 hb) with hb | hb
      · exact c2 a ha b hb
      · exact q2 a ha b hb
theorem cross {R : Int → Int → Prop} (tr : ∀ a b c, R a b → R b c → R a c) {X Y : List Int} (hX : X.Pairwise R) (hY : Y.Pairwise R) {s t : Nat} (hs : s ≤ X.length) (h : s = 0 ∨ t = Y.length ∨ R (X.getD (s - 1) 0) (Y.getD t 0)) : ∀ x ∈ X.take s, ∀ y ∈ Y.drop t, R x y := by
  intro x hx y hy
  rcases h with h | h | h
  · subst h; simp at hx
  · subst h; simp at hy
  · have h1 : t < Y.length := by
      obtain ⟨i, hi, _⟩ := List.getElem_of_mem hy
      rw [List.length_drop] at hi; omega
    refine drop_all tr hY (x := x) (.inr ?_) y hy
    exact take_all tr hX hs (x := Y.getD t 0) (.inr h) x hx

set_option maxHeartbeats 16000000 in
set_option maxRecDepth 100000 in
theorem sym_rec (K : FuncId) (cap : Array Value) (key : Int → Int) (pos : Int → Nat) (g n c : Nat) (w0 : World) (l0 : List Int) (hK : Enters K) (hC : SortC K cap (fun x y => cmpI (key x) (key y)) g w0 l0) (hn : n ≤ 100000) (N : Nat)
    (IH : ∀ (a m b : Nat) (w : World) (P X Y S : List Int), X.length + Y.length < N → 0 < X.length → 0 < Y.length → SR w0 w g n c (P ++ (X ++ (Y ++ S))) → (∀ x ∈ X, x ∈ l0) → (∀ y ∈ Y, y ∈ l0) → X.Pairwise (Ord key pos) → Y.Pairwise (Ord key pos) → (∀ x ∈ X, ∀ y ∈ Y, pos x < pos y) → a = P.length → m = P.length + X.length → b = P.length + X.length + Y.length →
      Calls Try.prog 53 #[slV g n c, nV a, nV m, nV b, .func (.func K) #[] cap] w fun e w' => MrgP key pos w0 g n c P X Y S e w')
    (a m b : Nat) (w : World) (P X Y S : List Int) (hN : X.length + Y.length = N) (hX2 : 2 ≤ X.length) (hY2 : 2 ≤ Y.length) (hS : SR w0 w g n c (P ++ (X ++ (Y ++ S)))) (hx : ∀ x ∈ X, x ∈ l0) (hy : ∀ y ∈ Y, y ∈ l0) (hX : X.Pairwise (Ord key pos)) (hY : Y.Pairwise (Ord key pos)) (hxy : ∀ x ∈ X, ∀ y ∈ Y, pos x < pos y)
    (ha : a = P.length) (hm : m = P.length + X.length) (hb : b = P.length + X.length + Y.length) :
    Calls Try.prog 53 #[slV g n c, nV a, nV m, nV b, .func (.func K) #[] cap] w fun e w' => MrgP key pos w0 g n c P X Y S e w' := by
  have hlen := hS.len
  have hbn : b ≤ n := by rw [← hlen]; simp; omega
  have HC := Lib.hid hC
  have HXL := Lib.hid hx
  have HYL := Lib.hid hy
  have HXP := Lib.hid hX
  have HYP := Lib.hid hY
  have HXY := Lib.hid hxy
  have HS := Lib.hid hS
  have HA := Lib.hid ha
  have HM := Lib.hid hm
  have HB := Lib.hid hb
  have HIH := Lib.hid IH
  have HN := Lib.hid hN
  have eg := hK
  unfold Enters at eg
  have ham : a + 2 ≤ m := by omega
  have hmb : m + 2 ≤ b := by omega
  have hne : ¬ ((m : Int) - (a : Int) = 1) := by omega
  have hne2 : ¬ ((b : Int) - (m : Int) = 1) := by omega
  have e1 : IntKind.i64.wrap ((m : Int) - (a : Int)) = (m : Int) - (a : Int) := by rw [IntKind.wrap_i64]; omega
  have e2 : IntKind.i64.wrap ((b : Int) - (m : Int)) = (b : Int) - (m : Int) := by rw [IntKind.wrap_i64]; omega
  have e8 : (((b : Int) - (m : Int)) == 1) = false := beq_eq_false_iff_ne.2 hne2
  have e9 : (((m : Int) - (a : Int)) == 1) = false := beq_eq_false_iff_ne.2 hne
  obtain ⟨mid, hmid⟩ : ∃ mid, mid = (a + b) / 2 := ⟨_, rfl⟩
  have e3 : ((a : Int) + (b : Int)) / 2 = (mid : Int) := by omega
  have e4 : IntKind.i64.wrap ((mid : Int) + (m : Int)) = (mid : Int) + (m : Int) := by rw [IntKind.wrap_i64]; omega
  have e5 : IntKind.i64.wrap ((mid : Int) + (m : Int) - 1) = ((mid + m - 1 : Nat) : Int) := by rw [IntKind.wrap_i64]; omega
  have HMID := Lib.hid hmid
  have hm1 : a < mid := by omega
  have hm2 : mid < b := by omega
  obtain ⟨lo, hlo⟩ : ∃ lo, lo = if mid < m then mid + m - b else a := ⟨_, rfl⟩
  obtain ⟨hi, hhi⟩ : ∃ hi, hi = if mid < m then mid else m := ⟨_, rfl⟩
  have hlo1 : a ≤ lo := by rw [hlo]; split <;> omega
  have hlo2 : lo ≤ hi := by rw [hlo, hhi]; split <;> omega
  have hlo3 : mid + m ≤ b + lo := by rw [hlo]; split <;> omega
  have hhi1 : hi ≤ m := by rw [hhi]; split <;> omega
  have hhi2 : hi ≤ mid := by rw [hhi]; split <;> omega
  have hlo4 : lo = a ∨ mid + m = b + lo := by rw [hlo]; split <;> omega
  have hhi3 : hi = m ∨ hi = mid := by rw [hhi]; split <;> omega
  have HLH := Lib.hid (And.intro hlo hhi)
  have HLO4 := Lib.hid hlo4
  have HHI3 := Lib.hid hhi3
  clear hC hx hy hX hY hxy hS ha hm hb hlen hK hX2 hY2 IH hN hmid hlo4 hhi3
  have hstart : (¬ (mid < m) → lo = a ∧ hi = m) ∧ ((mid < m) → lo = mid + m - b ∧ hi = mid) := by
    constructor
    · intro h; rw [hlo, hhi, if_neg h, if_neg h]; exact ⟨rfl, rfl⟩
    · intro h; rw [hlo, hhi, if_pos h, if_pos h]; exact ⟨rfl, rfl⟩
  have HST := Lib.hid hstart
  clear hstart hlo hhi
  by_cases hmm : mid < m
  · obtain ⟨eLO, eHI⟩ := HST.out.2 hmm
    have HEQ := Lib.hid (And.intro eLO eHI)
    have s1 : (mid : Int) < (m : Int) := by omega
    have s2 : IntKind.i64.wrap ((mid : Int) + (m : Int) - (b : Int)) = (lo : Int) := by rw [IntKind.wrap_i64]; omega
    clear eLO eHI
    go_enter Try.func53, Try.ntmps53
    go_wp2_with fail
    go_loopw [20, 21] (fun sv rv wr => ∃ st r : Nat, sv = .int .i64 st ∧ rv = .int .i64 r ∧ lo ≤ st ∧ st ≤ r ∧ r ≤ hi ∧ Hid (st = lo ∨ Ord key pos (X.getD (st - 1 - a) 0) (Y.getD (mid - st) 0)) ∧ Hid (r = hi ∨ Ord key pos (Y.getD (mid - 1 - r) 0) (X.getD (r - a) 0)) ∧ Hid (SR w0 wr g n c (P ++ (X ++ (Y ++ S))))) (fun sv rv _ => (intOf rv).toNat - (intOf sv).toNat)
    case atStart => exact ⟨lo, hi, rfl, (by rw [HEQ.out.2]), Nat.le_refl _, hlo2, Nat.le_refl _, .inl rfl, .inl rfl, HS.out⟩
    case round =>
      obtain ⟨st, r, rfl, rfl, hst1, hstr, hrh, H1, H2, HR⟩ := hrel
      by_cases hlt : st < r
      · obtain ⟨cc, hcc0⟩ : ∃ cc, cc = (st + r) / 2 := ⟨_, rfl⟩
        have hc1 : st ≤ cc := by omega
        have hc2 : cc < r := by omega
        have e6 : ((st : Int) + (r : Int)) / 2 = (cc : Int) := by omega
        have hsr : SR w0 wr g n c (P ++ (X ++ (Y ++ S))) := HR
        have kx := hsr.at (i := cc) (by omega)
        have hxl : cc - a < X.length := by have := HM.out; have := HA.out; omega
        have hg1 : (P ++ (X ++ (Y ++ S))).getD cc 0 = X.getD (cc - a) 0 := by
          have := getD_gt P (X ++ (Y ++ S)) (cc - a)
          rw [show P.length + (cc - a) = cc by have := HA.out; omega, getD_lt _ hxl] at this
          exact this
        rw [hg1] at kx
        obtain ⟨pc, hpc⟩ : ∃ pc, pc = mid + m - 1 - cc := ⟨_, rfl⟩
        have hpm : pc = m + (mid - 1 - cc) := by omega
        have hyl : mid - 1 - cc < Y.length := by have := HM.out; have := HB.out; omega
        have ky := hsr.at (i := pc) (by omega)
        have hg2 : (P ++ (X ++ (Y ++ S))).getD pc 0 = Y.getD (mid - 1 - cc) 0 := by
          have := getD_gt (P ++ X) (Y ++ S) (mid - 1 - cc)
          rw [show (P ++ X).length + (mid - 1 - cc) = pc by have := HM.out; simp; omega, getD_lt _ hyl] at this
          simpa [List.append_assoc] using this
        rw [hg2] at ky
        obtain ⟨x, hxx⟩ : ∃ x, x = X.getD (cc - a) 0 := ⟨_, rfl⟩
        obtain ⟨y, hyy⟩ : ∃ y, y = Y.getD (mid - 1 - cc) 0 := ⟨_, rfl⟩
        rw [← hxx] at kx
        rw [← hyy] at ky
        have hxm : x ∈ X := by rw [hxx, List.getD_eq_getElem?_getD, List.getElem?_eq_getElem hxl]; exact List.getElem_mem hxl
        have hym : y ∈ Y := by rw [hyy, List.getD_eq_getElem?_getD, List.getElem?_eq_getElem hyl]; exact List.getElem_mem hyl
        have hcc : ∀ m', Calls Try.prog K (#[nV y, nV x] ++ cap) (wr.drewN m') fun e w' => e = .returned (nV (cmpI (key y) (key x))) ∧ ∃ q, w' = (wr.drewN m').drewN q := fun m' => HC.out y x (wr.drewN m') (HYL.out y hym) (HXL.out x hxm) (hsr.drewN m').chg
        obtain ⟨d, hd⟩ : ∃ d, d = cmpI (key y) (key x) := ⟨_, rfl⟩
        rw [← hd] at hcc
        have HCC := Lib.hid hcc
        have HD := Lib.hid hd
        have HXX := Lib.hid hxx
        have HYY := Lib.hid hyy
        have HPP := Lib.hid (HXY.out x hxm y hym)
        have HHH := Lib.hid hcc0
        have e7 : IntKind.i64.wrap (((mid + m - 1 : Nat) : Int) - (cc : Int)) = (pc : Int) := by rw [IntKind.wrap_i64]; omega
        have e7' : ((mid + m - 1 : Nat) : Int) - (cc : Int) = (pc : Int) := by omega
        have p0 : (0 : Int) ≤ (cc : Int) := Int.natCast_nonneg _
        have p1 : (cc : Int) < (n : Int) := by omega
        have p2 : (0 : Int) ≤ (pc : Int) := Int.natCast_nonneg _
        have p3 : (pc : Int) < (n : Int) := by omega
        clear hsr hg1 hxl hg2 hyl hxx hyy hxm hym hcc hd hcc0 hpc hpm
        by_cases hlv : d < 0
        · have hd0 : decide (d < 0) = true := decide_eq_true hlv
          go_wp2_with fail
          go_quiet (first | (go_at_fn K; refine Calls.quiet_of (HCC.out _)))
          go_wp2_with fail
          go_roundw
          case rel => exact ⟨st, cc, rfl, by go_num, hst1, by omega, by omega, H1, (by
            refine .inr ?_
            rw [← HXX.out, ← HYY.out]
            exact .inl (cmpI_neg.1 (by rw [← HD.out]; exact hlv))), (by
            have := HR
            unfold Hid at this ⊢
            exact this.drewN _)⟩
          case measure => first | (simp [intOf]; done) | (simp [intOf]; omega)
        · have hd0 : decide (d < 0) = false := decide_eq_false hlv
          go_wp2_with fail
          go_quiet (first | (go_at_fn K; refine Calls.quiet_of (HCC.out _)))
          go_wp2_with fail
          go_roundw
          case rel => exact ⟨cc + 1, r, by go_num, rfl, by omega, by omega, hrh, (by
            refine .inr ?_
            rw [show cc + 1 - 1 - a = cc - a by omega, show mid - (cc + 1) = mid - 1 - cc by omega, ← HXX.out, ← HYY.out]
            have h1 : ¬ key y < key x := fun c => by have h3 := cmpI_neg.2 c; rw [← HD.out] at h3; omega
            have h2 := HPP.out
            unfold Ord
            omega), H2, (by
            have := HR
            unfold Hid at this ⊢
            exact this.drewN _)⟩
          case measure => first | (simp [intOf]; done) | (simp [intOf]; omega)
      · obtain rfl : st = r := by omega
        obtain ⟨X1, hX1⟩ : ∃ X1, X1 = X.take (st - a) := ⟨_, rfl⟩
        obtain ⟨X2, hX2⟩ : ∃ X2, X2 = X.drop (st - a) := ⟨_, rfl⟩
        obtain ⟨Y1, hY1⟩ : ∃ Y1, Y1 = Y.take (mid - st) := ⟨_, rfl⟩
        obtain ⟨Y2, hY2⟩ : ∃ Y2, Y2 = Y.drop (mid - st) := ⟨_, rfl⟩
        have lX : X.length = m - a := by have := HM.out; have := HA.out; omega
        have lY : Y.length = b - m := by have := HM.out; have := HB.out; omega
        have hXs : X = X1 ++ X2 := by rw [hX1, hX2, List.take_append_drop]
        have hYs : Y = Y1 ++ Y2 := by rw [hY1, hY2, List.take_append_drop]
        have lX1 : X1.length = st - a := by rw [hX1, List.length_take]; omega
        have lX2 : X2.length = m - st := by rw [hX2, List.length_drop]; omega
        have lY1 : Y1.length = mid - st := by rw [hY1, List.length_take]; omega
        have lY2 : Y2.length = b + st - (mid + m) := by rw [hY2, List.length_drop]; omega
        have tr : ∀ a b c, Ord key pos a b → Ord key pos b c → Ord key pos a c := fun _ _ _ => Ord.trans
        have c1 : ∀ x ∈ X1, ∀ y ∈ Y2, Ord key pos x y := by
          rw [hX1, hY2]
          refine cross tr HXP.out HYP.out (by omega) ?_
          rcases H1 with h | h
          · rcases HLO4.out with h4 | h4
            · exact .inl (by omega)
            · exact .inr (.inl (by omega))
          · exact .inr (.inr (by rw [show st - a - 1 = st - 1 - a by omega]; exact h))
        have c2 : ∀ y ∈ Y1, ∀ x ∈ X2, Ord key pos y x := by
          rw [hY1, hX2]
          refine cross tr HYP.out HXP.out (by omega) ?_
          rcases H2 with h | h
          · rcases HHI3.out with h4 | h4
            · exact .inr (.inl (by omega))
            · exact .inl (by omega)
          · exact .inr (.inr (by rw [show mid - st - 1 = mid - 1 - st by omega]; exact h))
        have hXP : (X1 ++ X2).Pairwise (Ord key pos) := by rw [← hXs]; exact HXP.out
        have hYP : (Y1 ++ Y2).Pairwise (Ord key pos) := by rw [← hYs]; exact HYP.out
        have x1m : ∀ x ∈ X1, x ∈ X := fun x h => by rw [hXs]; exact List.mem_append_left _ h
        have x2m : ∀ x ∈ X2, x ∈ X := fun x h => by rw [hXs]; exact List.mem_append_right _ h
        have y1m : ∀ x ∈ Y1, x ∈ Y := fun x h => by rw [hYs]; exact List.mem_append_left _ h
        have y2m : ∀ x ∈ Y2, x ∈ Y := fun x h => by rw [hYs]; exact List.mem_append_right _ h
        have hrow : SR w0 wr g n c (P ++ ((X1 ++ X2) ++ ((Y1 ++ Y2) ++ S))) := by rw [← hXs, ← hYs]; exact HR
        have HROW := Lib.hid hrow
        obtain ⟨en, hen⟩ : ∃ en, en = mid + m - st := ⟨_, rfl⟩
        have e10 : IntKind.i64.wrap ((mid : Int) + (m : Int) - (st : Int)) = (en : Int) := by rw [IntKind.wrap_i64]; omega
        -- the rotation
        have HROT := Lib.hid fun (h1 : 0 < X2.length) (h2 : 0 < Y1.length) => rot_any (.func (.func K) #[] cap) g n c st m en w0 wr (P ++ X1) X2 Y1 (Y2 ++ S) hn (by simpa [List.append_assoc] using hrow) h1 h2 (by have := HA.out; simp; omega) (by have := HA.out; simp; omega) (by have := HA.out; simp; omega)
        have HNR := Lib.hid (show (X2 = [] ∨ Y1 = []) → SR w0 wr g n c (P ++ (X1 ++ (Y1 ++ (X2 ++ (Y2 ++ S))))) from fun h => by
          rcases h with h | h
          · have := hrow; rw [h] at this ⊢; simpa [List.append_assoc] using this
          · have := hrow; rw [h] at this ⊢; simpa [List.append_assoc] using this)
        have HLF := Lib.hid fun (W : World) (h1 : 0 < X1.length) (h2 : 0 < Y1.length) (hW : SR w0 W g n c (P ++ (X1 ++ (Y1 ++ (X2 ++ (Y2 ++ S)))))) => HIH.out a st mid W P X1 Y1 (X2 ++ (Y2 ++ S)) (by have := HN.out; omega) h1 h2 hW (fun x h => HXL.out x (x1m x h)) (fun y h => HYL.out y (y1m y h)) (List.pairwise_append.1 hXP).1 (List.pairwise_append.1 hYP).1 (fun x h y k => HXY.out x (x1m x h) y (y1m y k)) HA.out (by have := HA.out; omega) (by have := HA.out; omega)
        have HRT := Lib.hid fun (W : World) (Z1 : List Int) (hz : Z1.length = mid - a) (h1 : 0 < X2.length) (h2 : 0 < Y2.length) (hW : SR w0 W g n c ((P ++ Z1) ++ (X2 ++ (Y2 ++ S)))) => HIH.out mid en b W (P ++ Z1) X2 Y2 S (by have := HN.out; omega) h1 h2 hW (fun x h => HXL.out x (x2m x h)) (fun y h => HYL.out y (y2m y h)) (List.pairwise_append.1 hXP).2.1 (List.pairwise_append.1 hYP).2.1 (fun x h y k => HXY.out x (x2m x h) y (y2m y k)) (by have := HA.out; simp; omega) (by have := HA.out; simp; omega) (by have := HA.out; simp; omega)
        have HFIN := Lib.hid (show ∀ (W : World) (Z1 Z2 : List Int), Z1.Perm (X1 ++ Y1) → Z1.Pairwise (Ord key pos) → Z2.Perm (X2 ++ Y2) → Z2.Pairwise (Ord key pos) → SR w0 W g n c (P ++ (Z1 ++ (Z2 ++ S))) → MrgP key pos w0 g n c P X Y S (.returned (.tuple #[])) W from fun W Z1 Z2 h1 o1 h2 o2 hW => by
          obtain ⟨q1, q2⟩ := halves hXP hYP c1 c2 h1 o1 h2 o2
          exact ⟨rfl, Z1 ++ Z2, by rw [hXs, hYs]; exact q1, q2, by rw [List.append_assoc]; exact hW⟩)
        have HP1 := Lib.hid (List.pairwise_append.1 hXP)
        have HP2 := Lib.hid (List.pairwise_append.1 hYP)
        have HLEN := Lib.hid (And.intro lX1 (And.intro lX2 (And.intro lY1 lY2)))
        have g1 : st ≤ mid := by omega
        have g2 : st ≤ m := by omega
        have g3 : a ≤ st := by omega
        have g4 : en ≤ b := by omega
        have g5 : m ≤ en := by omega
        have g6 : mid ≤ en := by omega
        have HENS := Lib.hid hen
        have nil_of : ∀ l : List Int, l.length = 0 → l = [] := fun l h => List.length_eq_zero_iff.1 h
        have HNIL := Lib.hid nil_of
        clear hX1 hX2 hY1 hY2 lX lY hXs hYs lX1 lX2 lY1 lY2 tr c1 c2 hXP hYP x1m x2m y1m y2m hrow H1 H2 HR nil_of
        by_cases h1 : a < st
        · by_cases h2 : st < m
          · by_cases h3 : st < mid
            · by_cases h4 : en < b
              · first
                | (exfalso; have hz := HENS.out; omega)
                | (have HE := HENS.out
                   have d1 : a < st := h1
                   have d2 : st < m := h2
                   have d3 : st < mid := h3
                   have d4 : en < b := h4
                   have d5 : m < en := by omega
                   have d6 : mid < en := by omega
                   have i1 : (a : Int) < (st : Int) := by omega
                   have i2 : (st : Int) < (m : Int) := by omega
                   have i3 : (st : Int) < (mid : Int) := by omega
                   have i4 : (en : Int) < (b : Int) := by omega
                   have i5 : (m : Int) < (en : Int) := by omega
                   have i6 : (mid : Int) < (en : Int) := by omega
                   have l1 : 0 < X1.length := by have := HLEN.out.1; omega
                   have l2 : 0 < X2.length := by have := HLEN.out.2.1; omega
                   have l3 : 0 < Y1.length := by have := HLEN.out.2.2.1; omega
                   have l4 : 0 < Y2.length := by have := HLEN.out.2.2.2; omega
                   have HROT1 := Lib.hid (HROT.out l2 l3)
                   have HLL := Lib.hid (And.intro l1 (And.intro l2 (And.intro l3 l4)))
                   clear HE d1 d2 d3 d4 d5 d6 l1 l2 l3 l4 h1 h2 h3 h4
                   go_wp2_with fail
                   try rw [← HENS.out]
                   with_reducible refine HROT1.out.mono ?_
                   rintro e w1 ⟨rfl, hR1⟩
                   have HRR := Lib.hid (show SR w0 w1 g n c (P ++ (X1 ++ (Y1 ++ (X2 ++ (Y2 ++ S))))) from by simpa [List.append_assoc] using hR1)
                   clear hR1
                   have HLF1 := Lib.hid (HLF.out w1 HLL.out.1 HLL.out.2.2.1 HRR.out)
                   go_wp2_with fail
                   try rw [← HENS.out]
                   with_reducible refine HLF1.out.mono ?_
                   rintro e w2 ⟨rfl, Z1, hz1, ho1, hR2⟩
                   have HZ1 := Lib.hid hz1
                   have HO1 := Lib.hid ho1
                   have HR2 := Lib.hid hR2
                   clear hz1 ho1 hR2
                   have HRT1 := Lib.hid (HRT.out w2 Z1 (by have hh := HZ1.out.length_eq; have h2 := HLEN.out; rw [List.length_append] at hh; omega) HLL.out.2.1 HLL.out.2.2.2 (by have h0 := (show SR w0 w2 g n c (P ++ (Z1 ++ (X2 ++ (Y2 ++ S)))) from HR2.out); simpa [List.append_assoc] using h0))
                   go_wp2_with fail
                   try rw [← HENS.out]
                   with_reducible refine HRT1.out.mono ?_
                   rintro e w3 ⟨rfl, Z2, hz2, ho2, hR3⟩
                   have HFF := Lib.hid (HFIN.out w3 Z1 Z2 HZ1.out HO1.out hz2 ho2 (by simpa [List.append_assoc] using hR3))
                   clear hz2 ho2 hR3
                   go_wp2_with fail
                   go_end0
                   exact HFF.out)
              · first
                | (exfalso; have hz := HENS.out; omega)
                | (have HE := HENS.out
                   have d1 : a < st := h1
                   have d2 : st < m := h2
                   have d3 : st < mid := h3
                   have d4 : ¬ (en < b) := h4
                   have d5 : m < en := by omega
                   have d6 : mid < en := by omega
                   have i1 : (a : Int) < (st : Int) := by omega
                   have i2 : (st : Int) < (m : Int) := by omega
                   have i3 : (st : Int) < (mid : Int) := by omega
                   have i4 : ¬ ((en : Int) < (b : Int)) := by omega
                   have i5 : (m : Int) < (en : Int) := by omega
                   have i6 : (mid : Int) < (en : Int) := by omega
                   have l1 : 0 < X1.length := by have := HLEN.out.1; omega
                   have l2 : 0 < X2.length := by have := HLEN.out.2.1; omega
                   have l3 : 0 < Y1.length := by have := HLEN.out.2.2.1; omega
                   have l4 : Y2 = [] := HNIL.out _ (by have := HLEN.out.2.2.2; omega)
                   have HROT1 := Lib.hid (HROT.out l2 l3)
                   have HLL := Lib.hid (And.intro l1 (And.intro l2 (And.intro l3 l4)))
                   clear HE d1 d2 d3 d4 d5 d6 l1 l2 l3 l4 h1 h2 h3 h4
                   go_wp2_with fail
                   try rw [← HENS.out]
                   with_reducible refine HROT1.out.mono ?_
                   rintro e w1 ⟨rfl, hR1⟩
                   have HRR := Lib.hid (show SR w0 w1 g n c (P ++ (X1 ++ (Y1 ++ (X2 ++ (Y2 ++ S))))) from by simpa [List.append_assoc] using hR1)
                   clear hR1
                   have HLF1 := Lib.hid (HLF.out w1 HLL.out.1 HLL.out.2.2.1 HRR.out)
                   go_wp2_with fail
                   try rw [← HENS.out]
                   with_reducible refine HLF1.out.mono ?_
                   rintro e w2 ⟨rfl, Z1, hz1, ho1, hR2⟩
                   have HZ1 := Lib.hid hz1
                   have HO1 := Lib.hid ho1
                   have HR2 := Lib.hid hR2
                   clear hz1 ho1 hR2
                   have HFF := Lib.hid (HFIN.out w2 Z1 (X2 ++ Y2) HZ1.out HO1.out (List.Perm.refl _) (by rw [HLL.out.2.2.2, List.append_nil]; exact HP1.out.2.1) (by have h0 := (show SR w0 w2 g n c (P ++ (Z1 ++ (X2 ++ (Y2 ++ S)))) from HR2.out); simpa [List.append_assoc] using h0))
                   go_wp2_with fail
                   go_end0
                   exact HFF.out)
            · by_cases h4 : en < b
              · first
                | (exfalso; have hz := HENS.out; omega)
                | (have HE := HENS.out
                   have d1 : a < st := h1
                   have d2 : st < m := h2
                   have d3 : ¬ (st < mid) := h3
                   have d4 : en < b := h4
                   have d5 : ¬ (m < en) := by omega
                   have d6 : mid < en := by omega
                   have i1 : (a : Int) < (st : Int) := by omega
                   have i2 : (st : Int) < (m : Int) := by omega
                   have i3 : ¬ ((st : Int) < (mid : Int)) := by omega
                   have i4 : (en : Int) < (b : Int) := by omega
                   have i5 : ¬ ((m : Int) < (en : Int)) := by omega
                   have i6 : (mid : Int) < (en : Int) := by omega
                   have l1 : 0 < X1.length := by have := HLEN.out.1; omega
                   have l2 : 0 < X2.length := by have := HLEN.out.2.1; omega
                   have l3 : Y1 = [] := HNIL.out _ (by have := HLEN.out.2.2.1; omega)
                   have l4 : 0 < Y2.length := by have := HLEN.out.2.2.2; omega
                   have HRR := Lib.hid (HNR.out (.inr l3))
                   have HLL := Lib.hid (And.intro l1 (And.intro l2 (And.intro l3 l4)))
                   clear HE d1 d2 d3 d4 d5 d6 l1 l2 l3 l4 h1 h2 h3 h4
                   have HRT1 := Lib.hid (HRT.out wr (X1 ++ Y1) (by have h2 := HLEN.out; rw [List.length_append]; omega) HLL.out.2.1 HLL.out.2.2.2 (by have h0 := (show SR w0 wr g n c (P ++ ((X1 ++ Y1) ++ (X2 ++ (Y2 ++ S)))) from (by simpa [List.append_assoc] using HRR.out)); simpa [List.append_assoc] using h0))
                   go_wp2_with fail
                   try rw [← HENS.out]
                   with_reducible refine HRT1.out.mono ?_
                   rintro e w3 ⟨rfl, Z2, hz2, ho2, hR3⟩
                   have HFF := Lib.hid (HFIN.out w3 (X1 ++ Y1) Z2 (List.Perm.refl _) (by rw [HLL.out.2.2.1, List.append_nil]; exact HP1.out.1) hz2 ho2 (by simpa [List.append_assoc] using hR3))
                   clear hz2 ho2 hR3
                   go_wp2_with fail
                   go_end0
                   exact HFF.out)
              · exfalso
                have := HENS.out
                omega
          · by_cases h3 : st < mid
            · by_cases h4 : en < b
              · first
                | (exfalso; have hz := HENS.out; omega)
                | (have HE := HENS.out
                   have d1 : a < st := h1
                   have d2 : ¬ (st < m) := h2
                   have d3 : st < mid := h3
                   have d4 : en < b := h4
                   have d5 : m < en := by omega
                   have d6 : ¬ (mid < en) := by omega
                   have i1 : (a : Int) < (st : Int) := by omega
                   have i2 : ¬ ((st : Int) < (m : Int)) := by omega
                   have i3 : (st : Int) < (mid : Int) := by omega
                   have i4 : (en : Int) < (b : Int) := by omega
                   have i5 : (m : Int) < (en : Int) := by omega
                   have i6 : ¬ ((mid : Int) < (en : Int)) := by omega
                   have l1 : 0 < X1.length := by have := HLEN.out.1; omega
                   have l2 : X2 = [] := HNIL.out _ (by have := HLEN.out.2.1; omega)
                   have l3 : 0 < Y1.length := by have := HLEN.out.2.2.1; omega
                   have l4 : 0 < Y2.length := by have := HLEN.out.2.2.2; omega
                   have HRR := Lib.hid (HNR.out (.inl l2))
                   have HLL := Lib.hid (And.intro l1 (And.intro l2 (And.intro l3 l4)))
                   clear HE d1 d2 d3 d4 d5 d6 l1 l2 l3 l4 h1 h2 h3 h4
                   have HLF1 := Lib.hid (HLF.out wr HLL.out.1 HLL.out.2.2.1 HRR.out)
                   go_wp2_with fail
                   try rw [← HENS.out]
                   with_reducible refine HLF1.out.mono ?_
                   rintro e w2 ⟨rfl, Z1, hz1, ho1, hR2⟩
                   have HZ1 := Lib.hid hz1
                   have HO1 := Lib.hid ho1
                   have HR2 := Lib.hid hR2
                   clear hz1 ho1 hR2
                   have HFF := Lib.hid (HFIN.out w2 Z1 (X2 ++ Y2) HZ1.out HO1.out (List.Perm.refl _) (by rw [HLL.out.2.1, List.nil_append]; exact HP2.out.2.1) (by have h0 := (show SR w0 w2 g n c (P ++ (Z1 ++ (X2 ++ (Y2 ++ S)))) from HR2.out); simpa [List.append_assoc] using h0))
                   go_wp2_with fail
                   go_end0
                   exact HFF.out)
              · first
                | (exfalso; have hz := HENS.out; omega)
                | (have HE := HENS.out
                   have d1 : a < st := h1
                   have d2 : ¬ (st < m) := h2
                   have d3 : st < mid := h3
                   have d4 : ¬ (en < b) := h4
                   have d5 : m < en := by omega
                   have d6 : ¬ (mid < en) := by omega
                   have i1 : (a : Int) < (st : Int) := by omega
                   have i2 : ¬ ((st : Int) < (m : Int)) := by omega
                   have i3 : (st : Int) < (mid : Int) := by omega
                   have i4 : ¬ ((en : Int) < (b : Int)) := by omega
                   have i5 : (m : Int) < (en : Int) := by omega
                   have i6 : ¬ ((mid : Int) < (en : Int)) := by omega
                   have l1 : 0 < X1.length := by have := HLEN.out.1; omega
                   have l2 : X2 = [] := HNIL.out _ (by have := HLEN.out.2.1; omega)
                   have l3 : 0 < Y1.length := by have := HLEN.out.2.2.1; omega
                   have l4 : Y2 = [] := HNIL.out _ (by have := HLEN.out.2.2.2; omega)
                   have HRR := Lib.hid (HNR.out (.inl l2))
                   have HLL := Lib.hid (And.intro l1 (And.intro l2 (And.intro l3 l4)))
                   clear HE d1 d2 d3 d4 d5 d6 l1 l2 l3 l4 h1 h2 h3 h4
                   have HLF1 := Lib.hid (HLF.out wr HLL.out.1 HLL.out.2.2.1 HRR.out)
                   go_wp2_with fail
                   try rw [← HENS.out]
                   with_reducible refine HLF1.out.mono ?_
                   rintro e w2 ⟨rfl, Z1, hz1, ho1, hR2⟩
                   have HZ1 := Lib.hid hz1
                   have HO1 := Lib.hid ho1
                   have HR2 := Lib.hid hR2
                   clear hz1 ho1 hR2
                   have HFF := Lib.hid (HFIN.out w2 Z1 (X2 ++ Y2) HZ1.out HO1.out (List.Perm.refl _) (by rw [HLL.out.2.1, List.nil_append]; exact HP2.out.2.1) (by have h0 := (show SR w0 w2 g n c (P ++ (Z1 ++ (X2 ++ (Y2 ++ S)))) from HR2.out); simpa [List.append_assoc] using h0))
                   go_wp2_with fail
                   go_end0
                   exact HFF.out)
            · by_cases h4 : en < b
              · first
                | (exfalso; have hz := HENS.out; omega)
                | (have HE := HENS.out
                   have d1 : a < st := h1
                   have d2 : ¬ (st < m) := h2
                   have d3 : ¬ (st < mid) := h3
                   have d4 : en < b := h4
                   have d5 : ¬ (m < en) := by omega
                   have d6 : ¬ (mid < en) := by omega
                   have i1 : (a : Int) < (st : Int) := by omega
                   have i2 : ¬ ((st : Int) < (m : Int)) := by omega
                   have i3 : ¬ ((st : Int) < (mid : Int)) := by omega
                   have i4 : (en : Int) < (b : Int) := by omega
                   have i5 : ¬ ((m : Int) < (en : Int)) := by omega
                   have i6 : ¬ ((mid : Int) < (en : Int)) := by omega
                   have l1 : 0 < X1.length := by have := HLEN.out.1; omega
                   have l2 : X2 = [] := HNIL.out _ (by have := HLEN.out.2.1; omega)
                   have l3 : Y1 = [] := HNIL.out _ (by have := HLEN.out.2.2.1; omega)
                   have l4 : 0 < Y2.length := by have := HLEN.out.2.2.2; omega
                   have HRR := Lib.hid (HNR.out (.inl l2))
                   have HLL := Lib.hid (And.intro l1 (And.intro l2 (And.intro l3 l4)))
                   clear HE d1 d2 d3 d4 d5 d6 l1 l2 l3 l4 h1 h2 h3 h4
                   have HFF := Lib.hid (HFIN.out wr (X1 ++ Y1) (X2 ++ Y2) (List.Perm.refl _) (by rw [HLL.out.2.2.1, List.append_nil]; exact HP1.out.1) (List.Perm.refl _) (by rw [HLL.out.2.1, List.nil_append]; exact HP2.out.2.1) (by have h0 := (show SR w0 wr g n c (P ++ ((X1 ++ Y1) ++ (X2 ++ (Y2 ++ S)))) from (by simpa [List.append_assoc] using HRR.out)); simpa [List.append_assoc] using h0))
                   go_wp2_with fail
                   go_end0
                   exact HFF.out)
              · exfalso
                have := HENS.out
                omega
        · by_cases h2 : st < m
          · by_cases h3 : st < mid
            · by_cases h4 : en < b
              · first
                | (exfalso; have hz := HENS.out; omega)
                | (have HE := HENS.out
                   have d1 : ¬ (a < st) := h1
                   have d2 : st < m := h2
                   have d3 : st < mid := h3
                   have d4 : en < b := h4
                   have d5 : m < en := by omega
                   have d6 : mid < en := by omega
                   have i1 : ¬ ((a : Int) < (st : Int)) := by omega
                   have i2 : (st : Int) < (m : Int) := by omega
                   have i3 : (st : Int) < (mid : Int) := by omega
                   have i4 : (en : Int) < (b : Int) := by omega
                   have i5 : (m : Int) < (en : Int) := by omega
                   have i6 : (mid : Int) < (en : Int) := by omega
                   have l1 : X1 = [] := HNIL.out _ (by have := HLEN.out.1; omega)
                   have l2 : 0 < X2.length := by have := HLEN.out.2.1; omega
                   have l3 : 0 < Y1.length := by have := HLEN.out.2.2.1; omega
                   have l4 : 0 < Y2.length := by have := HLEN.out.2.2.2; omega
                   have HROT1 := Lib.hid (HROT.out l2 l3)
                   have HLL := Lib.hid (And.intro l1 (And.intro l2 (And.intro l3 l4)))
                   clear HE d1 d2 d3 d4 d5 d6 l1 l2 l3 l4 h1 h2 h3 h4
                   go_wp2_with fail
                   try rw [← HENS.out]
                   with_reducible refine HROT1.out.mono ?_
                   rintro e w1 ⟨rfl, hR1⟩
                   have HRR := Lib.hid (show SR w0 w1 g n c (P ++ (X1 ++ (Y1 ++ (X2 ++ (Y2 ++ S))))) from by simpa [List.append_assoc] using hR1)
                   clear hR1
                   have HRT1 := Lib.hid (HRT.out w1 (X1 ++ Y1) (by have h2 := HLEN.out; rw [List.length_append]; omega) HLL.out.2.1 HLL.out.2.2.2 (by have h0 := (show SR w0 w1 g n c (P ++ ((X1 ++ Y1) ++ (X2 ++ (Y2 ++ S)))) from (by simpa [List.append_assoc] using HRR.out)); simpa [List.append_assoc] using h0))
                   go_wp2_with fail
                   try rw [← HENS.out]
                   with_reducible refine HRT1.out.mono ?_
                   rintro e w3 ⟨rfl, Z2, hz2, ho2, hR3⟩
                   have HFF := Lib.hid (HFIN.out w3 (X1 ++ Y1) Z2 (List.Perm.refl _) (by rw [HLL.out.1, List.nil_append]; exact HP2.out.1) hz2 ho2 (by simpa [List.append_assoc] using hR3))
                   clear hz2 ho2 hR3
                   go_wp2_with fail
                   go_end0
                   exact HFF.out)
              · first
                | (exfalso; have hz := HENS.out; omega)
                | (have HE := HENS.out
                   have d1 : ¬ (a < st) := h1
                   have d2 : st < m := h2
                   have d3 : st < mid := h3
                   have d4 : ¬ (en < b) := h4
                   have d5 : m < en := by omega
                   have d6 : mid < en := by omega
                   have i1 : ¬ ((a : Int) < (st : Int)) := by omega
                   have i2 : (st : Int) < (m : Int) := by omega
                   have i3 : (st : Int) < (mid : Int) := by omega
                   have i4 : ¬ ((en : Int) < (b : Int)) := by omega
                   have i5 : (m : Int) < (en : Int) := by omega
                   have i6 : (mid : Int) < (en : Int) := by omega
                   have l1 : X1 = [] := HNIL.out _ (by have := HLEN.out.1; omega)
                   have l2 : 0 < X2.length := by have := HLEN.out.2.1; omega
                   have l3 : 0 < Y1.length := by have := HLEN.out.2.2.1; omega
                   have l4 : Y2 = [] := HNIL.out _ (by have := HLEN.out.2.2.2; omega)
                   have HROT1 := Lib.hid (HROT.out l2 l3)
                   have HLL := Lib.hid (And.intro l1 (And.intro l2 (And.intro l3 l4)))
                   clear HE d1 d2 d3 d4 d5 d6 l1 l2 l3 l4 h1 h2 h3 h4
                   go_wp2_with fail
                   try rw [← HENS.out]
                   with_reducible refine HROT1.out.mono ?_
                   rintro e w1 ⟨rfl, hR1⟩
                   have HRR := Lib.hid (show SR w0 w1 g n c (P ++ (X1 ++ (Y1 ++ (X2 ++ (Y2 ++ S))))) from by simpa [List.append_assoc] using hR1)
                   clear hR1
                   have HFF := Lib.hid (HFIN.out w1 (X1 ++ Y1) (X2 ++ Y2) (List.Perm.refl _) (by rw [HLL.out.1, List.nil_append]; exact HP2.out.1) (List.Perm.refl _) (by rw [HLL.out.2.2.2, List.append_nil]; exact HP1.out.2.1) (by have h0 := (show SR w0 w1 g n c (P ++ ((X1 ++ Y1) ++ (X2 ++ (Y2 ++ S)))) from (by simpa [List.append_assoc] using HRR.out)); simpa [List.append_assoc] using h0))
                   go_wp2_with fail
                   go_end0
                   exact HFF.out)
            · by_cases h4 : en < b
              · first
                | (exfalso; have hz := HENS.out; omega)
                | (have HE := HENS.out
                   have d1 : ¬ (a < st) := h1
                   have d2 : st < m := h2
                   have d3 : ¬ (st < mid) := h3
                   have d4 : en < b := h4
                   have d5 : ¬ (m < en) := by omega
                   have d6 : mid < en := by omega
                   have i1 : ¬ ((a : Int) < (st : Int)) := by omega
                   have i2 : (st : Int) < (m : Int) := by omega
                   have i3 : ¬ ((st : Int) < (mid : Int)) := by omega
                   have i4 : (en : Int) < (b : Int) := by omega
                   have i5 : ¬ ((m : Int) < (en : Int)) := by omega
                   have i6 : (mid : Int) < (en : Int) := by omega
                   have l1 : X1 = [] := HNIL.out _ (by have := HLEN.out.1; omega)
                   have l2 : 0 < X2.length := by have := HLEN.out.2.1; omega
                   have l3 : Y1 = [] := HNIL.out _ (by have := HLEN.out.2.2.1; omega)
                   have l4 : 0 < Y2.length := by have := HLEN.out.2.2.2; omega
                   have HRR := Lib.hid (HNR.out (.inr l3))
                   have HLL := Lib.hid (And.intro l1 (And.intro l2 (And.intro l3 l4)))
                   clear HE d1 d2 d3 d4 d5 d6 l1 l2 l3 l4 h1 h2 h3 h4
                   have HRT1 := Lib.hid (HRT.out wr (X1 ++ Y1) (by have h2 := HLEN.out; rw [List.length_append]; omega) HLL.out.2.1 HLL.out.2.2.2 (by have h0 := (show SR w0 wr g n c (P ++ ((X1 ++ Y1) ++ (X2 ++ (Y2 ++ S)))) from (by simpa [List.append_assoc] using HRR.out)); simpa [List.append_assoc] using h0))
                   go_wp2_with fail
                   try rw [← HENS.out]
                   with_reducible refine HRT1.out.mono ?_
                   rintro e w3 ⟨rfl, Z2, hz2, ho2, hR3⟩
                   have HFF := Lib.hid (HFIN.out w3 (X1 ++ Y1) Z2 (List.Perm.refl _) (by rw [HLL.out.1, List.nil_append]; exact HP2.out.1) hz2 ho2 (by simpa [List.append_assoc] using hR3))
                   clear hz2 ho2 hR3
                   go_wp2_with fail
                   go_end0
                   exact HFF.out)
              · exfalso
                have := HENS.out
                omega
          · by_cases h3 : st < mid
            · by_cases h4 : en < b
              · exfalso
                have := HENS.out
                omega
              · exfalso
                have := HENS.out
                omega
            · by_cases h4 : en < b
              · exfalso
                have := HENS.out
                omega
              · exfalso
                have := HENS.out
                omega
  · obtain ⟨eLO, eHI⟩ := HST.out.1 hmm
    have HEQ := Lib.hid (And.intro eLO eHI)
    have s1 : ¬ ((mid : Int) < (m : Int)) := by omega
    clear eLO eHI
    go_enter Try.func53, Try.ntmps53
    go_wp2_with fail
    go_loopw [20, 21] (fun sv rv wr => ∃ st r : Nat, sv = .int .i64 st ∧ rv = .int .i64 r ∧ lo ≤ st ∧ st ≤ r ∧ r ≤ hi ∧ Hid (st = lo ∨ Ord key pos (X.getD (st - 1 - a) 0) (Y.getD (mid - st) 0)) ∧ Hid (r = hi ∨ Ord key pos (Y.getD (mid - 1 - r) 0) (X.getD (r - a) 0)) ∧ Hid (SR w0 wr g n c (P ++ (X ++ (Y ++ S))))) (fun sv rv _ => (intOf rv).toNat - (intOf sv).toNat)
    case atStart => exact ⟨lo, hi, (by rw [HEQ.out.1]), (by rw [HEQ.out.2]), Nat.le_refl _, hlo2, Nat.le_refl _, .inl rfl, .inl rfl, HS.out⟩
    case round =>
      obtain ⟨st, r, rfl, rfl, hst1, hstr, hrh, H1, H2, HR⟩ := hrel
      by_cases hlt : st < r
      · obtain ⟨cc, hcc0⟩ : ∃ cc, cc = (st + r) / 2 := ⟨_, rfl⟩
        have hc1 : st ≤ cc := by omega
        have hc2 : cc < r := by omega
        have e6 : ((st : Int) + (r : Int)) / 2 = (cc : Int) := by omega
        have hsr : SR w0 wr g n c (P ++ (X ++ (Y ++ S))) := HR
        have kx := hsr.at (i := cc) (by omega)
        have hxl : cc - a < X.length := by have := HM.out; have := HA.out; omega
        have hg1 : (P ++ (X ++ (Y ++ S))).getD cc 0 = X.getD (cc - a) 0 := by
          have := getD_gt P (X ++ (Y ++ S)) (cc - a)
          rw [show P.length + (cc - a) = cc by have := HA.out; omega, getD_lt _ hxl] at this
          exact this
        rw [hg1] at kx
        obtain ⟨pc, hpc⟩ : ∃ pc, pc = mid + m - 1 - cc := ⟨_, rfl⟩
        have hpm : pc = m + (mid - 1 - cc) := by omega
        have hyl : mid - 1 - cc < Y.length := by have := HM.out; have := HB.out; omega
        have ky := hsr.at (i := pc) (by omega)
        have hg2 : (P ++ (X ++ (Y ++ S))).getD pc 0 = Y.getD (mid - 1 - cc) 0 := by
          have := getD_gt (P ++ X) (Y ++ S) (mid - 1 - cc)
          rw [show (P ++ X).length + (mid - 1 - cc) = pc by have := HM.out; simp; omega, getD_lt _ hyl] at this
          simpa [List.append_assoc] using this
        rw [hg2] at ky
        obtain ⟨x, hxx⟩ : ∃ x, x = X.getD (cc - a) 0 := ⟨_, rfl⟩
        obtain ⟨y, hyy⟩ : ∃ y, y = Y.getD (mid - 1 - cc) 0 := ⟨_, rfl⟩
        rw [← hxx] at kx
        rw [← hyy] at ky
        have hxm : x ∈ X := by rw [hxx, List.getD_eq_getElem?_getD, List.getElem?_eq_getElem hxl]; exact List.getElem_mem hxl
        have hym : y ∈ Y := by rw [hyy, List.getD_eq_getElem?_getD, List.getElem?_eq_getElem hyl]; exact List.getElem_mem hyl
        have hcc : ∀ m', Calls Try.prog K (#[nV y, nV x] ++ cap) (wr.drewN m') fun e w' => e = .returned (nV (cmpI (key y) (key x))) ∧ ∃ q, w' = (wr.drewN m').drewN q := fun m' => HC.out y x (wr.drewN m') (HYL.out y hym) (HXL.out x hxm) (hsr.drewN m').chg
        obtain ⟨d, hd⟩ : ∃ d, d = cmpI (key y) (key x) := ⟨_, rfl⟩
        rw [← hd] at hcc
        have HCC := Lib.hid hcc
        have HD := Lib.hid hd
        have HXX := Lib.hid hxx
        have HYY := Lib.hid hyy
        have HPP := Lib.hid (HXY.out x hxm y hym)
        have HHH := Lib.hid hcc0
        have e7 : IntKind.i64.wrap (((mid + m - 1 : Nat) : Int) - (cc : Int)) = (pc : Int) := by rw [IntKind.wrap_i64]; omega
        have e7' : ((mid + m - 1 : Nat) : Int) - (cc : Int) = (pc : Int) := by omega
        have p0 : (0 : Int) ≤ (cc : Int) := Int.natCast_nonneg _
        have p1 : (cc : Int) < (n : Int) := by omega
        have p2 : (0 : Int) ≤ (pc : Int) := Int.natCast_nonneg _
        have p3 : (pc : Int) < (n : Int) := by omega
        clear hsr hg1 hxl hg2 hyl hxx hyy hxm hym hcc hd hcc0 hpc hpm
        by_cases hlv : d < 0
        · have hd0 : decide (d < 0) = true := decide_eq_true hlv
          go_wp2_with fail
          go_quiet (first | (go_at_fn K; refine Calls.quiet_of (HCC.out _)))
          go_wp2_with fail
          go_roundw
          case rel => exact ⟨st, cc, rfl, by go_num, hst1, by omega, by omega, H1, (by
            refine .inr ?_
            rw [← HXX.out, ← HYY.out]
            exact .inl (cmpI_neg.1 (by rw [← HD.out]; exact hlv))), (by
            have := HR
            unfold Hid at this ⊢
            exact this.drewN _)⟩
          case measure => first | (simp [intOf]; done) | (simp [intOf]; omega)
        · have hd0 : decide (d < 0) = false := decide_eq_false hlv
          go_wp2_with fail
          go_quiet (first | (go_at_fn K; refine Calls.quiet_of (HCC.out _)))
          go_wp2_with fail
          go_roundw
          case rel => exact ⟨cc + 1, r, by go_num, rfl, by omega, by omega, hrh, (by
            refine .inr ?_
            rw [show cc + 1 - 1 - a = cc - a by omega, show mid - (cc + 1) = mid - 1 - cc by omega, ← HXX.out, ← HYY.out]
            have h1 : ¬ key y < key x := fun c => by have h3 := cmpI_neg.2 c; rw [← HD.out] at h3; omega
            have h2 := HPP.out
            unfold Ord
            omega), H2, (by
            have := HR
            unfold Hid at this ⊢
            exact this.drewN _)⟩
          case measure => first | (simp [intOf]; done) | (simp [intOf]; omega)
      · obtain rfl : st = r := by omega
        obtain ⟨X1, hX1⟩ : ∃ X1, X1 = X.take (st - a) := ⟨_, rfl⟩
        obtain ⟨X2, hX2⟩ : ∃ X2, X2 = X.drop (st - a) := ⟨_, rfl⟩
        obtain ⟨Y1, hY1⟩ : ∃ Y1, Y1 = Y.take (mid - st) := ⟨_, rfl⟩
        obtain ⟨Y2, hY2⟩ : ∃ Y2, Y2 = Y.drop (mid - st) := ⟨_, rfl⟩
        have lX : X.length = m - a := by have := HM.out; have := HA.out; omega
        have lY : Y.length = b - m := by have := HM.out; have := HB.out; omega
        have hXs : X = X1 ++ X2 := by rw [hX1, hX2, List.take_append_drop]
        have hYs : Y = Y1 ++ Y2 := by rw [hY1, hY2, List.take_append_drop]
        have lX1 : X1.length = st - a := by rw [hX1, List.length_take]; omega
        have lX2 : X2.length = m - st := by rw [hX2, List.length_drop]; omega
        have lY1 : Y1.length = mid - st := by rw [hY1, List.length_take]; omega
        have lY2 : Y2.length = b + st - (mid + m) := by rw [hY2, List.length_drop]; omega
        have tr : ∀ a b c, Ord key pos a b → Ord key pos b c → Ord key pos a c := fun _ _ _ => Ord.trans
        have c1 : ∀ x ∈ X1, ∀ y ∈ Y2, Ord key pos x y := by
          rw [hX1, hY2]
          refine cross tr HXP.out HYP.out (by omega) ?_
          rcases H1 with h | h
          · rcases HLO4.out with h4 | h4
            · exact .inl (by omega)
            · exact .inr (.inl (by omega))
          · exact .inr (.inr (by rw [show st - a - 1 = st - 1 - a by omega]; exact h))
        have c2 : ∀ y ∈ Y1, ∀ x ∈ X2, Ord key pos y x := by
          rw [hY1, hX2]
          refine cross tr HYP.out HXP.out (by omega) ?_
          rcases H2 with h | h
          · rcases HHI3.out with h4 | h4
            · exact .inr (.inl (by omega))
            · exact .inl (by omega)
          · exact .inr (.inr (by rw [show mid - st - 1 = mid - 1 - st by omega]; exact h))
        have hXP : (X1 ++ X2).Pairwise (Ord key pos) := by rw [← hXs]; exact HXP.out
        have hYP : (Y1 ++ Y2).Pairwise (Ord key pos) := by rw [← hYs]; exact HYP.out
        have x1m : ∀ x ∈ X1, x ∈ X := fun x h => by rw [hXs]; exact List.mem_append_left _ h
        have x2m : ∀ x ∈ X2, x ∈ X := fun x h => by rw [hXs]; exact List.mem_append_right _ h
        have y1m : ∀ x ∈ Y1, x ∈ Y := fun x h => by rw [hYs]; exact List.mem_append_left _ h
        have y2m : ∀ x ∈ Y2, x ∈ Y := fun x h => by rw [hYs]; exact List.mem_append_right _ h
        have hrow : SR w0 wr g n c (P ++ ((X1 ++ X2) ++ ((Y1 ++ Y2) ++ S))) := by rw [← hXs, ← hYs]; exact HR
        have HROW := Lib.hid hrow
        obtain ⟨en, hen⟩ : ∃ en, en = mid + m - st := ⟨_, rfl⟩
        have e10 : IntKind.i64.wrap ((mid : Int) + (m : Int) - (st : Int)) = (en : Int) := by rw [IntKind.wrap_i64]; omega
        -- the rotation
        have HROT := Lib.hid fun (h1 : 0 < X2.length) (h2 : 0 < Y1.length) => rot_any (.func (.func K) #[] cap) g n c st m en w0 wr (P ++ X1) X2 Y1 (Y2 ++ S) hn (by simpa [List.append_assoc] using hrow) h1 h2 (by have := HA.out; simp; omega) (by have := HA.out; simp; omega) (by have := HA.out; simp; omega)
        have HNR := Lib.hid (show (X2 = [] ∨ Y1 = []) → SR w0 wr g n c (P ++ (X1 ++ (Y1 ++ (X2 ++ (Y2 ++ S))))) from fun h => by
          rcases h with h | h
          · have := hrow; rw [h] at this ⊢; simpa [List.append_assoc] using this
          · have := hrow; rw [h] at this ⊢; simpa [List.append_assoc] using this)
        have HLF := Lib.hid fun (W : World) (h1 : 0 < X1.length) (h2 : 0 < Y1.length) (hW : SR w0 W g n c (P ++ (X1 ++ (Y1 ++ (X2 ++ (Y2 ++ S)))))) => HIH.out a st mid W P X1 Y1 (X2 ++ (Y2 ++ S)) (by have := HN.out; omega) h1 h2 hW (fun x h => HXL.out x (x1m x h)) (fun y h => HYL.out y (y1m y h)) (List.pairwise_append.1 hXP).1 (List.pairwise_append.1 hYP).1 (fun x h y k => HXY.out x (x1m x h) y (y1m y k)) HA.out (by have := HA.out; omega) (by have := HA.out; omega)
        have HRT := Lib.hid fun (W : World) (Z1 : List Int) (hz : Z1.length = mid - a) (h1 : 0 < X2.length) (h2 : 0 < Y2.length) (hW : SR w0 W g n c ((P ++ Z1) ++ (X2 ++ (Y2 ++ S)))) => HIH.out mid en b W (P ++ Z1) X2 Y2 S (by have := HN.out; omega) h1 h2 hW (fun x h => HXL.out x (x2m x h)) (fun y h => HYL.out y (y2m y h)) (List.pairwise_append.1 hXP).2.1 (List.pairwise_append.1 hYP).2.1 (fun x h y k => HXY.out x (x2m x h) y (y2m y k)) (by have := HA.out; simp; omega) (by have := HA.out; simp; omega) (by have := HA.out; simp; omega)
        have HFIN := Lib.hid (show ∀ (W : World) (Z1 Z2 : List Int), Z1.Perm (X1 ++ Y1) → Z1.Pairwise (Ord key pos) → Z2.Perm (X2 ++ Y2) → Z2.Pairwise (Ord key pos) → SR w0 W g n c (P ++ (Z1 ++ (Z2 ++ S))) → MrgP key pos w0 g n c P X Y S (.returned (.tuple #[])) W from fun W Z1 Z2 h1 o1 h2 o2 hW => by
          obtain ⟨q1, q2⟩ := halves hXP hYP c1 c2 h1 o1 h2 o2
          exact ⟨rfl, Z1 ++ Z2, by rw [hXs, hYs]; exact q1, q2, by rw [List.append_assoc]; exact hW⟩)
        have HP1 := Lib.hid (List.pairwise_append.1 hXP)
        have HP2 := Lib.hid (List.pairwise_append.1 hYP)
        have HLEN := Lib.hid (And.intro lX1 (And.intro lX2 (And.intro lY1 lY2)))
        have g1 : st ≤ mid := by omega
        have g2 : st ≤ m := by omega
        have g3 : a ≤ st := by omega
        have g4 : en ≤ b := by omega
        have g5 : m ≤ en := by omega
        have g6 : mid ≤ en := by omega
        have HENS := Lib.hid hen
        have nil_of : ∀ l : List Int, l.length = 0 → l = [] := fun l h => List.length_eq_zero_iff.1 h
        have HNIL := Lib.hid nil_of
        clear hX1 hX2 hY1 hY2 lX lY hXs hYs lX1 lX2 lY1 lY2 tr c1 c2 hXP hYP x1m x2m y1m y2m hrow H1 H2 HR nil_of
        by_cases h1 : a < st
        · by_cases h2 : st < m
          · by_cases h3 : st < mid
            · by_cases h4 : en < b
              · first
                | (exfalso; have hz := HENS.out; omega)
                | (have HE := HENS.out
                   have d1 : a < st := h1
                   have d2 : st < m := h2
                   have d3 : st < mid := h3
                   have d4 : en < b := h4
                   have d5 : m < en := by omega
                   have d6 : mid < en := by omega
                   have i1 : (a : Int) < (st : Int) := by omega
                   have i2 : (st : Int) < (m : Int) := by omega
                   have i3 : (st : Int) < (mid : Int) := by omega
                   have i4 : (en : Int) < (b : Int) := by omega
                   have i5 : (m : Int) < (en : Int) := by omega
                   have i6 : (mid : Int) < (en : Int) := by omega
                   have l1 : 0 < X1.length := by have := HLEN.out.1; omega
                   have l2 : 0 < X2.length := by have := HLEN.out.2.1; omega
                   have l3 : 0 < Y1.length := by have := HLEN.out.2.2.1; omega
                   have l4 : 0 < Y2.length := by have := HLEN.out.2.2.2; omega
                   have HROT1 := Lib.hid (HROT.out l2 l3)
                   have HLL := Lib.hid (And.intro l1 (And.intro l2 (And.intro l3 l4)))
                   clear HE d1 d2 d3 d4 d5 d6 l1 l2 l3 l4 h1 h2 h3 h4
                   go_wp2_with fail
                   try rw [← HENS.out]
                   with_reducible refine HROT1.out.mono ?_
                   rintro e w1 ⟨rfl, hR1⟩
                   have HRR := Lib.hid (show SR w0 w1 g n c (P ++ (X1 ++ (Y1 ++ (X2 ++ (Y2 ++ S))))) from by simpa [List.append_assoc] using hR1)
                   clear hR1
                   have HLF1 := Lib.hid (HLF.out w1 HLL.out.1 HLL.out.2.2.1 HRR.out)
                   go_wp2_with fail
                   try rw [← HENS.out]
                   with_reducible refine HLF1.out.mono ?_
                   rintro e w2 ⟨rfl, Z1, hz1, ho1, hR2⟩
                   have HZ1 := Lib.hid hz1
                   have HO1 := Lib.hid ho1
                   have HR2 := Lib.hid hR2
                   clear hz1 ho1 hR2
                   have HRT1 := Lib.hid (HRT.out w2 Z1 (by have hh := HZ1.out.length_eq; have h2 := HLEN.out; rw [List.length_append] at hh; omega) HLL.out.2.1 HLL.out.2.2.2 (by have h0 := (show SR w0 w2 g n c (P ++ (Z1 ++ (X2 ++ (Y2 ++ S)))) from HR2.out); simpa [List.append_assoc] using h0))
                   go_wp2_with fail
                   try rw [← HENS.out]
                   with_reducible refine HRT1.out.mono ?_
                   rintro e w3 ⟨rfl, Z2, hz2, ho2, hR3⟩
                   have HFF := Lib.hid (HFIN.out w3 Z1 Z2 HZ1.out HO1.out hz2 ho2 (by simpa [List.append_assoc] using hR3))
                   clear hz2 ho2 hR3
                   go_wp2_with fail
                   go_end0
                   exact HFF.out)
              · first
                | (exfalso; have hz := HENS.out; omega)
                | (have HE := HENS.out
                   have d1 : a < st := h1
                   have d2 : st < m := h2
                   have d3 : st < mid := h3
                   have d4 : ¬ (en < b) := h4
                   have d5 : m < en := by omega
                   have d6 : mid < en := by omega
                   have i1 : (a : Int) < (st : Int) := by omega
                   have i2 : (st : Int) < (m : Int) := by omega
                   have i3 : (st : Int) < (mid : Int) := by omega
                   have i4 : ¬ ((en : Int) < (b : Int)) := by omega
                   have i5 : (m : Int) < (en : Int) := by omega
                   have i6 : (mid : Int) < (en : Int) := by omega
                   have l1 : 0 < X1.length := by have := HLEN.out.1; omega
                   have l2 : 0 < X2.length := by have := HLEN.out.2.1; omega
                   have l3 : 0 < Y1.length := by have := HLEN.out.2.2.1; omega
                   have l4 : Y2 = [] := HNIL.out _ (by have := HLEN.out.2.2.2; omega)
                   have HROT1 := Lib.hid (HROT.out l2 l3)
                   have HLL := Lib.hid (And.intro l1 (And.intro l2 (And.intro l3 l4)))
                   clear HE d1 d2 d3 d4 d5 d6 l1 l2 l3 l4 h1 h2 h3 h4
                   go_wp2_with fail
                   try rw [← HENS.out]
                   with_reducible refine HROT1.out.mono ?_
                   rintro e w1 ⟨rfl, hR1⟩
                   have HRR := Lib.hid (show SR w0 w1 g n c (P ++ (X1 ++ (Y1 ++ (X2 ++ (Y2 ++ S))))) from by simpa [List.append_assoc] using hR1)
                   clear hR1
                   have HLF1 := Lib.hid (HLF.out w1 HLL.out.1 HLL.out.2.2.1 HRR.out)
                   go_wp2_with fail
                   try rw [← HENS.out]
                   with_reducible refine HLF1.out.mono ?_
                   rintro e w2 ⟨rfl, Z1, hz1, ho1, hR2⟩
                   have HZ1 := Lib.hid hz1
                   have HO1 := Lib.hid ho1
                   have HR2 := Lib.hid hR2
                   clear hz1 ho1 hR2
                   have HFF := Lib.hid (HFIN.out w2 Z1 (X2 ++ Y2) HZ1.out HO1.out (List.Perm.refl _) (by rw [HLL.out.2.2.2, List.append_nil]; exact HP1.out.2.1) (by have h0 := (show SR w0 w2 g n c (P ++ (Z1 ++ (X2 ++ (Y2 ++ S)))) from HR2.out); simpa [List.append_assoc] using h0))
                   go_wp2_with fail
                   go_end0
                   exact HFF.out)
            · by_cases h4 : en < b
              · first
                | (exfalso; have hz := HENS.out; omega)
                | (have HE := HENS.out
                   have d1 : a < st := h1
                   have d2 : st < m := h2
                   have d3 : ¬ (st < mid) := h3
                   have d4 : en < b := h4
                   have d5 : ¬ (m < en) := by omega
                   have d6 : mid < en := by omega
                   have i1 : (a : Int) < (st : Int) := by omega
                   have i2 : (st : Int) < (m : Int) := by omega
                   have i3 : ¬ ((st : Int) < (mid : Int)) := by omega
                   have i4 : (en : Int) < (b : Int) := by omega
                   have i5 : ¬ ((m : Int) < (en : Int)) := by omega
                   have i6 : (mid : Int) < (en : Int) := by omega
                   have l1 : 0 < X1.length := by have := HLEN.out.1; omega
                   have l2 : 0 < X2.length := by have := HLEN.out.2.1; omega
                   have l3 : Y1 = [] := HNIL.out _ (by have := HLEN.out.2.2.1; omega)
                   have l4 : 0 < Y2.length := by have := HLEN.out.2.2.2; omega
                   have HRR := Lib.hid (HNR.out (.inr l3))
                   have HLL := Lib.hid (And.intro l1 (And.intro l2 (And.intro l3 l4)))
                   clear HE d1 d2 d3 d4 d5 d6 l1 l2 l3 l4 h1 h2 h3 h4
                   have HRT1 := Lib.hid (HRT.out wr (X1 ++ Y1) (by have h2 := HLEN.out; rw [List.length_append]; omega) HLL.out.2.1 HLL.out.2.2.2 (by have h0 := (show SR w0 wr g n c (P ++ ((X1 ++ Y1) ++ (X2 ++ (Y2 ++ S)))) from (by simpa [List.append_assoc] using HRR.out)); simpa [List.append_assoc] using h0))
                   go_wp2_with fail
                   try rw [← HENS.out]
                   with_reducible refine HRT1.out.mono ?_
                   rintro e w3 ⟨rfl, Z2, hz2, ho2, hR3⟩
                   have HFF := Lib.hid (HFIN.out w3 (X1 ++ Y1) Z2 (List.Perm.refl _) (by rw [HLL.out.2.2.1, List.append_nil]; exact HP1.out.1) hz2 ho2 (by simpa [List.append_assoc] using hR3))
                   clear hz2 ho2 hR3
                   go_wp2_with fail
                   go_end0
                   exact HFF.out)
              · exfalso
                have := HENS.out
                omega
          · by_cases h3 : st < mid
            · by_cases h4 : en < b
              · first
                | (exfalso; have hz := HENS.out; omega)
                | (have HE := HENS.out
                   have d1 : a < st := h1
                   have d2 : ¬ (st < m) := h2
                   have d3 : st < mid := h3
                   have d4 : en < b := h4
                   have d5 : m < en := by omega
                   have d6 : ¬ (mid < en) := by omega
                   have i1 : (a : Int) < (st : Int) := by omega
                   have i2 : ¬ ((st : Int) < (m : Int)) := by omega
                   have i3 : (st : Int) < (mid : Int) := by omega
                   have i4 : (en : Int) < (b : Int) := by omega
                   have i5 : (m : Int) < (en : Int) := by omega
                   have i6 : ¬ ((mid : Int) < (en : Int)) := by omega
                   have l1 : 0 < X1.length := by have := HLEN.out.1; omega
                   have l2 : X2 = [] := HNIL.out _ (by have := HLEN.out.2.1; omega)
                   have l3 : 0 < Y1.length := by have := HLEN.out.2.2.1; omega
                   have l4 : 0 < Y2.length := by have := HLEN.out.2.2.2; omega
                   have HRR := Lib.hid (HNR.out (.inl l2))
                   have HLL := Lib.hid (And.intro l1 (And.intro l2 (And.intro l3 l4)))
                   clear HE d1 d2 d3 d4 d5 d6 l1 l2 l3 l4 h1 h2 h3 h4
                   have HLF1 := Lib.hid (HLF.out wr HLL.out.1 HLL.out.2.2.1 HRR.out)
                   go_wp2_with fail
                   try rw [← HENS.out]
                   with_reducible refine HLF1.out.mono ?_
                   rintro e w2 ⟨rfl, Z1, hz1, ho1, hR2⟩
                   have HZ1 := Lib.hid hz1
                   have HO1 := Lib.hid ho1
                   have HR2 := Lib.hid hR2
                   clear hz1 ho1 hR2
                   have HFF := Lib.hid (HFIN.out w2 Z1 (X2 ++ Y2) HZ1.out HO1.out (List.Perm.refl _) (by rw [HLL.out.2.1, List.nil_append]; exact HP2.out.2.1) (by have h0 := (show SR w0 w2 g n c (P ++ (Z1 ++ (X2 ++ (Y2 ++ S)))) from HR2.out); simpa [List.append_assoc] using h0))
                   go_wp2_with fail
                   go_end0
                   exact HFF.out)
              · first
                | (exfalso; have hz := HENS.out; omega)
                | (have HE := HENS.out
                   have d1 : a < st := h1
                   have d2 : ¬ (st < m) := h2
                   have d3 : st < mid := h3
                   have d4 : ¬ (en < b) := h4
                   have d5 : m < en := by omega
                   have d6 : ¬ (mid < en) := by omega
                   have i1 : (a : Int) < (st : Int) := by omega
                   have i2 : ¬ ((st : Int) < (m : Int)) := by omega
                   have i3 : (st : Int) < (mid : Int) := by omega
                   have i4 : ¬ ((en : Int) < (b : Int)) := by omega
                   have i5 : (m : Int) < (en : Int) := by omega
                   have i6 : ¬ ((mid : Int) < (en : Int)) := by omega
                   have l1 : 0 < X1.length := by have := HLEN.out.1; omega
                   have l2 : X2 = [] := HNIL.out _ (by have := HLEN.out.2.1; omega)
                   have l3 : 0 < Y1.length := by have := HLEN.out.2.2.1; omega
                   have l4 : Y2 = [] := HNIL.out _ (by have := HLEN.out.2.2.2; omega)
                   have HRR := Lib.hid (HNR.out (.inl l2))
                   have HLL := Lib.hid (And.intro l1 (And.intro l2 (And.intro l3 l4)))
                   clear HE d1 d2 d3 d4 d5 d6 l1 l2 l3 l4 h1 h2 h3 h4
                   have HLF1 := Lib.hid (HLF.out wr HLL.out.1 HLL.out.2.2.1 HRR.out)
                   go_wp2_with fail
                   try rw [← HENS.out]
                   with_reducible refine HLF1.out.mono ?_
                   rintro e w2 ⟨rfl, Z1, hz1, ho1, hR2⟩
                   have HZ1 := Lib.hid hz1
                   have HO1 := Lib.hid ho1
                   have HR2 := Lib.hid hR2
                   clear hz1 ho1 hR2
                   have HFF := Lib.hid (HFIN.out w2 Z1 (X2 ++ Y2) HZ1.out HO1.out (List.Perm.refl _) (by rw [HLL.out.2.1, List.nil_append]; exact HP2.out.2.1) (by have h0 := (show SR w0 w2 g n c (P ++ (Z1 ++ (X2 ++ (Y2 ++ S)))) from HR2.out); simpa [List.append_assoc] using h0))
                   go_wp2_with fail
                   go_end0
                   exact HFF.out)
            · by_cases h4 : en < b
              · first
                | (exfalso; have hz := HENS.out; omega)
                | (have HE := HENS.out
                   have d1 : a < st := h1
                   have d2 : ¬ (st < m) := h2
                   have d3 : ¬ (st < mid) := h3
                   have d4 : en < b := h4
                   have d5 : ¬ (m < en) := by omega
                   have d6 : ¬ (mid < en) := by omega
                   have i1 : (a : Int) < (st : Int) := by omega
                   have i2 : ¬ ((st : Int) < (m : Int)) := by omega
                   have i3 : ¬ ((st : Int) < (mid : Int)) := by omega
                   have i4 : (en : Int) < (b : Int) := by omega
                   have i5 : ¬ ((m : Int) < (en : Int)) := by omega
                   have i6 : ¬ ((mid : Int) < (en : Int)) := by omega
                   have l1 : 0 < X1.length := by have := HLEN.out.1; omega
                   have l2 : X2 = [] := HNIL.out _ (by have := HLEN.out.2.1; omega)
                   have l3 : Y1 = [] := HNIL.out _ (by have := HLEN.out.2.2.1; omega)
                   have l4 : 0 < Y2.length := by have := HLEN.out.2.2.2; omega
                   have HRR := Lib.hid (HNR.out (.inl l2))
                   have HLL := Lib.hid (And.intro l1 (And.intro l2 (And.intro l3 l4)))
                   clear HE d1 d2 d3 d4 d5 d6 l1 l2 l3 l4 h1 h2 h3 h4
                   have HFF := Lib.hid (HFIN.out wr (X1 ++ Y1) (X2 ++ Y2) (List.Perm.refl _) (by rw [HLL.out.2.2.1, List.append_nil]; exact HP1.out.1) (List.Perm.refl _) (by rw [HLL.out.2.1, List.nil_append]; exact HP2.out.2.1) (by have h0 := (show SR w0 wr g n c (P ++ ((X1 ++ Y1) ++ (X2 ++ (Y2 ++ S)))) from (by simpa [List.append_assoc] using HRR.out)); simpa [List.append_assoc] using h0))
                   go_wp2_with fail
                   go_end0
                   exact HFF.out)
              · exfalso
                have := HENS.out
                omega
        · by_cases h2 : st < m
          · by_cases h3 : st < mid
            · by_cases h4 : en < b
              · first
                | (exfalso; have hz := HENS.out; omega)
                | (have HE := HENS.out
                   have d1 : ¬ (a < st) := h1
                   have d2 : st < m := h2
                   have d3 : st < mid := h3
                   have d4 : en < b := h4
                   have d5 : m < en := by omega
                   have d6 : mid < en := by omega
                   have i1 : ¬ ((a : Int) < (st : Int)) := by omega
                   have i2 : (st : Int) < (m : Int) := by omega
                   have i3 : (st : Int) < (mid : Int) := by omega
                   have i4 : (en : Int) < (b : Int) := by omega
                   have i5 : (m : Int) < (en : Int) := by omega
                   have i6 : (mid : Int) < (en : Int) := by omega
                   have l1 : X1 = [] := HNIL.out _ (by have := HLEN.out.1; omega)
                   have l2 : 0 < X2.length := by have := HLEN.out.2.1; omega
                   have l3 : 0 < Y1.length := by have := HLEN.out.2.2.1; omega
                   have l4 : 0 < Y2.length := by have := HLEN.out.2.2.2; omega
                   have HROT1 := Lib.hid (HROT.out l2 l3)
                   have HLL := Lib.hid (And.intro l1 (And.intro l2 (And.intro l3 l4)))
                   clear HE d1 d2 d3 d4 d5 d6 l1 l2 l3 l4 h1 h2 h3 h4
                   go_wp2_with fail
                   try rw [← HENS.out]
                   with_reducible refine HROT1.out.mono ?_
                   rintro e w1 ⟨rfl, hR1⟩
                   have HRR := Lib.hid (show SR w0 w1 g n c (P ++ (X1 ++ (Y1 ++ (X2 ++ (Y2 ++ S))))) from by simpa [List.append_assoc] using hR1)
                   clear hR1
                   have HRT1 := Lib.hid (HRT.out w1 (X1 ++ Y1) (by have h2 := HLEN.out; rw [List.length_append]; omega) HLL.out.2.1 HLL.out.2.2.2 (by have h0 := (show SR w0 w1 g n c (P ++ ((X1 ++ Y1) ++ (X2 ++ (Y2 ++ S)))) from (by simpa [List.append_assoc] using HRR.out)); simpa [List.append_assoc] using h0))
                   go_wp2_with fail
                   try rw [← HENS.out]
                   with_reducible refine HRT1.out.mono ?_
                   rintro e w3 ⟨rfl, Z2, hz2, ho2, hR3⟩
                   have HFF := Lib.hid (HFIN.out w3 (X1 ++ Y1) Z2 (List.Perm.refl _) (by rw [HLL.out.1, List.nil_append]; exact HP2.out.1) hz2 ho2 (by simpa [List.append_assoc] using hR3))
                   clear hz2 ho2 hR3
                   go_wp2_with fail
                   go_end0
                   exact HFF.out)
              · first
                | (exfalso; have hz := HENS.out; omega)
                | (have HE := HENS.out
                   have d1 : ¬ (a < st) := h1
                   have d2 : st < m := h2
                   have d3 : st < mid := h3
                   have d4 : ¬ (en < b) := h4
                   have d5 : m < en := by omega
                   have d6 : mid < en := by omega
                   have i1 : ¬ ((a : Int) < (st : Int)) := by omega
                   have i2 : (st : Int) < (m : Int) := by omega
                   have i3 : (st : Int) < (mid : Int) := by omega
                   have i4 : ¬ ((en : Int) < (b : Int)) := by omega
                   have i5 : (m : Int) < (en : Int) := by omega
                   have i6 : (mid : Int) < (en : Int) := by omega
                   have l1 : X1 = [] := HNIL.out _ (by have := HLEN.out.1; omega)
                   have l2 : 0 < X2.length := by have := HLEN.out.2.1; omega
                   have l3 : 0 < Y1.length := by have := HLEN.out.2.2.1; omega
                   have l4 : Y2 = [] := HNIL.out _ (by have := HLEN.out.2.2.2; omega)
                   have HROT1 := Lib.hid (HROT.out l2 l3)
                   have HLL := Lib.hid (And.intro l1 (And.intro l2 (And.intro l3 l4)))
                   clear HE d1 d2 d3 d4 d5 d6 l1 l2 l3 l4 h1 h2 h3 h4
                   go_wp2_with fail
                   try rw [← HENS.out]
                   with_reducible refine HROT1.out.mono ?_
                   rintro e w1 ⟨rfl, hR1⟩
                   have HRR := Lib.hid (show SR w0 w1 g n c (P ++ (X1 ++ (Y1 ++ (X2 ++ (Y2 ++ S))))) from by simpa [List.append_assoc] using hR1)
                   clear hR1
                   have HFF := Lib.hid (HFIN.out w1 (X1 ++ Y1) (X2 ++ Y2) (List.Perm.refl _) (by rw [HLL.out.1, List.nil_append]; exact HP2.out.1) (List.Perm.refl _) (by rw [HLL.out.2.2.2, List.append_nil]; exact HP1.out.2.1) (by have h0 := (show SR w0 w1 g n c (P ++ ((X1 ++ Y1) ++ (X2 ++ (Y2 ++ S)))) from (by simpa [List.append_assoc] using HRR.out)); simpa [List.append_assoc] using h0))
                   go_wp2_with fail
                   go_end0
                   exact HFF.out)
            · by_cases h4 : en < b
              · first
                | (exfalso; have hz := HENS.out; omega)
                | (have HE := HENS.out
                   have d1 : ¬ (a < st) := h1
                   have d2 : st < m := h2
                   have d3 : ¬ (st < mid) := h3
                   have d4 : en < b := h4
                   have d5 : ¬ (m < en) := by omega
                   have d6 : mid < en := by omega
                   have i1 : ¬ ((a : Int) < (st : Int)) := by omega
                   have i2 : (st : Int) < (m : Int) := by omega
                   have i3 : ¬ ((st : Int) < (mid : Int)) := by omega
                   have i4 : (en : Int) < (b : Int) := by omega
                   have i5 : ¬ ((m : Int) < (en : Int)) := by omega
                   have i6 : (mid : Int) < (en : Int) := by omega
                   have l1 : X1 = [] := HNIL.out _ (by have := HLEN.out.1; omega)
                   have l2 : 0 < X2.length := by have := HLEN.out.2.1; omega
                   have l3 : Y1 = [] := HNIL.out _ (by have := HLEN.out.2.2.1; omega)
                   have l4 : 0 < Y2.length := by have := HLEN.out.2.2.2; omega
                   have HRR := Lib.hid (HNR.out (.inr l3))
                   have HLL := Lib.hid (And.intro l1 (And.intro l2 (And.intro l3 l4)))
                   clear HE d1 d2 d3 d4 d5 d6 l1 l2 l3 l4 h1 h2 h3 h4
                   have HRT1 := Lib.hid (HRT.out wr (X1 ++ Y1) (by have h2 := HLEN.out; rw [List.length_append]; omega) HLL.out.2.1 HLL.out.2.2.2 (by have h0 := (show SR w0 wr g n c (P ++ ((X1 ++ Y1) ++ (X2 ++ (Y2 ++ S)))) from (by simpa [List.append_assoc] using HRR.out)); simpa [List.append_assoc] using h0))
                   go_wp2_with fail
                   try rw [← HENS.out]
                   with_reducible refine HRT1.out.mono ?_
                   rintro e w3 ⟨rfl, Z2, hz2, ho2, hR3⟩
                   have HFF := Lib.hid (HFIN.out w3 (X1 ++ Y1) Z2 (List.Perm.refl _) (by rw [HLL.out.1, List.nil_append]; exact HP2.out.1) hz2 ho2 (by simpa [List.append_assoc] using hR3))
                   clear hz2 ho2 hR3
                   go_wp2_with fail
                   go_end0
                   exact HFF.out)
              · exfalso
                have := HENS.out
                omega
          · by_cases h3 : st < mid
            · by_cases h4 : en < b
              · exfalso
                have := HENS.out
                omega
              · exfalso
                have := HENS.out
                omega
            · by_cases h4 : en < b
              · exfalso
                have := HENS.out
                omega
              · exfalso
                have := HENS.out
                omega
end Go.Proofs.Ytagfhlnedaagbaa
