/-
  For every ring and every play: the document's step by step.
-/
import Derived.Test.YtnmobalgghggnaaDoorPlA
import Derived.Deep.DeepCutAuto
import Derived.Deep.RegionHeld3
namespace Go.Proofs.YtnmobalgghggnaaDoor
open Go.RowKit
set_option linter.all false
set_option maxHeartbeats 3000000 in
set_option maxRecDepth 100000 in
theorem part_A : part.A := by
  set_option tactic.hygienic false in intro
  set_option tactic.hygienic false in intros
  have hh := of_decide_eq_true HZC.out.symm
  have HOV := Lib.hid hh.2
  clear hh
  have hov : DA.ov = false := HOV.out
  have HDC := Lib.hid (doc_s S DA U 80 cU f wr hP.sa hov hP.sys.SW hP.u hP.sys.ff (by omega) (by omega))
  obtain ⟨k0, k1, k2, k3, k4, k5, k6, k7, k8, k9, k10, k11, k12⟩ := hP.ba.all
  have HP := Lib.hid hP
  clear hP hov
  simp only [DS.V] at HDC
  skip
  go_wp2_with fail
  with_reducible refine HDC.out.mono ?_
  rintro e w6 ⟨D', U', c', rfl, hS', hov', hU', hB6, hL'⟩
  obtain ⟨P1, m1, q1, P2, m2, q2, P3, m3, q3, e3, e10, e11⟩ := hS'.vals
  simp only [DS.V, e3, e10, e11]
  have hb6 := HP.out.ba.keep hB6
  have hz6 : ∀ j, w6.frozen? ⟨wb.heap.size, j, none⟩ = false := fun j => by rw [hB6.frozen (p := ⟨wb.heap.size, j, none⟩) HP.out.lt.1]; exact HP.out.fa j
  have hx6 := boxed_of (D := D') hb6 hz6
  rw [e3, e10, e11] at hx6
  have HX := Lib.hid hx6
  clear hx6 e3 e10 e11
  clear k0 k1 k2 k3 k4 k5 k6 k7 k8 k9 k10 k11 k12
  obtain ⟨k0, k1, k2, k3, k4, k5, k6, k7, k8, k9, k10, k11, k12⟩ := hb6.all
  have HD6 := Lib.hid (And.intro hS' (And.intro hU' (And.intro hB6 hL')))
  have HOV' := Lib.hid hov'
  clear hS' hU' hB6 hL' hb6 hov'
  go_upto_region 25 with fail
  obtain ⟨w7, hw7⟩ : ∃ w7, w7 = (((((((((((((w6.setCell ⟨wb.heap.size, 0, none⟩ (.int .i64 D'.a)).setCell ⟨wb.heap.size, 1, none⟩ (.int .i64 D'.n)).setCell ⟨wb.heap.size, 2, none⟩ (.int .i64 D'.z)).setCell ⟨wb.heap.size, 3, none⟩ (.slice P1 m1 q1)).setCell ⟨wb.heap.size, 4, none⟩ (.int .i64 D'.ti)).setCell ⟨wb.heap.size, 5, none⟩ (.int .i64 D'.did)).setCell ⟨wb.heap.size, 6, none⟩ (.int .u32 D'.hd)).setCell ⟨wb.heap.size, 7, none⟩ (.int .u32 D'.tl)).setCell ⟨wb.heap.size, 8, none⟩ (.int .i64 D'.ln)).setCell ⟨wb.heap.size, 9, none⟩ (.string D'.tx)).setCell ⟨wb.heap.size, 10, none⟩ (.slice P2 m2 q2)).setCell ⟨wb.heap.size, 11, none⟩ (.slice P3 m3 q3)).setCell ⟨wb.heap.size, 12, none⟩ (.bool D'.ov)) := ⟨_, rfl⟩
  rw [← hw7] at HX ⊢
  clear hw7 k0 k1 k2 k3 k4 k5 k6 k7 k8 k9 k10 k11 k12 hz6
  have HP7 := Lib.hid (HP.out.docS (by omega) HD6.out.2.2.1 HD6.out.1 HD6.out.2.1 HD6.out.2.2.2 HX.out)
  have HST := Lib.hid (fun W (hB : Below w7.heap.size w7 W) => px_s (HP7.out.keep hB) (by omega))
  obtain ⟨dd, hdd⟩ : ∃ dd, dd = decide (5 ≤ (S.step 80 f).ph) := ⟨_, rfl⟩
  rw [← hdd] at HST HOV'
  have HDD := Lib.hid hdd
  have k12 := HP7.out.ba.all.2.2.2.2.2.2.2.2.2.2.2.2
  rw [HOV'.out] at k12
  clear hdd
  go_region_law ((go_simp; refine (HST.out _ (by repeat (first | exact Below.refl _ _ | refine Below.drew ?_ | refine below_drewN ?_ _))).mono ?_; rintro e w8 ⟨rfl, m8, c8, hP8⟩; have k12' := hP8.ba.all.2.2.2.2.2.2.2.2.2.2.2.2; rw [HOV'.out] at k12'))
  all_goals
    have HP8 := Lib.hid hP8
    clear hP8
    go_wp2_with fail
    go_meet
    case rel => exact ⟨_, _, _, _, _, U', c', _, _, rfl, HP8.out⟩
end Go.Proofs.YtnmobalgghggnaaDoor
/-
  For every ring and every play: the document's step by step.
-/
namespace Go.Proofs.YtnmobalgghggnaaDoor
open Go.RowKit
set_option linter.all false
set_option maxHeartbeats 3000000 in
set_option maxRecDepth 100000 in
theorem part_B : part.B := by
  set_option tactic.hygienic false in intro
  set_option tactic.hygienic false in intros
  have k12 := hP.bb.all.2.2.2.2.2.2.2.2.2.2.2.2
  by_cases h1 : x = 1
  · have h1b : (x == 1) = true := by simpa using h1
    cases hv : DB.ov
    · rw [hv] at k12
      have HOV := Lib.hid hv
      clear hv k12
      subst h1
      have hov : DB.ov = false := HOV.out
      have HDC := Lib.hid (doc_r r4_said R DB U 80 cU f wr hP.sb hov hP.sys.RW hP.u hP.sys.ff (by omega) (by omega))
      obtain ⟨k0, k1, k2, k3, k4, k5, k6, k7, k8, k9, k10, k11, k12⟩ := hP.bb.all
      have HP := Lib.hid hP
      clear hP hov
      simp only [DS.V] at HDC
      rw [HOV.out] at HDC k12
      go_wp2_with fail
      with_reducible refine HDC.out.mono ?_
      rintro e w6 ⟨D', U', c', rfl, hS', hov', hU', hB6, hL'⟩
      obtain ⟨P1, m1, q1, P2, m2, q2, P3, m3, q3, e3, e10, e11⟩ := hS'.vals
      simp only [DS.V, e3, e10, e11]
      have hb6 := HP.out.bb.keep hB6
      have hz6 : ∀ j, w6.frozen? ⟨wb.heap.size + 1, j, none⟩ = false := fun j => by rw [hB6.frozen (p := ⟨wb.heap.size + 1, j, none⟩) HP.out.lt.2]; exact HP.out.fb j
      have hx6 := boxed_of (D := D') hb6 hz6
      rw [e3, e10, e11] at hx6
      have HX := Lib.hid hx6
      clear hx6 e3 e10 e11
      clear k0 k1 k2 k3 k4 k5 k6 k7 k8 k9 k10 k11 k12
      obtain ⟨k0, k1, k2, k3, k4, k5, k6, k7, k8, k9, k10, k11, k12⟩ := hb6.all
      have HD6 := Lib.hid (And.intro hS' (And.intro hU' (And.intro hB6 hL')))
      have HOV' := Lib.hid hov'
      clear hS' hU' hB6 hL' hb6 hov'
      go_upto_region 29 with fail
      obtain ⟨w7, hw7⟩ : ∃ w7, w7 = (((((((((((((w6.setCell ⟨wb.heap.size + 1, 0, none⟩ (.int .i64 D'.a)).setCell ⟨wb.heap.size + 1, 1, none⟩ (.int .i64 D'.n)).setCell ⟨wb.heap.size + 1, 2, none⟩ (.int .i64 D'.z)).setCell ⟨wb.heap.size + 1, 3, none⟩ (.slice P1 m1 q1)).setCell ⟨wb.heap.size + 1, 4, none⟩ (.int .i64 D'.ti)).setCell ⟨wb.heap.size + 1, 5, none⟩ (.int .i64 D'.did)).setCell ⟨wb.heap.size + 1, 6, none⟩ (.int .u32 D'.hd)).setCell ⟨wb.heap.size + 1, 7, none⟩ (.int .u32 D'.tl)).setCell ⟨wb.heap.size + 1, 8, none⟩ (.int .i64 D'.ln)).setCell ⟨wb.heap.size + 1, 9, none⟩ (.string D'.tx)).setCell ⟨wb.heap.size + 1, 10, none⟩ (.slice P2 m2 q2)).setCell ⟨wb.heap.size + 1, 11, none⟩ (.slice P3 m3 q3)).setCell ⟨wb.heap.size + 1, 12, none⟩ (.bool D'.ov)) := ⟨_, rfl⟩
      rw [← hw7] at HX ⊢
      clear hw7 k0 k1 k2 k3 k4 k5 k6 k7 k8 k9 k10 k11 k12 hz6
      have HP7 := Lib.hid (HP.out.docR (by omega) HD6.out.2.2.1 HD6.out.1 HD6.out.2.1 HD6.out.2.2.2 HX.out)
      have HST := Lib.hid (fun W (hB : Below w7.heap.size w7 W) => px_r (HP7.out.keep hB) (by omega))
      obtain ⟨dd, hdd⟩ : ∃ dd, dd = decide (5 ≤ (R.step 80 f).ph) := ⟨_, rfl⟩
      rw [← hdd] at HST HOV'
      have HDD := Lib.hid hdd
      have k12 := HP7.out.bb.all.2.2.2.2.2.2.2.2.2.2.2.2
      rw [HOV'.out] at k12
      clear hdd
      go_region_law ((go_simp; refine (HST.out _ (by repeat (first | exact Below.refl _ _ | refine Below.drew ?_ | refine below_drewN ?_ _))).mono ?_; rintro e w8 ⟨rfl, m8, c8, hP8⟩; have k12' := hP8.bb.all.2.2.2.2.2.2.2.2.2.2.2.2; rw [HOV'.out] at k12'))
      all_goals
        have HP8 := Lib.hid hP8
        clear hP8
        go_wp2_with fail
        go_meet
        case rel => exact ⟨_, _, _, _, _, U', c', _, _, rfl, HP8.out⟩

    · rw [hv] at k12
      have HP := Lib.hid hP
      clear hP
      go_wp2_with fail
      go_meet
      case rel => exact ⟨S, R, f, DA, DB, U, cU, m, c, rfl, HP.out.more⟩
  · have h1b : (x == 1) = false := by simpa using h1
    have HP := Lib.hid hP
    clear hP
    go_wp2_with fail
    go_meet
    case rel => exact ⟨S, R, f, DA, DB, U, cU, m, c, rfl, HP.out.more⟩
end Go.Proofs.YtnmobalgghggnaaDoor
/-
  For every ring and every play: the document's step by step.
-/
namespace Go.Proofs.YtnmobalgghggnaaDoor
open Go.RowKit
set_option linter.all false
set_option maxHeartbeats 3000000 in
set_option maxRecDepth 100000 in
theorem part_C : part.C := by
  set_option tactic.hygienic false in intro
  set_option tactic.hygienic false in intros
  obtain ⟨S', R', f', DA', DB', U', cU', m', c', rfl, hP'⟩ := hcut
  have k10 := hP'.ba.all.2.2.2.2.2.2.2.2.2.2.1
  have k11 := hP'.bb.all.2.2.2.2.2.2.2.2.2.2.2.1
  have HP := Lib.hid hP'
  have K10 := Lib.hid k10
  have K11 := Lib.hid k11
  have HWD := Lib.hid (px_words hP')
  have HSM := Lib.hid (px_same hP' (by omega) cU')
  have HSN := Lib.hid (px_sent hP')
  have HSA := Lib.hid (px_sames hP')
  have HGT := Lib.hid (px_got hP')
  have HTX := Lib.hid (px_texts hP')
  obtain ⟨nS, hnS⟩ : ∃ nS, nS = (S'.sent.map Value.bool).length := ⟨_, rfl⟩
  obtain ⟨nG, hnG⟩ : ∃ nG, nG = (R'.got.map Value.string).length := ⟨_, rfl⟩
  rw [← hnS] at HSN HSA
  rw [← hnG] at HGT HTX
  have hbb : Below wc.heap.size wc wc := Below.refl _ _
  clear hP' hnS hnG
  go_wp2_with fail
  go_region_law ((go_simp; first
    | (refine (HWD.out _ (by first | assumption | exact hbb.drew)).mono ?_; rintro e x1 ⟨d1, rfl, hO1, hb1⟩; have k10 := kept K10.out hb1; have k11 := kept K11.out hb1)
    | (refine (HSM.out _ _ (by assumption) (by assumption)).mono ?_; rintro e x2 ⟨rfl, hb2⟩; have k10 := kept K10.out hb2; have k11 := kept K11.out hb2)
    | (refine (HSN.out _ (by assumption)).mono ?_; rintro e x3 ⟨d3, rfl, hO3, hb3⟩; have k10 := kept K10.out hb3; have k11 := kept K11.out hb3)
    | (refine (HSA.out _ _ (by assumption) (by assumption)).mono ?_; rintro e x4 ⟨rfl, hb4⟩; have k10 := kept K10.out hb4; have k11 := kept K11.out hb4)
    | (refine (HGT.out _ (by assumption)).mono ?_; rintro e x5 ⟨d5, rfl, hO5, hb5⟩; have k10 := kept K10.out hb5; have k11 := kept K11.out hb5)
    | (refine (HTX.out _ _ (by assumption) (by assumption)).mono ?_; rintro e x6 ⟨rfl, hb6⟩; have k10 := kept K10.out hb6; have k11 := kept K11.out hb6)))
  all_goals
    have HPZ := Lib.hid (HP.out.keep (by assumption))
    go_wp2_with fail
    go_roundw
    case rel => exact ⟨k + 1, S', R', f', DA', DB', U', cU', m', c', by omega, by go_num, rfl, by rw [show (1000 : Int) + ((k + 1 : Nat) : Int) = 1000 + k + 1 by omega]; exact HPZ.out⟩
    case measure => simp [intOf]; omega
end Go.Proofs.YtnmobalgghggnaaDoor
/-
  For every ring and every play: the pieces put together.
-/
namespace Go.Proofs.YtnmobalgghggnaaDoor
open Go.RowKit
set_option linter.all false
theorem walk_plays (a r z t : Int) (h t2 : Int) (A1 A2 : Option Addr) (c1 n2 c2 : Nat) (L : List ByteArray) (q : Nat → Int) (w : World) (hG : GOk w) (hr : -9223372036854775808 ≤ r ∧ r ≤ 9223372036854775807) (ht : t ≤ 9223372036854775807) (hh : 0 ≤ h ∧ h < 4294967296) (ht2 : 0 ≤ t2 ∧ t2 < 4294967296) (hM : Strs w.heap.size w A1 L) (hs : ∀ i, i < L.length → (L.getD i ByteArray.empty).size ≤ 9223372036854775807) (hl : L.length ≤ 9223372036854775807) (hA2 : ArgN .u8 w.heap.size w A2 n2 q) (hn2 : n2 ≤ 9223372036854775807) :
    Calls Tryd.prog 4 #[.agg #[.int .i64 a, .int .i64 r, .int .i64 z, .int .i64 t], .agg (playC h t2 A1 L.length c1 A2 n2 c2).toArray] w fun e w' => e = .returned (.bool true) ∧ Below w.heap.size w w' :=
  part.imp ⟨part_A⟩ ⟨part_B⟩ ⟨part_C⟩ a r z t h t2 A1 A2 c1 n2 c2 L q w hG hr ht hh ht2 hM hs hl hA2 hn2
end Go.Proofs.YtnmobalgghggnaaDoor
