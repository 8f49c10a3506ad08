/-
  The walk of StepsOnce.
-/
import Derived.Test.YtdhanenbcjmfkaaDoorOnce
namespace Go.Proofs.YtdhanenbcjmfkaaDoor
open Go.RowKit

theorem once_start (w : World) (T : Nat → Int) (n : Nat) : OnceRel1 T n w (.slice (some ⟨w.heap.size + 1, 0, none⟩) 0 0) (.int .i64 0) ((w.alloc (.cells #[.int .i64 0, .int .i64 0, .int .i64 0, .int .i64 0, .int .i64 0, .int .i64 0, .int .i64 0, .int .i64 0, .int .i64 0, .int .i64 0, .int .i64 0, .int .i64 0, .int .i64 0, .int .i64 0, .int .i64 0, .int .i64 0] 62)).alloc (.cells #[] 32)) := by
  refine ⟨0, w.heap.size + 1, 0, fun _ => 0, Nat.zero_le _, rfl, rfl, ?_, fun j hj => absurd hj (by omega), ?_, by omega, by simp, ?_⟩
  · have h := World.rowIs_alloc w #[.int .i64 0, .int .i64 0, .int .i64 0, .int .i64 0, .int .i64 0, .int .i64 0, .int .i64 0, .int .i64 0, .int .i64 0, .int .i64 0, .int .i64 0, .int .i64 0, .int .i64 0, .int .i64 0, .int .i64 0, .int .i64 0] 62 (ownF (fun _ => 0) (fun _ => 0)) (fun i hi => by
      have e : ownF (fun _ => 0) (fun _ => 0) i = .int .i64 0 := by unfold ownF; split <;> rfl
      rw [e]
      simp at hi
      match i, hi with
      | 0, _ | 1, _ | 2, _ | 3, _ | 4, _ | 5, _ | 6, _ | 7, _ | 8, _ | 9, _ | 10, _ | 11, _ | 12, _ | 13, _ | 14, _ | 15, _ => rfl
      | _ + 16, h => exact absurd h (by omega))
    exact h.alloc _
  · have h := World.ownsRow_lit (base := w.heap.size) (e := 32) (size := 1) (w.alloc (.cells #[.int .i64 0, .int .i64 0, .int .i64 0, .int .i64 0, .int .i64 0, .int .i64 0, .int .i64 0, .int .i64 0, .int .i64 0, .int .i64 0, .int .i64 0, .int .i64 0, .int .i64 0, .int .i64 0, .int .i64 0, .int .i64 0] 62)) #[] 0 (by simp) (by decide) rfl
    simpa using h
  · exact ((Below.refl _ _).alloc (Nat.le_refl _) _).alloc (by simp) _
theorem once_next {T : Nat → Int} {n k g g' cap' : Nat} {la : Nat → Int} {w2 wr w3 : World} (hk : k < n) (hrow : wr.rowIs w2.heap.size 62 16 (ownF (fun _ => 0) la)) (hla : ∀ j, j < k → la j = lst T j) (hg : w2.heap.size < g) (hB : Below w2.heap.size w2 wr) {v : Int} (hv : v = lst T k)
    (hown : w3.ownsRow w2.heap.size 32 1 (.slice (some ⟨g', 0, none⟩) (k + 1) cap') (k + 1) (((List.range k).map fun j => pv 63 ⟨w2.heap.size, j * 2, none⟩) ++ [pv 63 ⟨w2.heap.size, k * 2, none⟩]))
    (hC : Chg (fun x => x = g) (wr.setCell ⟨w2.heap.size, k * 2 + 1, none⟩ (.int .i64 v)) w3) (hg' : g' = g ∨ wr.heap.size < g') (hlt : g' < w3.heap.size) :
    OnceRel1 T n w2 (.slice (some ⟨g', 0, none⟩) (k + 1) cap') (.int .i64 ((k : Int) + 1)) w3 := by
  have hr2 := (hrow.set (k * 2 + 1) (.int .i64 v)).congr fun j _ => ownF_setla (fun _ => 0) la k v j
  have hs := hB.size
  have hl := hrow.lt
  refine ⟨k + 1, g', cap', upd la k v, by omega, by go_num, rfl, hr2.of_block (hC.block _ (by simpa using hl) (by omega)), fun j hj => ?_, ?_, ?_, hlt, ?_⟩
  · by_cases e : j = k
    · subst e; rw [upd_same, hv]
    · rw [upd_other e]; exact hla j (by omega)
  · rw [List.range_succ, List.map_append]; exact hown
  · omega
  · exact (show Below w2.heap.size w2 (wr.setCell ⟨w2.heap.size, k * 2 + 1, none⟩ (.int .i64 v)) from hB.setCell (Nat.le_refl _) _).trans (hC.below (fun x e => by omega) (by simpa using hs))
theorem onceAt_of {w3 w4 : World} {n g b g' cap' : Nat} {T la : Nat → Int} {w2 : World} {e : Ending} (hn : n ≤ 8) (hrow : w3.rowIs w2.heap.size 62 16 (ownF (fun _ => 0) la)) (hla : ∀ j, j < n → la j = lst T j) (_ : g' < w3.heap.size) (hM : NewM g n (fun j => pv 63 ⟨w2.heap.size, j * 2, none⟩) w3 e w4) (_ : b ≤ cap') :
    ∃ X A TB cap D, e = .returned (.pointer (some ⟨X, 0, none⟩)) ∧ OnceAt w4 X g A TB n cap D w2.heap.size 62 (fun _ => 0) la ∧ Below w3.heap.size w3 w4 ∧ w3.heap.size ≤ D := by
  obtain ⟨X, A, TB, cap, D, rfl, hMa, h1, h2, h3, h4, h5, hB⟩ := hM
  have hl := hrow.lt
  exact ⟨X, A, TB, cap, D, rfl, ⟨hMa.congr fun i hi => by rw [hla i hi]; have := lst_rng T i; exact (decide_eq_false (by omega)).symm, hrow.of_block (hB.block _ hl), by omega, by omega, by omega, hn, fun i hi => by rw [hla i hi]; have := lst_rng T i; omega, h4, h5⟩, hB, h3⟩
theorem once_start2 {w w3 : World} {X g b : Nat} {A : Option Addr} {TB n cap D O L : Nat} {la : Nat → Int} (h : OnceAt w3 X g A TB n cap D O 62 (fun _ => 0) la) (hM : MemAt w3 g b 1 (fun _ => 0) 0) (hB : Below w.heap.size w w3) :
    OnceRel2 X g b A TB n cap D O w3.heap.size la L w (.int .i64 0) (w3.alloc (.cells #[.int .i64 0, .int .i64 0, .int .i64 0, .int .i64 0, .int .i64 0, .int .i64 0, .int .i64 0, .int .i64 0] 64)) := by
  have hA : Below w3.heap.size w3 (w3.alloc (.cells #[.int .i64 0, .int .i64 0, .int .i64 0, .int .i64 0, .int .i64 0, .int .i64 0, .int .i64 0, .int .i64 0] 64)) := (Below.refl _ _).alloc (Nat.le_refl _) _
  refine ⟨0, fun _ => 0, Nat.zero_le _, by omega, rfl, h.chg (S := fun _ => False) (Chg.of_below hA) (fun e => e) (fun e => e) (fun e => e) (fun e => e), ?_, hM.keep hA, hB.alloc hB.size _⟩
  exact World.rowIs_alloc w3 #[.int .i64 0, .int .i64 0, .int .i64 0, .int .i64 0, .int .i64 0, .int .i64 0, .int .i64 0, .int .i64 0] 64 _ (fun i hi => by
    simp at hi
    match i, hi with
    | 0, _ | 1, _ | 2, _ | 3, _ | 4, _ | 5, _ | 6, _ | 7, _ => rfl
    | _ + 8, h => exact absurd h (by omega))
set_option maxHeartbeats 8000000 in
set_option maxRecDepth 100000 in
theorem walk_once (A P : Option Addr) (n ca L cp : Nat) (T q : Nat → Int) (w : World) (hG : GOk w) (hA : ArgN .u8 w.heap.size w A n T) (hT : ∀ i, i < n → 0 ≤ T i ∧ T i < 256) (hP : ArgN .i64 w.heap.size w P L q) (hn : n ≤ 1000000000000000) (_ : L ≤ 1000000000000000) :
    Calls Tryd.prog 7 #[.slice A n ca, .slice P L cp] w fun e w' => e = .returned (.bool true) ∧ Below w.heap.size w w' := by
  have HG := Lib.hid hG
  have HA := Lib.hid hA
  have HT := Lib.hid hT
  have HP := Lib.hid hP
  clear hG hA hT hP
  by_cases h6 : 8 < n
  · go_enter Tryd.func7, Tryd.ntmps7
    go_wp2_with fail
    with_reducible refine (new_one 1 (by omega) (by omega) 1 rfl _).mono ?_
    rintro e w1 ⟨g1, b1, rfl, hM1, hg1, hb1, hB1⟩
    have HB1 := Lib.hid hB1
    clear hM1 hg1 hb1 hB1
    go_wp2_with fail
    with_reducible refine (awake_any _ (HG.out.keep HB1.out)).mono ?_
    rintro e w2 ⟨rfl, hB2⟩
    have HB2 := Lib.hid (below_two HB1.out hB2)
    clear hB2
    go_wp2_with fail
    with_reducible refine (awake_any _ (HG.out.keep HB2.out)).mono ?_
    rintro e w3 ⟨rfl, hB3⟩
    have HB3 := Lib.hid (below_two HB2.out hB3)
    clear hB3
    go_wp2_with fail
    go_ret
    exact ⟨rfl, HB3.out⟩
  · have h6' : n ≤ 8 := by omega
    have h6i : ¬ ((8 : Int) < (n : Int)) := by omega
    clear h6
    go_enter Tryd.func7, Tryd.ntmps7
    go_wp2_with fail
    with_reducible refine (new_one 1 (by omega) (by omega) 1 rfl _).mono ?_
    rintro e w1 ⟨g1, b1, rfl, hM1, hg1, hb1, hB1⟩
    have HBa := Lib.hid (base_new HG.out hM1 hg1 hb1 hB1)
    clear hM1 hg1 hb1 hB1
    go_wp2_with fail
    with_reducible refine (awake_any _ HBa.out.gok).mono ?_
    rintro e w2 ⟨rfl, hB2⟩
    have HBb := Lib.hid (HBa.out.keep hB2)
    clear hB2
    go_wp2_with fail
    go_loopw [8, 9] (fun ts i wr => OnceRel1 T n w2 ts i wr) (fun _ i _ => n - (intOf i).toNat)
    case atStart => exact once_start w2 T n
    case round =>
      obtain ⟨k, g, cap, la, hk, rfl, rfl, hrow, hla, hown, hg2, hglt, hBr⟩ := hrel
      have HROW := Lib.hid hrow
      have HLA := Lib.hid hla
      have HOWN := Lib.hid hown
      have HBR := Lib.hid hBr
      clear hrow hla hown hBr
      by_cases hlt : k < n
      · obtain ⟨b, o, rfl⟩ := HA.out.head hlt
        have hcell := (HA.out.keep (HBb.out.bel.trans (HBR.out.mono HBb.out.bel.size))).cell hlt
        obtain ⟨ht0, ht1⟩ := HT.out k hlt
        obtain ⟨y, hy⟩ : ∃ y, y = T k := ⟨_, rfl⟩
        have HY : Hid (lst T k = 1 + y % 9) := Lib.hid (by rw [hy]; rfl)
        rw [← hy] at hcell ht0 ht1
        have c1 := HROW.out.cell (i := k * 2 + 1) (by omega)
        rw [ownF_la] at c1
        have f1 := HROW.out.frozen (k * 2 + 1)
        have hk0 : (0 : Int) ≤ (k : Int) := by omega
        have hk8 : (k : Int) < 8 := by omega
        clear hy
        go_wp2_with (at_builtin; refine wpList_append_one rfl _ _ rfl (pv 63 ⟨w2.heap.size, k * 2, none⟩) rfl (ownsRow_same HOWN.out (Below.heap_setCell _ _ _ _ (by simp; omega))) (by have := HBR.out.size; simp; omega) (by simpa using hglt) (by omega) (by rfl) wr.heap.size (by simp) (by rfl) ?_)
        intro g' cap' w4 hown4 hC4 hg4 hlt4
        have H4 := Lib.hid (once_next (n := n) hlt HROW.out HLA.out hg2 HBR.out HY.out.symm hown4 hC4 hg4 hlt4)
        clear hown4 hC4 hg4 hlt4 c1 f1 hcell
        go_wp2_with fail
        go_roundw
        case rel => exact H4.out
        case measure => simp [intOf]; omega
      · obtain rfl : k = n := by omega
        go_wp2_with fail
        with_reducible refine (new_mach g1 _ k cap _ _ (row_vals HOWN.out) (fun _ _ => rfl) (by omega)).mono ?_
        rintro e w3 hNM
        obtain ⟨X, A2, TB, cap2, D, rfl, hO, hB3, hDD⟩ := onceAt_of (b := 0) (cap' := 0) h6' HROW.out HLA.out hglt hNM (Nat.le_refl _)
        have HO := Lib.hid hO
        have HBW := Lib.hid ((HBb.out.bel.trans (HBR.out.mono HBb.out.bel.size)).trans (hB3.mono (by have := HBb.out.bel.size; have := HBR.out.size; omega)))
        have HMM := Lib.hid ((HBb.out.mem.keep HBR.out).keep hB3)
        have HXG : Hid (g1 < w2.heap.size ∧ b1 < w2.heap.size ∧ w2.heap.size ≤ D ∧ w2.heap.size ≤ w3.heap.size ∧ w.heap.size ≤ w2.heap.size) := Lib.hid (by have := HBb.out.mem.ltg; have := HBb.out.mem.row.lt; have := HBR.out.size; have := hB3.size; have := HBb.out.bel.size; omega)
        clear hNM hO hB3 hDD
        go_wp2_with fail
        go_loopw [12] (fun i wr => OnceRel2 X g1 b1 A2 TB k cap2 D w2.heap.size w3.heap.size la L w i wr) (fun i _ => 100 - (intOf i).toNat)
        case atStart => exact once_start2 HO.out HMM.out HBW.out
        case round =>
          obtain ⟨k2, a, hk1, hk2, rfl, hOn, hQr, hMe, hBe⟩ := hrel
          have HON := Lib.hid hOn
          have HQR := Lib.hid hQr
          have HME := Lib.hid hMe
          have HBE := Lib.hid hBe
          clear hOn hQr hMe hBe
          by_cases hlt : k2 < L
          · by_cases hlt2 : k2 < 100
            · obtain ⟨b, o, rfl⟩ := HP.out.head hlt
              have hcell := (HP.out.keep HBE.out).cell hlt
              obtain ⟨y, hy⟩ : ∃ y, y = q k2 := ⟨_, rfl⟩
              rw [← hy] at hcell
              clear hy
              by_cases hin : 0 ≤ y ∧ y < k
              · obtain ⟨i, rfl⟩ : ∃ i : Nat, y = i := ⟨y.toNat, by omega⟩
                have hi : i < k := by omega
                have hi0 : (0 : Int) ≤ (i : Int) := by omega
                have hi1 : (i : Int) < (k : Int) := by omega
                have hi2 : ¬ (k : Int) ≤ (i : Int) := by omega
                have hi3 : ¬ (i : Int) < 0 := by omega
                have hi8 : (i : Int) < 8 := by omega
                clear hin
                obtain ⟨a0, a1, a2⟩ := HON.out.a0 i hi
                by_cases hne : a i = la i
                · have HPk := Lib.hid (once_was i wr HON.out hi hne)
                  have hnlt : ¬ a i < la i := by omega
                  have c1 := HQR.out.cell (i := i) (by omega)
                  have c2 := HON.out.ow.cell (i := i * 2 + 1) (by omega)
                  have c3 := HON.out.ow.cell (i := i * 2) (by omega)
                  rw [ownF_la] at c2
                  rw [ownF_a] at c3
                  have HD := Lib.hid (fun n => once_done i (wr.drewN n) (HON.out.drewN n) hi)
                  have hdd : decide (a i = la i) = true := decide_eq_true hne
                  have hdb : (a i == la i) = true := hdd
                  rw [hdd] at HD
                  have HNE := Lib.hid hne
                  obtain ⟨x, hx⟩ : ∃ x, x = a i := ⟨_, rfl⟩
                  obtain ⟨z, hz⟩ : ∃ z, z = la i := ⟨_, rfl⟩
                  rw [← hx] at c1 c3 hnlt hdb a0 a1 hne
                  rw [← hz] at c2 hnlt hdb a1 a2 hne
                  obtain rfl : x = z := hne
                  clear hx hz hdd
                  go_wp2_with fail
                  with_reducible refine HPk.out.mono ?_
                  rintro e w4 ⟨rfl, rfl⟩
                  go_wp2_with fail
                  go_quiet (fail)
                  go_wp2_with fail
                  go_quiet ((go_at_call 17; first | exact quiet_add_left (HD.out _) | exact quiet_left (HD.out _)))
                  go_wp2_with fail
                  go_roundw
                  case rel => exact onceRel2_next hlt hlt2 HON.out HQR.out HME.out HBE.out _ rfl
                  case measure => simp [intOf]; omega
                · have hlo : a i < la i := by omega
                  have HPk := Lib.hid (once_do i wr HON.out hi hne)
                  have HHI := Lib.hid hi
                  have hQO : w3.heap.size ≠ w2.heap.size ∧ w3.heap.size ≠ D := by have := HO.out.ow.lt; have := HO.out.ma.dn.lt; omega
                  have HQO := Lib.hid hQO
                  have hn1 := hQO.1
                  have hn2 : w2.heap.size ≠ w3.heap.size := fun e => hn1 e.symm
                  go_wp2_with fail
                  with_reducible refine HPk.out.mono ?_
                  rintro e w4 ⟨rfl, hO4, hC4⟩
                  have HO4 := Lib.hid hO4
                  have HC4 := Lib.hid hC4
                  have hQ4 := HQR.out.of_block (hC4.block _ HQR.out.lt (by have := HQO.out; omega))
                  have HQ4 := Lib.hid hQ4
                  have c1 := hQ4.cell (i := i) (by omega)
                  have f1 := hQ4.frozen i
                  have c2 := hO4.ow.cell (i := i * 2 + 1) (by omega)
                  have c3 := hO4.ow.cell (i := i * 2) (by omega)
                  rw [ownF_la] at c2
                  rw [ownF_a, upd_same] at c3
                  have hst := fun m => once_set (hO4.drewN m) (hQ4.of_block (by rw [heap_drewN]) : (w4.drewN m).rowIs w3.heap.size 64 8 fun j => .int .i64 (a j)) i (a i + 1) (by have := HO.out.lt; have := HO.out.ma.dn.lt; have := HO.out.ow.lt; omega)
                  have HST := Lib.hid hst
                  have HD := fun m n => once_done i (((w4.drewN m).setCell ⟨w3.heap.size, i, none⟩ (.int .i64 (a i + 1))).drewN n) ((hst m).1.drewN n) HHI.out
                  simp only [upd_same] at HD
                  have hee : (a i + 1 == la i) = decide (a i + 1 = la i) := rfl
                  obtain ⟨x, hx⟩ : ∃ x, x = a i := ⟨_, rfl⟩
                  obtain ⟨z, hz⟩ : ∃ z, z = la i := ⟨_, rfl⟩
                  simp only [← hx, ← hz] at HD
                  rw [← hx] at c1 c3 hlo hee a0 a1
                  rw [← hz] at c2 hlo hee a1 a2
                  obtain ⟨d, hd⟩ : ∃ d, d = decide (x + 1 = z) := ⟨_, rfl⟩
                  rw [← hd] at hee
                  simp only [← hd] at HD
                  have HD := Lib.hid HD
                  have HX := Lib.hid hx
                  clear hO4 hC4 hQ4 hst hx hz hne hd hQO
                  go_wp2_with fail
                  go_quiet (fail)
                  go_wp2_with fail
                  go_quiet ((go_at_call 17; exact quiet_left (HD.out _ _)))
                  go_wp2_with fail
                  go_roundw
                  case rel =>
                    obtain rfl := HX.out
                    have hx := HXG.out
                    have hC := fun m => ((HC4.out.mono (S' := fun k => k = w2.heap.size ∨ k = D ∨ k = w3.heap.size) fun k e => e.elim .inl fun e => .inr (.inl e)).trans (Chg.of_below (below_drewN (Below.refl _ _) m))).trans ((HST.out m).2.2.mono fun k e => .inr (.inr e))
                    exact onceRel2_next hlt hlt2 (HST.out _).1 (HST.out _).2.1 ((hC _).mem HME.out (by omega) (by omega)) (HBE.out.trans ((hC _).below (fun k e => by omega) HBE.out.size)) _ rfl
                  case measure => simp [intOf]; omega
              · have HPk := Lib.hid (once_none y wr HON.out hin)
                by_cases hy0 : y < 0
                · clear hin
                  go_wp2_with fail
                  with_reducible refine HPk.out.mono ?_
                  rintro e w4 ⟨rfl, rfl⟩
                  go_wp2_with fail
                  go_roundw
                  case rel => exact onceRel2_next hlt hlt2 HON.out HQR.out HME.out HBE.out 0 rfl
                  case measure => simp [intOf]; omega
                · have hyk : (k : Int) ≤ y := by omega
                  clear hin
                  go_wp2_with fail
                  with_reducible refine HPk.out.mono ?_
                  rintro e w4 ⟨rfl, rfl⟩
                  go_wp2_with fail
                  go_roundw
                  case rel => exact onceRel2_next hlt hlt2 HON.out HQR.out HME.out HBE.out 0 rfl
                  case measure => simp [intOf]; omega
            · have hk100 : ¬ (k2 : Int) < 100 := by omega
              have HCt := Lib.hid (count_any g1 b1 1 _ 0 wr HME.out)
              go_wp2_with fail
              with_reducible refine HCt.out.mono ?_
              rintro e w4 ⟨rfl, rfl⟩
              go_wp2_with fail
              go_ret
              exact ⟨rfl, HBE.out⟩
          · have hkL : ¬ (k2 : Int) < L := by omega
            have HCt := Lib.hid (count_any g1 b1 1 _ 0 wr HME.out)
            go_wp2_with fail
            with_reducible refine HCt.out.mono ?_
            rintro e w4 ⟨rfl, rfl⟩
            go_wp2_with fail
            go_ret
            exact ⟨rfl, HBE.out⟩
end Go.Proofs.YtdhanenbcjmfkaaDoor
