/-
  For every ring and every list of messages.
-/
import Derived.Test.YtnmobalgghggnaaDoorMakes
import Derived.Deep.RegionHeld3
namespace Go.Proofs.YtnmobalgghggnaaDoor
open Go.RowKit

set_option maxHeartbeats 8000000 in
set_option maxRecDepth 100000 in
theorem walk_makes (a n z t : Int) (A : Option Addr) (L : List ByteArray) (cp : Nat) (w : World) (hG : GOk w) (hn : -9223372036854775808 ≤ n ∧ n ≤ 9223372036854775807) (ht : t ≤ 9223372036854775807) (hnil : A = none → cp = 0) (hM : Strs w.heap.size w A L) (hs : ∀ i, i < L.length → (L.getD i ByteArray.empty).size ≤ 9223372036854775807) (_ : L.length ≤ 9223372036854775807) :
    Calls Tryd.prog 3 #[.agg #[.int .i64 a, .int .i64 n, .int .i64 z, .int .i64 t], .slice A L.length cp] w fun e w' => e = .returned (.bool true) ∧ Below w.heap.size w w' := by
  have HG := Lib.hid hG
  have HM := Lib.hid hM
  have HS := Lib.hid hs
  have HNIL := Lib.hid hnil
  have HW10 := Lib.hid (fun W => rwords_any n z W)
  have HW11 := Lib.hid (fun W => refwords_any n z hn W)
  obtain ⟨V, hV⟩ : ∃ V, V = wordsV n z := ⟨_, rfl⟩
  obtain ⟨E, hE⟩ : ∃ E, E = wordsE n z := ⟨_, rfl⟩
  rw [← hV, ← hE] at HW10 HW11
  have HE := Lib.hid hE
  have HT := Lib.hid ht
  clear hG hM hs hnil hn hV hE ht
  go_enter Tryd.func3, Tryd.ntmps3
  go_wp2_with fail
  obtain ⟨w1, hw1⟩ : ∃ w1, w1 = w.alloc (.cells #[.int .i64 a, .int .i64 n, .int .i64 z, .int .i64 t] 23) := ⟨_, rfl⟩
  have hB1 : Below w.heap.size w w1 := by rw [hw1]; exact (Below.refl _ _).alloc (Nat.le_refl _) _
  have k0 : w1.cell? ⟨w.heap.size, 0, none⟩ = some (.int .i64 a) := by rw [hw1]; exact al_new _ _ _ _ _ rfl rfl
  have k1 : w1.cell? ⟨w.heap.size, 1, none⟩ = some (.int .i64 n) := by rw [hw1]; exact al_new _ _ _ _ _ rfl rfl
  have k2 : w1.cell? ⟨w.heap.size, 2, none⟩ = some (.int .i64 z) := by rw [hw1]; exact al_new _ _ _ _ _ rfl rfl
  have k3 : w1.cell? ⟨w.heap.size, 3, none⟩ = some (.int .i64 t) := by rw [hw1]; exact al_new _ _ _ _ _ rfl rfl
  rw [← hw1]
  have HB1 := Lib.hid hB1
  clear hw1 hB1
  with_reducible refine (few_any A L L.length cp w.heap.size w1 (HM.out.keep HB1.out) rfl HS.out).mono ?_
  rintro e w1' ⟨x, rfl, hx, rfl⟩
  cases x
  · clear hx k0 k1 k2 k3
    go_wp2_with fail
    with_reducible refine (awake_any w1 (HG.out.below (six_of HG.out) HB1.out)).mono ?_
    rintro e w2 ⟨rfl, hB2⟩
    have HB2 := Lib.hid (HB1.out.trans (hB2.mono HB1.out.size))
    clear hB2
    go_wp2_with fail
    go_ret
    exact ⟨rfl, HB2.out⟩
  · have HF := Lib.hid (hx rfl)
    clear hx
    go_wp2_with fail
    with_reducible refine (HW10.out _).mono ?_
    rintro e w2 ⟨rfl, rfl⟩
    go_wp2_with fail
    with_reducible refine (HW11.out _).mono ?_
    rintro e w2 ⟨rfl, rfl⟩
    go_wp2_with fail
    have HP := Lib.hid (fun W (h : Below w1.heap.size w1 W) => HM.out.keep (HB1.out.trans (h.mono HB1.out.size)))
    have HLE := Lib.hid (show L.length ≤ 1000 from by have := HF.out.1; omega)
    have HNX := Lib.hid (fun W w2 (h2 : Below w1.heap.size W w2) (h : Below w1.heap.size w1 W) => And.intro (kept k0 (h.trans h2)) (And.intro (kept k1 (h.trans h2)) (And.intro (kept k2 (h.trans h2)) (And.intro (kept k3 (h.trans h2)) (h.trans h2)))))
    by_cases hE0 : E = 0
    · subst hE0
      obtain ⟨hcap, hz⟩ := wordsE_zero HE.out.symm
      have hnb := cap_bounds n hcap
      obtain ⟨pl, hpl⟩ : ∃ pl : Nat, n = pl := ⟨n.toNat, by omega⟩
      obtain ⟨sz, hsz⟩ : ∃ sz : Nat, z = sz := ⟨z.toNat, by omega⟩
      obtain ⟨T, hT⟩ : ∃ T : Nat, max t 0 = T := ⟨(max t 0).toNat, by omega⟩
      have HNR := Lib.hid (fun W => newr_ok a n z t pl sz T W hpl hsz hT hcap hz)
      by_cases hg : ∀ m ∈ L, goodM z m
      · have HNS := Lib.hid (fun A2 cap2 W (h : Strs W.heap.size W A2 L) => news_ok a n z pl sz L.length cap2 A2 L W hpl hsz h rfl (by have := HF.out.1; omega) hcap hz hg)
        have HGM := Lib.hid hg
        clear hg hcap hz hnb hpl hsz hT
        go_region_held3 (fun w' => w'.cell? ⟨w.heap.size, 0, none⟩ = some (.int .i64 a) ∧ w'.cell? ⟨w.heap.size, 1, none⟩ = some (.int .i64 n) ∧ w'.cell? ⟨w.heap.size, 2, none⟩ = some (.int .i64 z))
          (go_keep)
          (first
            | (go_at_call 12; refine (HNS.out _ _ _ HS2.out).mono ?_
               rintro e w3 ⟨B, LB, rfl, hSA, hB, hLB, hne, hB3⟩
               have r0 := kept q0 hB3
               have r1 := kept q1 hB3
               have r2 := kept q2 hB3
               have r3 := kept q3 hB3
               have HB3 := Lib.hid (HB2.out.trans (hB3.mono HB2.out.size))
               have HSA := Lib.hid hSA
               clear hSA hB hLB hne hB3)
            | (refine step_append_msgs rfl _ _ rfl (G := w1.heap.size) (World.ownsRow_lit _ #[] 0 (by simp) (by decide) rfl) (by simp) (HP.out _ (by repeat (first | exact Below.refl _ _ | refine Below.drew ?_ | refine Below.alloc ?_ (by simp) _))) HNIL.out HLE.out (by rfl) (by rfl) ?_
               intro A2 cap2 w2 hs2 hB2
               have HS2 := Lib.hid hs2
               have hnx := HNX.out _ _ hB2 (by repeat (first | exact Below.refl _ _ | refine Below.drew ?_ | refine Below.alloc ?_ (by simp) _))
               obtain ⟨q0, q1, q2, q3, hB3⟩ := hnx
               have HB2 := Lib.hid (HB1.out.trans (hB3.mono HB1.out.size))
               clear hs2 hB2 hB3))
        clear k0 k1 k2 k3 q0 q1 q2 q3
        go_wp2_with fail
        with_reducible refine (HNR.out _).mono ?_
        rintro e w4 ⟨C, rfl, hRA, hC, hB4⟩
        have HK2 := Lib.hid (kept r2 hB4)
        have HRA := Lib.hid hRA
        have HB4 := Lib.hid (HB3.out.trans (hB4.mono HB3.out.size))
        have HST := Lib.hid (HM.out.keep HB4.out)
        have HSA4 := Lib.hid (HSA.out.keep hB4)
        clear hRA hC hB4 r0 r1 r2 r3
        go_wp2_with fail
        go_loopw [13, 14] (fun v i wr => (∃ k : Nat, k ≤ L.length ∧ v = .int .i64 0 ∧ i = .int .i64 k) ∧ Qt w4 wr) (fun _ i _ => L.length - (intOf i).toNat)
        case atStart => exact ⟨⟨0, Nat.zero_le _, rfl, rfl⟩, Qt.refl _⟩
        case round =>
          obtain ⟨⟨k, hk, rfl, rfl⟩, hq⟩ := hrel
          have HQ := Lib.hid hq
          by_cases hlt : k < L.length
          · obtain ⟨b1, o1, rfl⟩ := HST.out.head hlt
            have e1 := (HST.out.keep hq.below).cell hlt
            have k2 := kept HK2.out hq.below
            have hgm := HGM.out (L.getD k ByteArray.empty) (by rw [List.getD_eq_getElem?_getD, List.getElem?_eq_getElem hlt]; exact List.getElem_mem hlt)
            have HKL := Lib.hid hlt
            obtain ⟨g1, g2⟩ := hgm
            generalize L.getD k ByteArray.empty = m at *
            have hkn : (k : Int) < L.length := by omega
            have g3 : ¬ (m.size : Int) < 1 := by omega
            have g4 : ¬ z < (m.size : Int) := by omega
            clear g1 g2 hq
            go_wp2_with fail
            go_quiet (fail)
            have HQ2 := Lib.hid (show Qt w4 (wr.drewN nq) from by obtain ⟨m0, hm0⟩ := HQ.out; exact ⟨m0 + nq, by rw [hm0, World.drewN_drewN]⟩)
            go_wp2_with fail
            go_roundw

            case rel => exact ⟨⟨k + 1, HKL.out, rfl, by go_num⟩, HQ2.out⟩
            case measure => simp [intOf]; omega
          · obtain rfl : k = L.length := by omega
            clear hq
            have HRA := Lib.hid (HRA.out.keep (HQ.out.below))
            have HB4 := Lib.hid (HB4.out.trans (HQ.out.below))
            have HSA := Lib.hid (HSA4.out.keep (HQ.out.below))
            go_wp2_with fail
            with_reducible refine (awake_any wr (HG.out.below (six_of HG.out) HB4.out)).mono ?_
            rintro e w5 ⟨rfl, hB5⟩
            have HRA5 := Lib.hid (HRA.out.keep hB5)
            have HSA5 := Lib.hid (HSA.out.keep hB5)
            have HB5 := Lib.hid (HB4.out.trans (hB5.mono HB4.out.size))
            clear hB5
            go_wp2_with fail
            with_reducible refine (sent0 HSA5.out).mono ?_
            rintro e w6 ⟨d6, rfl, _, _, hB6⟩
            have HRA6 := Lib.hid (HRA5.out.keep hB6)
            have HB6 := Lib.hid (HB5.out.trans (hB6.mono HB5.out.size))
            clear hB6
            go_wp2_with fail
            with_reducible refine (got0 HRA6.out).mono ?_
            rintro e w7 ⟨d7, rfl, _, _, hB7⟩
            have HB7 := Lib.hid (HB6.out.trans (hB7.mono HB6.out.size))
            clear hB7
            go_wp2_with fail
            go_ret
            exact ⟨rfl, HB7.out⟩

      · have HNS := Lib.hid (fun A2 cap2 W (h : Strs W.heap.size W A2 L) => news_bad a n z L.length cap2 A2 L W h rfl (by have := HF.out.1; omega) hcap hz hg)
        have HGM := Lib.hid hg
        clear hg hcap hz hnb hpl hsz hT
        go_region_held3 (fun w' => w'.cell? ⟨w.heap.size, 0, none⟩ = some (.int .i64 a) ∧ w'.cell? ⟨w.heap.size, 1, none⟩ = some (.int .i64 n) ∧ w'.cell? ⟨w.heap.size, 2, none⟩ = some (.int .i64 z))
          (go_keep)
          (first
            | (go_at_call 12; refine (HNS.out _ _ _ HS2.out).mono ?_
               rintro e w3 ⟨rfl, hB3⟩
               have r0 := kept q0 hB3
               have r1 := kept q1 hB3
               have r2 := kept q2 hB3
               have r3 := kept q3 hB3
               have HB3 := Lib.hid (HB2.out.trans (hB3.mono HB2.out.size))
               clear hB3)
            | (refine step_append_msgs rfl _ _ rfl (G := w1.heap.size) (World.ownsRow_lit _ #[] 0 (by simp) (by decide) rfl) (by simp) (HP.out _ (by repeat (first | exact Below.refl _ _ | refine Below.drew ?_ | refine Below.alloc ?_ (by simp) _))) HNIL.out HLE.out (by rfl) (by rfl) ?_
               intro A2 cap2 w2 hs2 hB2
               have HS2 := Lib.hid hs2
               have hnx := HNX.out _ _ hB2 (by repeat (first | exact Below.refl _ _ | refine Below.drew ?_ | refine Below.alloc ?_ (by simp) _))
               obtain ⟨q0, q1, q2, q3, hB3⟩ := hnx
               have HB2 := Lib.hid (HB1.out.trans (hB3.mono HB1.out.size))
               clear hs2 hB2 hB3))
        clear k0 k1 k2 k3 q0 q1 q2 q3
        go_wp2_with fail
        with_reducible refine (HNR.out _).mono ?_
        rintro e w4 ⟨C, rfl, hRA, hC, hB4⟩
        have HK2 := Lib.hid (kept r2 hB4)
        have HRA := Lib.hid hRA
        have HB4 := Lib.hid (HB3.out.trans (hB4.mono HB3.out.size))
        have HST := Lib.hid (HM.out.keep HB4.out)
        clear hRA hC hB4 r0 r1 r2 r3
        go_wp2_with fail
        go_loopw [13, 14] (fun v i wr => (∃ k : Nat, k ≤ L.length ∧ i = .int .i64 k ∧ ((v = .int .i64 0 ∧ ∀ j (h : j < L.length), j < k → goodM z L[j]) ∨ v = .int .i64 121)) ∧ Qt w4 wr) (fun _ i _ => L.length - (intOf i).toNat)
        case atStart => exact ⟨⟨0, Nat.zero_le _, rfl, .inl ⟨rfl, fun j _ h => absurd h (Nat.not_lt_zero _)⟩⟩, Qt.refl _⟩
        case round =>
          obtain ⟨⟨k, hk, rfl, hv⟩, hq⟩ := hrel
          have HQ := Lib.hid hq
          rcases hv with ⟨rfl, hgd⟩ | rfl
          · by_cases hlt : k < L.length
            · obtain ⟨b1, o1, rfl⟩ := HST.out.head hlt
              have e1 := (HST.out.keep hq.below).cell hlt
              have k2 := kept HK2.out hq.below
              have hLk : L.getD k ByteArray.empty = L[k] := by rw [List.getD_eq_getElem?_getD, List.getElem?_eq_getElem hlt, Option.getD_some]
              have HNX2 := Lib.hid (fun (h : goodM z (L.getD k ByteArray.empty)) j (hj : j < L.length) (hjk : j < k + 1) => show goodM z L[j] from by
                by_cases e : j = k
                · subst e; rw [← hLk]; exact h
                · exact hgd j hj (by omega))
              have HKL := Lib.hid hlt
              generalize L.getD k ByteArray.empty = m at *
              have hkn : (k : Int) < L.length := by omega
              clear hgd hLk hq
              by_cases h1 : (m.size : Int) < 1
              · go_wp2_with fail
                go_quiet (fail)
                have HQ2 := Lib.hid (show Qt w4 (wr.drewN nq) from by obtain ⟨m0, hm0⟩ := HQ.out; exact ⟨m0 + nq, by rw [hm0, World.drewN_drewN]⟩)
                go_wp2_with fail
                go_roundw

                case rel => exact ⟨⟨k + 1, HKL.out, by go_num, .inr rfl⟩, HQ2.out⟩
                case measure => simp [intOf]; omega
              · by_cases h2 : z < (m.size : Int)
                · go_wp2_with fail
                  go_quiet (fail)
                  have HQ2 := Lib.hid (show Qt w4 (wr.drewN nq) from by obtain ⟨m0, hm0⟩ := HQ.out; exact ⟨m0 + nq, by rw [hm0, World.drewN_drewN]⟩)
                  go_wp2_with fail
                  go_roundw

                  case rel => exact ⟨⟨k + 1, HKL.out, by go_num, .inr rfl⟩, HQ2.out⟩
                  case measure => simp [intOf]; omega
                · have HGD := Lib.hid (HNX2.out ⟨by omega, by omega⟩)
                  go_wp2_with fail
                  go_quiet (fail)
                  have HQ2 := Lib.hid (show Qt w4 (wr.drewN nq) from by obtain ⟨m0, hm0⟩ := HQ.out; exact ⟨m0 + nq, by rw [hm0, World.drewN_drewN]⟩)
                  go_wp2_with fail
                  go_roundw

                  case rel => exact ⟨⟨k + 1, HKL.out, by go_num, .inl ⟨rfl, HGD.out⟩⟩, HQ2.out⟩
                  case measure => simp [intOf]; omega
            · exact absurd (fun m hm => by obtain ⟨i, hi, rfl⟩ := List.mem_iff_getElem.1 hm; exact hgd i hi (by omega)) HGM.out
          · have hkn : (k : Int) ≤ L.length := by omega
            clear hq
            by_cases hkl : (k : Int) < L.length
            all_goals
              have HRA := Lib.hid (HRA.out.keep (HQ.out.below))
              have HB4 := Lib.hid (HB4.out.trans (HQ.out.below))
              go_wp2_with fail
              with_reducible refine (awake_any wr (HG.out.below (six_of HG.out) HB4.out)).mono ?_
              rintro e w5 ⟨rfl, hB5⟩
              have HRA5 := Lib.hid (HRA.out.keep hB5)
              have HB5 := Lib.hid (HB4.out.trans (hB5.mono HB4.out.size))
              clear hB5
              have HRA6 := HRA5
              have HB6 := HB5
              go_wp2_with fail
              with_reducible refine (got0 HRA6.out).mono ?_
              rintro e w7 ⟨d7, rfl, _, _, hB7⟩
              have HB7 := Lib.hid (HB6.out.trans (hB7.mono HB6.out.size))
              clear hB7
              go_wp2_with fail
              go_ret
              exact ⟨rfl, HB7.out⟩

    · have HNS := Lib.hid (fun A2 cap2 W => news_words a n z (.slice A2 L.length cap2) W (by rw [← HE.out]; exact hE0))
      have HNR := Lib.hid (fun W => newr_words a n z t W (by rw [← HE.out]; exact hE0))
      rw [← HE.out] at HNS HNR
      have hb0 : (E == 0) = false := by simpa using hE0
      have hb1 : (E != 0) = true := by simpa using hE0
      go_region_held3 (fun w' => w'.cell? ⟨w.heap.size, 0, none⟩ = some (.int .i64 a) ∧ w'.cell? ⟨w.heap.size, 1, none⟩ = some (.int .i64 n) ∧ w'.cell? ⟨w.heap.size, 2, none⟩ = some (.int .i64 z))
        (go_keep)
        (first
          | (go_at_call 12; refine (HNS.out _ _ _).mono ?_; rintro e w3 ⟨rfl, rfl⟩)
          | (refine step_append_msgs rfl _ _ rfl (G := w1.heap.size) (World.ownsRow_lit _ #[] 0 (by simp) (by decide) rfl) (by simp) (HP.out _ (by repeat (first | exact Below.refl _ _ | refine Below.drew ?_ | refine Below.alloc ?_ (by simp) _))) HNIL.out HLE.out (by rfl) (by rfl) ?_
             intro A2 cap2 w2 hs2 hB2
             have HS2 := Lib.hid hs2
             have hnx := HNX.out _ _ hB2 (by repeat (first | exact Below.refl _ _ | refine Below.drew ?_ | refine Below.alloc ?_ (by simp) _))
             obtain ⟨q0, q1, q2, q3, hB3⟩ := hnx
             have HB2 := Lib.hid (HB1.out.trans (hB3.mono HB1.out.size))
             clear hs2 hB2 hB3))
      clear k0 k1 k2 k3
      go_wp2_with fail
      with_reducible refine (HNR.out _).mono ?_
      rintro e w3 ⟨rfl, rfl⟩
      go_wp2_with fail
      go_loop [13, 14] (fun v i => v = .int .i64 E ∧ i = .int .i64 0) (fun _ i => 0)
      case atStart => exact ⟨rfl, rfl⟩
      case round =>
        obtain ⟨rfl, rfl⟩ := hrel
        go_wp2_with fail
        all_goals
          with_reducible refine (awake_any w2 (HG.out.below (six_of HG.out) HB2.out)).mono ?_
          rintro e w4 ⟨rfl, hB4⟩
          have HB4 := Lib.hid (HB2.out.trans (hB4.mono HB2.out.size))
          clear hB4
          go_wp2_with fail
          go_ret
          exact ⟨rfl, HB4.out⟩

end Go.Proofs.YtnmobalgghggnaaDoor
