/-
  A piece of the walk.
-/
import Derived.Test.YtndipldcpnglgaaWalkOnceMain
namespace Go.Proofs.Ytndipldcpnglgaa
open Go.RowKit
set_option linter.all false in
set_option maxHeartbeats 4000000 in
set_option maxRecDepth 100000 in
theorem part_WalkOnce_F : part_WalkOnce.F := by
  set_option tactic.hygienic false in intro
  set_option tactic.hygienic false in intros
  clear HO HU HP HFW HPF HNL d0 d1 d2 d3 HW
  obtain ⟨g', b', v', X', l', gn, hO, hU, hG, hl⟩ := hcut
  obtain ⟨wA', wc', rfl, _⟩ := hO.ra.len
  obtain ⟨gA, gc, rfl, _⟩ := hO.rc.len
  have hsub : ∀ m, (leftM l' gn m).length ≤ 120 := fun m => Nat.le_trans (List.length_filter_le _ _) (by omega)
  have HSUB := Lib.hid hsub
  have HG := Lib.hid hG
  have HU := Lib.hid hU
  have HO0 : Hid (On3 w.heap.size w wc s g' b' v' X' (.slice wA' l'.length wc') (leftM l' gn 0) (.slice gA gn.length gc) gn nilV []) := by unfold Hid; rw [leftM_zero]; exact hO
  obtain ⟨G, hGG⟩ : ∃ G, G = gn.length := ⟨_, rfl⟩
  rw [← hGG] at HO0
  have hgl : gn.length ≤ 120 := by
    have h1 := hG.gd
    have h2 : gn.length ≤ l'.length := by
      have := List.Nodup.length_le_of_subset h1 (fun x hx => hG.sub x hx)
      exact this
    omega
  have hG120 : G ≤ 120 := by omega
  have HGG := Lib.hid hGG
  clear hO hU hG hl hsub hgl hGG
  go_upto_block 3 with fail
  rw [← HGG.out]
  go_cut [4, 10, 11, 12] (fun wv _ _ _ wx => ∃ A' c', wv = .slice A' X'.S.nums.length c' ∧ Hid (∃ l2, On3 w.heap.size w wx s g' b' v' X' wv l2 nilV [] nilV [] ∧ l2.Perm X'.S.nums))
  case first =>
    go_wp2_with fail
    go_loopw [4, 10, 11, 12] (fun wv mv _ _ wr => ∃ m : Nat, mv = .int .i64 m ∧ m ≤ G ∧ Hid (On3 w.heap.size w wr s g' b' v' X' wv (leftM l' gn m) (.slice gA G gc) gn nilV [])) (fun _ mv _ _ _ => G + 1 - (intOf mv).toNat)
    case atStart => exact ⟨0, rfl, Nat.zero_le _, HO0⟩
    case round =>
      obtain ⟨m, rfl, hmG, HM⟩ := hrel
      clear HO0
      obtain ⟨aA, ac, rfl, haA⟩ := HM.out.ra.len
      have hL120 := HSUB.out m
      obtain ⟨N, hN⟩ : ∃ N, N = (leftM l' gn m).length := ⟨_, rfl⟩
      rw [← hN] at HM hL120 ⊢
      by_cases hm : m < G
      · have hmg : m < gn.length := by rw [← HGG.out]; exact hm
        have i1 : (m : Int) < (G : Int) := by omega
        have i0' : (0 : Int) ≤ (m : Int) := Int.natCast_nonneg _
        have jm : IntKind.i64.wrap ((m : Int) + 1) = (m : Int) + 1 := by rw [IntKind.wrap_i64]; omega
        obtain ⟨x, hx⟩ : ∃ x, x = gn.getD m 0 := ⟨_, rfl⟩
        have hlen1 : (leftM l' gn (m + 1)).length + 1 = N := by rw [hN]; exact HG.out.len hmg
        have hstep : (leftM l' gn m).filter (fun z => z != x) = leftM l' gn (m + 1) := by rw [hx]; exact leftM_succ l' gn hmg
        have hGA : ∃ gb, gA = some ⟨gb, 0, none⟩ := by
          obtain ⟨A0, c0, e, h0⟩ := HM.out.rc.len
          obtain ⟨gb, h1⟩ := h0 (by omega)
          injection e with e1 e2 e3
          exact ⟨gb, by rw [e1, h1]⟩
        obtain ⟨gb, rfl⟩ := hGA
        have hcg : ∀ W, Nums W (.slice (some ⟨gb, 0, none⟩) G gc) gn → W.cell? ⟨gb, m, none⟩ = some (nV x) := fun W h => by rw [hx]; exact h.at hmg
        have HCG := Lib.hid hcg
        have HLS := Lib.hid (And.intro hN (And.intro hlen1 hstep))
        have HNA := Lib.hid haA
        clear hN hlen1 hstep hcg hx hmg haA
        go_upto_block 5 with fail
        obtain ⟨wb, hwb⟩ : ∃ wb, wb = wr.alloc (.cells #[] 3) := ⟨_, rfl⟩
        have hO1 := HM.out.lit
        rw [← hwb] at hO1 ⊢
        have HL0 : Hid (On3 w.heap.size w wb s g' b' v' X' (.slice aA N ac) (leftM l' gn m) (.slice (some ⟨gb, 0, none⟩) G gc) gn (.slice (some ⟨wr.heap.size, 0, none⟩) 0 0) (((leftM l' gn m).take 0).filter fun z => z != x)) := hO1
        clear hO1 hwb HM
        go_cut [11, 12] (fun lv _ wx => ∃ A' c', lv = .slice A' (leftM l' gn (m + 1)).length c' ∧ Hid (On3 w.heap.size w wx s g' b' v' X' (.slice aA N ac) (leftM l' gn m) (.slice (some ⟨gb, 0, none⟩) G gc) gn lv (leftM l' gn (m + 1))))
        case first =>
          go_wp2_with fail
          go_loopw [11, 12] (fun lv jv wr => ∃ j : Nat, jv = .int .i64 j ∧ j ≤ N ∧ Hid (On3 w.heap.size w wr s g' b' v' X' (.slice aA N ac) (leftM l' gn m) (.slice (some ⟨gb, 0, none⟩) G gc) gn lv (((leftM l' gn m).take j).filter fun z => z != x))) (fun _ jv _ => N + 1 - (intOf jv).toNat)
          case atStart => exact ⟨0, rfl, Nat.zero_le _, HL0⟩
          case round =>
            obtain ⟨j, rfl, hjN, HJ⟩ := hrel
            clear HL0
            obtain ⟨lA, lc, rfl, _⟩ := HJ.out.rd.len
            obtain ⟨T, hT⟩ : ∃ T, T = ((leftM l' gn m).take j).filter fun z => z != x := ⟨_, rfl⟩
            rw [← hT] at HJ ⊢
            by_cases hj : j < N
            · have hjl : j < (leftM l' gn m).length := by rw [← HLS.out.1]; exact hj
              obtain ⟨ab, rfl⟩ := HNA.out (by omega)
              obtain ⟨y, hy⟩ : ∃ y, y = (leftM l' gn m).getD j 0 := ⟨_, rfl⟩
              have cy : wr.cell? ⟨ab, j, none⟩ = some (nV y) := by rw [hy]; exact HJ.out.ra.at hjl
              have cx := HCG.out wr HJ.out.rc
              have hps := part_succ (leftM l' gn m) x hjl
              rw [← hy, ← hT] at hps
              have i2 : (j : Int) < (N : Int) := by omega
              have i3 : (0 : Int) ≤ (j : Int) := Int.natCast_nonneg _
              have j1 : IntKind.i64.wrap ((j : Int) + 1) = (j : Int) + 1 := by rw [IntKind.wrap_i64]; omega
              have hTl : T.length ≤ 100000 := by
                have h1 : T.length ≤ (leftM l' gn m).length := by rw [hT]; exact Nat.le_trans (List.length_filter_le _ _) (by rw [List.length_take]; omega)
                have := HLS.out.1
                omega
              by_cases hxy : y = x
              · rw [if_neg (by simpa using hxy), List.append_nil] at hps
                have HPS := Lib.hid hps
                have i4 : (y != x) = false := by simp [hxy]
                clear hps hT hy hTl hjl
                go_wp2_with fail
                go_quiet (fail)
                have HF : Hid (On3 w.heap.size w (wr.drewN nq) s g' b' v' X' (.slice (some ⟨ab, 0, none⟩) N ac) (leftM l' gn m) (.slice (some ⟨gb, 0, none⟩) G gc) gn (.slice lA T.length lc) (((leftM l' gn m).take (j + 1)).filter fun z => z != x)) := by unfold Hid; rw [HPS.out]; exact HJ.out.keep (below_dn _ _)
                clear cx cy HJ
                go_wp2_with fail
                go_roundw
                case rel => exact ⟨j + 1, by go_num, by omega, HF⟩
                case measure => first | (simp [intOf]; done) | (simp [intOf]; omega)
              · rw [if_pos (by simpa using hxy)] at hps
                have HPS := Lib.hid hps
                have i4 : (y != x) = true := by simp [hxy]
                clear hps hT hy hjl
                go_wp2_with fail
                go_quiet (fail)
                have HJ1 := Lib.hid (HJ.out.keep (below_dn wr nq))
                have HN1 := Lib.hid HJ1.out.rd
                go_wp2_with (at_builtin; refine wpList_app (z := y) rfl _ _ rfl HN1.out hTl rfl rfl ?_; intro g9 cap9 w9 hN9 hC9 hO9)
                have HF : Hid (On3 w.heap.size w w9 s g' b' v' X' (.slice (some ⟨ab, 0, none⟩) N ac) (leftM l' gn m) (.slice (some ⟨gb, 0, none⟩) G gc) gn (.slice (some ⟨g9, 0, none⟩) (T.length + 1) cap9) (((leftM l' gn m).take (j + 1)).filter fun z => z != x)) := by
                  unfold Hid; rw [HPS.out]
                  exact HJ1.out.grow hN9 hC9 fun x e => by
                    have e : some g9 = some x := e
                    injection e with e
                    subst e
                    exact hO9
                clear hN9 hC9 hO9 cx cy HJ HJ1 HN1
                go_roundw
                case rel => exact ⟨j + 1, by go_num, by omega, HF⟩
                case measure => first | (simp [intOf]; done) | (simp [intOf]; omega)
            · obtain rfl : j = N := by omega
              have hTT : T = leftM l' gn (m + 1) := by rw [hT, HLS.out.1, List.take_length]; exact HLS.out.2.2
              have HX : ∃ A' c', (Value.slice lA T.length lc) = .slice A' (leftM l' gn (m + 1)).length c' ∧ Hid (On3 w.heap.size w wr s g' b' v' X' (.slice aA j ac) (leftM l' gn m) (.slice (some ⟨gb, 0, none⟩) G gc) gn (.slice lA T.length lc) (leftM l' gn (m + 1))) := ⟨lA, lc, by rw [hTT], by unfold Hid; rw [← hTT]; exact HJ.out⟩
              have HXX := Lib.hid HX
              clear HX hTT hT HJ
              go_wp2_with fail
              all_goals go_meet
              all_goals exact HXX.out
        case rest =>
          obtain ⟨lA, lc, rfl, HE⟩ := hcut
          clear HL0
          have hle := HLS.out.2.1
          have HF : Hid (On3 w.heap.size w wc s g' b' v' X' (.slice lA (leftM l' gn (m + 1)).length lc) (leftM l' gn (m + 1)) (.slice (some ⟨gb, 0, none⟩) G gc) gn nilV []) := HE.out.rot.rot.swap.nil
          obtain ⟨N1, hN1⟩ : ∃ N1, N1 = (leftM l' gn (m + 1)).length := ⟨_, rfl⟩
          rw [← hN1] at hle HF ⊢
          have jn : IntKind.i64.wrap ((N : Int) - 1) = (N1 : Int) := by rw [IntKind.wrap_i64]; omega
          clear hN1 HE
          go_wp2_with fail
          go_roundw
          case rel => exact ⟨m + 1, by go_num, by omega, HF⟩
          case measure => first | (simp [intOf]; done) | (simp [intOf]; omega)
      · obtain rfl : m = G := by omega
        have hpm : (leftM l' gn m).Perm X'.S.nums := by
          have h1 := HGG.out
          rw [h1, leftM_all]; exact HG.out.perm
        have hNn : N = X'.S.nums.length := by rw [hN]; exact hpm.length_eq
        have HX : ∃ A' c', (Value.slice aA N ac) = .slice A' X'.S.nums.length c' ∧ Hid (∃ l2, On3 w.heap.size w wr s g' b' v' X' (.slice aA N ac) l2 nilV [] nilV [] ∧ l2.Perm X'.S.nums) := ⟨aA, ac, by rw [hNn], _, HM.out.swap.nil.swap.nil, hpm⟩
        have HXX := Lib.hid HX
        clear HX hpm hNn hN HM
        go_wp2_with fail
        all_goals go_meet
        all_goals exact HXX.out
  case rest =>
    obtain ⟨aA, ac, rfl, HF⟩ := hcut
    clear HO0
    obtain ⟨l2, hO, hp⟩ := HF.out
    have k0 := hO.eb.sm.c0
    have hml := meth_list g'
    have HL := Lib.hid (list_any _ hO.eb.sm.ln (by have := HU.out.L; omega))
    have HOK := Lib.hid (And.intro hO hp)
    obtain ⟨N, hN⟩ : ∃ N, N = X'.S.nums.length := ⟨_, rfl⟩
    rw [← hN] at HOK ⊢
    have HN := Lib.hid hN
    clear hO hp HF hN
    go_wp2_with fail
    with_reducible refine HL.out.mono ?_
    rintro e w4 ⟨vl, rfl, hN4, hB4, _⟩
    obtain ⟨lA, lc, rfl, _⟩ := hN4.len
    rw [← HN.out]
    have HX : Hid (OutK w.heap.size w w4 s (.slice aA N ac) (k + 1)) := ⟨g', b', v', X', l2, HOK.out.1.keep hB4, HU.out, HOK.out.2⟩
    clear hN4 hB4 HL HOK k0
    go_wp2_with fail
    go_roundw
    case rel => exact ⟨k + 1, by go_num, by omega, HX⟩
    case measure => first | (simp [intOf]; done) | (simp [intOf]; omega)
end Go.Proofs.Ytndipldcpnglgaa
