/-
  The law of the sums.
-/
import Derived.Test.YtfinleobgmdebaaSemP
import Derived.Test.YtfinleobgmdebaaOpenY
import Derived.Test.YtfinleobgmdebaaExpW
import Derived.Test.YtfinleobgmdebaaAwkW
import Derived.Deep.CutBlock
namespace Go.Proofs.Ytfinleobgmdebaa
open Go.RowKit

theorem meth_drop (g : Nat) (w : World) : (method 221 68 (.pointer (some ⟨g, 0, none⟩)) "Drop").run Try.prog w = .ok (60, .pointer (some ⟨g, 0, none⟩)) w := by kernel_rfl
theorem meth_exp (g : Nat) (w : World) : (method 221 68 (.pointer (some ⟨g, 0, none⟩)) "Expire").run Try.prog w = .ok (61, .pointer (some ⟨g, 0, none⟩)) w := by kernel_rfl
/-- Behind k calls. -/
def SumK (H : Nat) (w0 w : World) (s n first i m k : Nat) : Prop := ∃ g b v X, SB H w0 w s g b v X ∧ SumOk n first i m k X
set_option maxHeartbeats 4000000 in
set_option maxRecDepth 100000 in
theorem walk_sums (i0 m0 : Int) (A : Option Addr) (c : Nat) (cs : List CallA) (w : World) (hi : 0 ≤ i0 ∧ i0 ≤ 255) (hm : 0 ≤ m0 ∧ m0 ≤ 255) (hwf : ∀ y ∈ cs, WfCall y) (hA : CallsAt w A cs) (_ : cs.length ≤ 140737488355328) :
    Calls Try.prog 4 #[.int .u8 i0, .int .u8 m0, .slice A cs.length c] w fun e w' => e = .returned (.bool true) ∧ Below w.heap.size w w' := by
  obtain ⟨n, hn⟩ : ∃ n : Nat, (n : Int) = 1 + m0 % 255 := ⟨(1 + m0 % 255).toNat, by omega⟩
  have hn1 : 1 ≤ n ∧ n ≤ 255 := by omega
  obtain ⟨f, hf⟩ : ∃ f : Nat, (f : Int) = i0 % ((n : Int) + 1) := ⟨(i0 % ((n : Int) + 1)).toNat, by have := Int.emod_nonneg i0 (show ((n : Int) + 1) ≠ 0 by omega); omega⟩
  have hfn : f ≤ n := by have := Int.emod_lt_of_pos i0 (show 0 < (n : Int) + 1 by omega); omega
  have hnew := Lib.hid (fun W => snew_ok f n W hn1.1 hn1.2 hfn)
  have haw := Lib.hid (fun W => awake_any W)
  have HCS := Lib.hid hA
  have HWF := Lib.hid hwf
  clear hA hwf
  go_enter Try.func4, Try.ntmps4
  go_wp2_with fail
  rw [← hn, ← hf]
  with_reducible refine (hnew.out _).mono ?_
  rintro e w1 ⟨s, g, b, rfl, hL, hk, hB⟩
  have L0 := Lib.hid (SB.new hL hk hB)
  clear hL hk hB hnew
  go_wp2_with fail
  with_reducible refine (haw.out _).mono ?_
  rintro e w2 ⟨rfl, hB2⟩
  have HK0 : Hid (SumK w.heap.size w w2 s n f 0 0 0) := ⟨g, b, _, _, L0.out.keep hB2, SumOk.new hfn⟩
  rw [← hn, ← hf]
  have HNF := Lib.hid (And.intro hn hf)
  clear L0 hB2 haw hn hf hi hm
  go_wp2_with fail
  go_loopw [11, 12, 13] (fun iv mv kv wr => ∃ i m k : Nat, iv = .int .i64 i ∧ mv = .int .i64 m ∧ kv = .int .i64 k ∧ k ≤ 80 ∧ Hid (SumK w.heap.size w wr s n f i m k)) (fun _ _ kv _ => 81 - (intOf kv).toNat)
  case atStart => exact ⟨0, 0, 0, rfl, rfl, rfl, Nat.zero_le _, HK0⟩
  case round =>
    obtain ⟨i, m, k, rfl, rfl, rfl, hk80, HK⟩ := hrel
    clear HK0
    by_cases hlt : k < cs.length ∧ k < 80
    · obtain ⟨hl1, hl2⟩ := hlt
      obtain ⟨bb, oo, rfl, hcc⟩ : ∃ bb oo, A = some ⟨bb, oo, none⟩ ∧ ∀ W, Below w.heap.size w W → ∀ j u, (xC (cs.getD k dX))[j]? = some u → W.cell? ⟨bb, oo + k * 4 + j, none⟩ = some u := by
        obtain ⟨bb, oo, e⟩ := Arr.head HCS.out hl1
        subst e
        exact ⟨bb, oo, rfl, fun W hW j u hu => Arr.at (Arr.keep HCS.out hW) hl1 hu⟩
      obtain ⟨⟨y0, y1, y2, y3⟩, hy⟩ : ∃ y, y = cs.getD k dX := ⟨_, rfl⟩
      rw [← hy] at hcc
      have hwfy : WfCall (y0, y1, y2, y3) := by
        rw [hy, List.getD_eq_getElem?_getD, List.getElem?_eq_getElem hl1]
        exact HWF.out _ (List.getElem_mem hl1)
      have hb0 : Below w.heap.size w wr := by obtain ⟨_, _, _, _, hSB, _⟩ := HK.out; exact hSB.bel
      have c0 : wr.cell? ⟨bb, oo + k * 4, none⟩ = some (nV y0) := hcc wr hb0 0 _ rfl
      have c1 := hcc wr hb0 1 _ rfl
      have c2 := hcc wr hb0 2 _ rfl
      have c3 := hcc wr hb0 3 _ rfl
      dsimp only at c0 c1 c2 c3
      have i0 : (0 : Int) ≤ (k : Int) := Int.natCast_nonneg _
      have i1 : (k : Int) < (cs.length : Int) := by omega
      have i2 : (k : Int) < 80 := by omega
      have HW := Lib.hid hwfy
      clear hcc hy hwfy hb0
      go_upto_block 2 with fail
      obtain ⟨g, b, v, X, hSB, hSO⟩ := HK.out
      obtain ⟨wa, hwa⟩ : ∃ wa, wa = wr.alloc (.cells #[nV y0, nV y1, nV y2, nV y3] 36) := ⟨_, rfl⟩
      obtain ⟨p, hp⟩ : ∃ p, p = wr.heap.size := ⟨_, rfl⟩
      have d1 : wa.cell? ⟨p, 1, none⟩ = some (nV y1) := by rw [hwa]; exact al_new _ _ _ 1 _ hp rfl
      have d2 : wa.cell? ⟨p, 2, none⟩ = some (nV y2) := by rw [hwa]; exact al_new _ _ _ 2 _ hp rfl
      have d3 : wa.cell? ⟨p, 3, none⟩ = some (nV y3) := by rw [hwa]; exact al_new _ _ _ 3 _ hp rfl
      have hBa : Below wr.heap.size wr wa := by rw [hwa]; exact (Below.refl _ _).alloc (Nat.le_refl _) _
      have hSA := hSB.keep hBa
      rw [← hwa, ← hp]
      clear c0 c1 c2 c3 hwa hp hSB hBa HK
      have HSA := Lib.hid hSA
      have HSO := Lib.hid hSO
      have hfew : Few X := by have h1 := hSO.N; have h2 := hSO.L; have h3 := hSO.c; exact ⟨by omega, by omega, by omega⟩
      have HFW := Lib.hid hfew
      clear hSA hSO hfew
      go_cut [11, 12, 15, 16, 17, 18, 19] (fun iv mv _ _ _ _ _ wx => ∃ i m : Nat, iv = .int .i64 i ∧ mv = .int .i64 m ∧ Hid (SumK w.heap.size w wx s n f i m (k + 1)))
      case first =>
        by_cases q0 : y0 = 0
        · subst q0
          have HC := Lib.hid (wait_few y1 y2 y3 HW.out.2.1 HSA.out HFW.out)
          go_wp2_with fail
          with_reducible refine HC.out.mono ?_
          rintro e w3 ⟨he, hP⟩
          obtain ⟨v', hS, _⟩ := HSA.out.step hP
          have hW := HSO.out.wait y1 y2 y3
          obtain ⟨⟨ok, E⟩, hE⟩ : ∃ z, z = X.waitE y1 y2 y3 := ⟨_, rfl⟩
          rw [← hE] at he hW
          obtain rfl := he
          have hE0 := hW.2
          have HX : Hid (SumK w.heap.size w w3 s n f (i + one ok) m (k + 1)) := ⟨g, b, v', _, hS, hW.1⟩
          clear HC hP hS hW hE HSA HSO HFW
          cases ok with
          | true =>
            have hE1 : E = 0 := hE0 rfl
            subst hE1
            have j1 : IntKind.i64.wrap ((i : Int) + 1) = (i : Int) + 1 := by
              obtain ⟨_, _, _, _, _, hO⟩ := HX.out
              have h1 := hO.b.1
              rw [IntKind.wrap_i64]; simp only [one, if_pos] at h1; omega
            clear hE0
            go_wp2_with fail
            all_goals go_meet
            all_goals exact ⟨i + 1, m, by go_num, rfl, HX⟩
          | false =>
            clear hE0
            go_wp2_with fail
            all_goals go_meet
            all_goals exact ⟨i, m, rfl, rfl, HX⟩
        · by_cases q1 : y0 = 1
          · subst q1
            have HC := Lib.hid (signal_few HSA.out HFW.out)
            go_wp2_with fail
            with_reducible refine HC.out.mono ?_
            rintro e w3 ⟨he, hP⟩
            obtain ⟨v', hS, _⟩ := HSA.out.step hP
            have hW := HSO.out.sig
            obtain ⟨⟨x, ok, E⟩, hE⟩ : ∃ z, z = X.sigE := ⟨_, rfl⟩
            rw [← hE] at he hW
            obtain rfl := he
            have HX : Hid (SumK w.heap.size w w3 s n f (i + one ok) (m + one (decide (E = 0))) (k + 1)) := ⟨g, b, v', _, hS, hW⟩
            have hj : i + one ok ≤ k + 1 ∧ m + one (decide (E = 0)) ≤ k + 1 := hW.b
            have hi9 : i < 90 := by omega
            have hm9 : m < 90 := by omega
            have j1 : IntKind.i64.wrap ((i : Int) + 1) = (i : Int) + 1 := by rw [IntKind.wrap_i64]; omega
            have j2 : IntKind.i64.wrap ((m : Int) + 1) = (m : Int) + 1 := by rw [IntKind.wrap_i64]; omega
            clear HC hP hS hW hE HSA HSO HFW hj
            by_cases hE0 : E = 0
            · rw [decide_eq_true hE0] at HX
              cases ok with
              | true =>
                go_wp2_with fail
                all_goals go_meet
                all_goals exact ⟨i + 1, m + 1, by go_num, by go_num, HX⟩
              | false =>
                go_wp2_with fail
                all_goals go_meet
                all_goals exact ⟨i, m + 1, rfl, by go_num, HX⟩
            · rw [decide_eq_false hE0] at HX
              cases ok with
              | true =>
                go_wp2_with fail
                all_goals go_meet
                all_goals exact ⟨i + 1, m, by go_num, rfl, HX⟩
              | false =>
                go_wp2_with fail
                all_goals go_meet
                all_goals exact ⟨i, m, rfl, rfl, HX⟩
          · by_cases q2 : y0 = 2
            · subst q2
              have hmt := meth_drop g
              have HC := Lib.hid (drop_any y1 HW.out.2.1 wa.drew ((HSA.out.keep (below_dn wa 1)).sm.ln) (Nat.le_trans HFW.out.1 (by omega)))
              have k0 := HSA.out.sm.c0
              go_wp2_with fail
              go_region_law ((go_simp; (with_reducible refine (HC.out).mono ?_); (rintro e w3 ⟨rfl, hP⟩)))
              all_goals obtain ⟨v', hS, _⟩ := (HSA.out.keep (below_dn wa 1)).step (SmAt.line (HSA.out.keep (below_dn wa 1)).sm hP)
              all_goals have HX : Hid (SumK w.heap.size w w3 s n f i m (k + 1)) := ⟨g, b, v', _, hS, HSO.out.line (drop_len X.S y1).1 (drop_len X.S y1).2⟩
              all_goals clear hP hS HSA HSO HFW HC k0
              all_goals go_wp2_with fail
              all_goals go_meet
              all_goals exact ⟨i, m, rfl, rfl, HX⟩
            · by_cases q3 : y0 = 3
              · subst q3
                have hmt := meth_exp g
                have HC := Lib.hid (exp_any y3 wa.drew ((HSA.out.keep (below_dn wa 1)).sm.ln) (Nat.le_trans HFW.out.1 (by omega)))
                have k0 := HSA.out.sm.c0
                go_wp2_with fail
                go_region_law ((go_simp; (with_reducible refine (HC.out).mono ?_); (rintro e w3 ⟨d, rfl, _, ⟨v1, h1, h2, h3⟩, _⟩)))
                all_goals obtain ⟨v', hS, _⟩ := (HSA.out.keep (below_dn wa 1)).step (SmAt.line (HSA.out.keep (below_dn wa 1)).sm (same_ln h1 h2 h3))
                all_goals have HX : Hid (SumK w.heap.size w w3 s n f i m (k + 1)) := ⟨g, b, v', _, hS, HSO.out.line (expire_len X.S y3).1 (expire_len X.S y3).2⟩
                all_goals clear h1 h2 h3 hS HSA HSO HFW HC k0
                all_goals go_wp2_with fail
                all_goals go_meet
                all_goals exact ⟨i, m, rfl, rfl, HX⟩
              · have HX : Hid (SumK w.heap.size w wa s n f i m (k + 1)) := ⟨g, b, v, X, HSA.out, HSO.out.line (Nat.le_refl _) rfl⟩
                clear HSA HSO HFW
                go_wp2_with fail
                all_goals go_meet
                all_goals exact ⟨i, m, rfl, rfl, HX⟩
      case rest =>
        obtain ⟨i', m', rfl, rfl, HK⟩ := hcut
        clear HSA HSO HFW d1 d2 d3 HW
        obtain ⟨g', b', v', X', hSB, hSO⟩ := HK.out
        have HC := Lib.hid (fun W (hB : Below wc.heap.size wc W) => count_any W (hSB.keep hB).sm)
        have HL := Lib.hid (list_any wc hSB.sm.ln (by have := hSO.L; omega))
        have k0 := fun W (hB : Below wc.heap.size wc W) => (hSB.keep hB).sm.c0
        have hHK : ∀ W, Below wc.heap.size wc W → Hid (SumK w.heap.size w W s n f i' m' (k + 1)) := fun W hB => ⟨g', b', v', X', hSB.keep hB, hSO⟩
        have hql : X'.S.nums.length = X'.S.q.length := nums_len _
        obtain ⟨hm, hc, hz, he, hN, hL, hb⟩ := hSO
        obtain ⟨cc, hcc⟩ : ∃ cc : Nat, cc = X'.c := ⟨_, rfl⟩
        obtain ⟨ql, hq⟩ : ∃ ql, ql = X'.S.nums.length := ⟨_, rfl⟩
        have hq2 : ql = X'.S.q.length := by omega
        have HQ := Lib.hid hq
        rw [← hcc] at HC
        rw [← hcc] at hc he hz
        rw [← hq2] at hz
        have e1 : ((i' : Int) + (cc : Int)) = (f : Int) + (m' : Int) := by omega
        have e2 : ¬ ((cc : Int) < 0) := by omega
        have e3 : ¬ ((n : Int) < (cc : Int)) := by omega
        have e4 : 0 < ql → ¬ (0 < (cc : Int)) := fun h => by have := hz h; omega
        have w1' : IntKind.i64.wrap ((i' : Int) + (cc : Int)) = (i' : Int) + (cc : Int) := by rw [IntKind.wrap_i64]; omega
        have w2' : IntKind.i64.wrap ((f : Int) + (m' : Int)) = (f : Int) + (m' : Int) := by rw [IntKind.wrap_i64]; omega
        have hi81 : (i' : Int) ≤ 81 := by omega
        have k00 := k0 wc (Below.refl _ _)
        have HK0 := Lib.hid k0
        have HHK := Lib.hid hHK
        clear hSB hHK k0 hm hc hz he hN hL hb hq hq2 hql hcc HK
        go_wp2_with fail
        with_reducible refine (HC.out wc (Below.refl _ _)).mono ?_
        rintro e w3 ⟨rfl, rfl⟩
        go_wp2_with fail
        with_reducible refine (HC.out wc (Below.refl _ _)).mono ?_
        rintro e w3 ⟨rfl, rfl⟩
        go_wp2_with fail
        with_reducible refine HL.out.mono ?_
        rintro e w4 ⟨vl, rfl, hN, hB4, _⟩
        obtain ⟨lA, lc, rfl, _⟩ := hN.len
        have HX := HHK.out w4 hB4
        have HC4 := Lib.hid (HC.out w4 hB4)
        rw [← HQ.out]
        clear hN hB4 HL HC HHK HK0 k00
        by_cases hq0 : 0 < ql
        · have e5 := e4 hq0
          have e6 : (0 : Int) < (ql : Int) := by omega
          obtain rfl : cc = 0 := by omega
          have e7 : (i' : Int) + 0 = (f : Int) + (m' : Int) := by omega
          have w7 : IntKind.i64.wrap ((i' : Int) + 0) = (i' : Int) + 0 := by rw [IntKind.wrap_i64]; omega
          have w8 : IntKind.i64.wrap (i' : Int) = (i' : Int) := by rw [IntKind.wrap_i64]; omega
          have w9 : (i' : Int) = (f : Int) + (m' : Int) := by omega
          clear e4 e1 w1'
          go_wp2_with fail
          with_reducible refine HC4.out.mono ?_
          rintro e w3 ⟨rfl, rfl⟩
          go_wp2_with fail
          with_reducible refine HC4.out.mono ?_
          rintro e w3 ⟨rfl, rfl⟩
          go_wp2_with fail
          go_roundw
          case rel => exact ⟨i', m', k + 1, by first | rfl | rw [w9], rfl, by go_num, by omega, HX⟩
          case measure => first | (simp [intOf]; done) | (simp [intOf]; omega)
        · have e6 : ¬ (0 : Int) < (ql : Int) := by omega
          clear e4
          go_wp2_with fail
          with_reducible refine HC4.out.mono ?_
          rintro e w3 ⟨rfl, rfl⟩
          go_wp2_with fail
          go_roundw
          case rel => exact ⟨i', m', k + 1, rfl, rfl, by go_num, by omega, HX⟩
          case measure => first | (simp [intOf]; done) | (simp [intOf]; omega)
    · have HX : Hid (∃ i m k, SumK w.heap.size w wr s n f i m k) := ⟨_, _, _, HK.out⟩
      have hex : k < 80 → ¬ (k : Int) < (cs.length : Int) := fun h => by omega
      clear hlt
      go_wp2_with fail
      all_goals (obtain ⟨_, _, _, _, _, _, _, hSB, _⟩ := HX.out)
      all_goals have HBB := Lib.hid hSB.bel
      all_goals clear hSB
      all_goals go_wp2_with fail
      all_goals go_ret
      all_goals exact ⟨rfl, HBB.out⟩
end Go.Proofs.Ytfinleobgmdebaa
