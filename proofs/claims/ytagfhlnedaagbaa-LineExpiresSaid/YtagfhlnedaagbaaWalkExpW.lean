/-
  A piece of the walk.
-/
import Derived.Test.YtagfhlnedaagbaaWalkExpMain
namespace Go.Proofs.Ytagfhlnedaagbaa
open Go.RowKit
set_option linter.all false in
set_option maxHeartbeats 40000000 in
set_option maxRecDepth 100000 in
theorem part_WalkExp_W : part_WalkExp.W := by
  set_option tactic.hygienic false in intro
  set_option tactic.hygienic false in intros
  go_wp2_with fail
  go_loopw [7, 8] (fun nv kv wr => ∃ k : Nat, kv = .int .i64 k ∧ Hid (∃ S : Ln, nv = .int .i64 (S.q.length : Int) ∧ Kq w.heap.size w wr g w2.heap.size cs k S)) (fun _ kv _ => 61 - (intOf kv).toNat)
  case atStart => exact ⟨0, rfl, HKs⟩
  case round =>
    obtain ⟨k, rfl, HK⟩ := hrel
    clear HKs
    obtain ⟨S, hnv, hK⟩ := HK.out
    clear HK
    subst hnv
    have hkc := hK.k
    by_cases hlt : k < cs.length ∧ k < 60
    · obtain ⟨hl1, hl2⟩ := hlt
      obtain ⟨⟨b, vq, hLB, hfar⟩, htab, hhi, hlen, hSn, hnow, _⟩ := hK
      have hLBd := hLB.keep (show Below wr.heap.size wr wr.drew from below_dn wr 1)
      have hput := fun id prio til => put_any (g := g) (b := b) (v := vq) id prio til wr.drew hLBd.ln (by omega) (by omega)
      have hgetd : ∀ W, Below w.heap.size w W → ∃ bb oo, A = some ⟨bb, oo, Option.none⟩ ∧ W.cell? ⟨bb, oo + k * 4 + 1, Option.none⟩ = some (nV (cs.getD k dX).2.1) ∧ W.cell? ⟨bb, oo + k * 4 + 2, Option.none⟩ = some (nV (cs.getD k dX).2.2.1) ∧ W.cell? ⟨bb, oo + k * 4 + 3, Option.none⟩ = some (nV (cs.getD k dX).2.2.2) ∧ W.cell? ⟨bb, oo + k * 4, Option.none⟩ = some (nV (cs.getD k dX).1) := fun W hW => by
        obtain ⟨bb, oo, e, hc⟩ := (HCS.out.keep hW) k hl1
        exact ⟨bb, oo, e, hc 1 _ rfl, hc 2 _ rfl, hc 3 _ rfl, hc 0 _ rfl⟩
      obtain ⟨bb, oo, rfl, c1, c2, c3, c0⟩ := hgetd wr hLB.bel
      obtain ⟨y, hy⟩ : ∃ y, y = cs.getD k dX := ⟨_, rfl⟩
      rw [← hy] at c0 c1 c2 c3
      have i0 : (0 : Int) ≤ (k : Int) := Int.natCast_nonneg _
      have i1 : (k : Int) < (cs.length : Int) := by omega
      have i2 : (k : Int) < 60 := by omega
      have HPUT := Lib.hid hput
      have HX := Lib.hid (And.intro hLBd (And.intro hfar (And.intro htab (And.intro hhi (And.intro hlen (And.intro hSn hnow))))))
      have HHY := Lib.hid hy
      have HGD := Lib.hid hgetd
      clear hput hLB hLBd hfar htab hhi hlen hSn hnow hy hgetd
      go_wp2_with fail
      go_cut [48] (fun ev wx => ev = .bool (decide (S.putE y.2.1 y.2.2.1 y.2.2.2 = 0)) ∧ Hid (LnP g b vq (S.put y.2.1 y.2.2.1 y.2.2.2) wr.drew wx))
      case first =>
        go_region_law ((go_simp; (with_reducible refine (HPUT.out _ _ _).mono ?_); (rintro e w3 ⟨rfl, hP⟩)))
        all_goals go_wp2_with fail
        all_goals go_meet
        all_goals exact ⟨rfl, hP⟩
      case rest =>
        obtain ⟨rfl, HP⟩ := hcut
        obtain ⟨hLBd, hfar, htab, hhi, hlen, hSn, hnow⟩ := HX.out
        clear HX
        obtain ⟨vq', hLB', hF⟩ := hLBd.step HP.out
        have htabd : Tab wr.drew w2.heap.size S := htab.keep (below_dn wr 1)
        have hff := hF w2.heap.size ⟨htabd.lt, hfar⟩
        have htab' := htabd.same hff.1
        have hfar' := hff.2.2
        clear HP HPUT c0 c1 c2 c3 hff htabd
        obtain ⟨bb', oo', e', c1, c2, c3, c0⟩ := HGD.out wc hLB'.bel
        injection e' with e'
        injection e' with e1 e2
        subst e1 e2
        rw [← HHY.out] at c0 c1 c2 c3
        by_cases he : S.putE y.2.1 y.2.2.1 y.2.2.2 = 0
        · rw [decide_eq_true he]
          obtain ⟨hb1, _, _, _⟩ := putE_ok he
          obtain ⟨m, hm⟩ : ∃ m : Nat, y.2.1 = (m : Int) := ⟨y.2.1.toNat, by omega⟩
          have hm6 : m < 65536 := by omega
          obtain ⟨z0, hz0⟩ := htab'.cel m hm6
          have hf0 := htab'.fz m
          have HKN : Hid (∀ W, W = (wc.setCell ⟨w2.heap.size, m, Option.none⟩ (nV y.2.2.2)) → Kq w.heap.size w W.drew g w2.heap.size cs (k + 1) (S.put y.2.1 y.2.2.1 y.2.2.2) ∧ (S.put y.2.1 y.2.2.1 y.2.2.2).q.length = S.q.length + 1) := fun W hW => by
            subst hW
            have hC : Chg (fun x => x = w2.heap.size) wc (wc.setCell ⟨w2.heap.size, m, Option.none⟩ (nV y.2.2.2)).drew := ((Chg.refl wc).set (S := fun x => x = w2.heap.size) (a := ⟨w2.heap.size, m, Option.none⟩) rfl _).drew
            have hln := hLB'.ln.chg hC (fun x hx e => hfar' (e ▸ hx))
            refine ⟨⟨⟨b, vq', ⟨hln, hLB'.blk, hLB'.bel.trans (hC.below (n := w.heap.size) (fun x hx => by omega) hLB'.sz), Nat.le_trans hLB'.sz hC.size⟩, hfar'⟩, ?_, hhi, by rw [put_len he]; omega, Nat.le_trans put_n (by omega), by rw [put_now]; exact hnow, by omega, by omega⟩, put_len he⟩
            exact (htab'.set he hm).keep (below_dn _ 1)
          have n1 : (S.q.length : Int) < 60 := by omega
          clear hLB' hF htab' hfar' hLBd hfar htab hhi hlen hSn HGD HHY hkc hnow
          obtain ⟨y0, y1, y2, y3⟩ := y
          dsimp only at c0 c1 c2 c3 hm
          subst hm
          have n0 : (0 : Int) ≤ (S.q.length : Int) := Int.natCast_nonneg _
          have m0 : (0 : Int) ≤ (m : Int) := Int.natCast_nonneg _
          have m1 : (m : Int) < 65536 := by omega
          have d1 := kept c1 (show Below wc.heap.size wc wc.drew from below_dn wc 1)
          have d3 := kept c3 (show Below wc.heap.size wc wc.drew from below_dn wc 1)
          have dz := kept hz0 (show Below wc.heap.size wc wc.drew from below_dn wc 1)
          have df : wc.drew.frozen? ⟨w2.heap.size, m, Option.none⟩ = false := hf0
          clear he hb1
          go_wp2_with fail
          go_region
          go_wp2_with fail
          go_roundw
          case rel =>
            obtain ⟨h1, h2⟩ := HKN.out _ rfl
            exact ⟨k + 1, by go_num, _, by rw [h2]; go_num, h1⟩
          case measure => first | (simp [intOf]; done) | (simp [intOf]; omega)
        · rw [decide_eq_false he]
          have HF : Hid (∃ S' : Ln, (Value.int .i64 (S.q.length : Int)) = .int .i64 (S'.q.length : Int) ∧ Kq w.heap.size w wc g w2.heap.size cs (k + 1) S') := by
            rw [put_no he] at hLB'
            exact ⟨S, rfl, ⟨b, vq', hLB', hfar'⟩, htab', hhi, by omega, by omega, hnow, by omega, by omega⟩
          clear hLB' hF htab' hfar' hLBd hfar htab hhi hlen hSn HGD HHY hkc hnow c0 c1 c2 c3
          go_wp2_with fail
          go_roundw
          case rel => exact ⟨k + 1, by go_num, HF⟩
          case measure => first | (simp [intOf]; done) | (simp [intOf]; omega)
    · have HX : Hid (∃ (k : Nat) (S' : Ln), (Value.int .i64 (S.q.length : Int)) = .int .i64 (S'.q.length : Int) ∧ Kq w.heap.size w wr g w2.heap.size cs k S') := ⟨k, S, rfl, hK⟩
      have hex : k < 60 → ¬ (k : Int) < (cs.length : Int) := fun h => by omega
      clear hK hlt hkc
      go_wp2_with fail
      all_goals go_meet
      all_goals exact HX
end Go.Proofs.Ytagfhlnedaagbaa
