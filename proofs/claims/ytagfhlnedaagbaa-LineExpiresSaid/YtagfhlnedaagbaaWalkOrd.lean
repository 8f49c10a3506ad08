/-
  The law of the order.
-/
import Derived.Test.YtagfhlnedaagbaaOrdP
import Derived.Test.YtagfhlnedaagbaaDueB
import Derived.Deep.CutBlock
namespace Go.Proofs.Ytagfhlnedaagbaa
open Go.RowKit

/-- Behind the calls that came: the line, the row of those that it has kept. -/
structure Kp (H : Nat) (w0 w : World) (g : Nat) (vc : Value) (cs : List CallA) (k : Nat) (S : Ln) (l : List CallA) : Prop where
  ex : ∃ b vq, LB H w0 w g b vq S ∧ ∀ x, vc.ownBlock = some x → ¬ Blk g b vq x
  row : Rows w vc l
  hi : ∀ x, vc.ownBlock = some x → H ≤ x
  cm : Cm S l
  n : S.n ≤ k
  k : k ≤ cs.length ∧ k ≤ 60
def Kps (H : Nat) (w0 w : World) (g : Nat) (vc : Value) (cs : List CallA) (k : Nat) : Prop := ∃ S l, Kp H w0 w g vc cs k S l

/-- Two calls in blocks of their own. -/
def In2c (w wx : World) (v10 v11 : Value) (a d : Int) : Prop := ∃ i j : Nat, v10 = .pointer (some ⟨i, 0, Option.none⟩) ∧ v11 = .pointer (some ⟨j, 0, Option.none⟩) ∧
  wx.cell? ⟨i, 2, Option.none⟩ = some (nV a) ∧ wx.cell? ⟨j, 2, Option.none⟩ = some (nV d) ∧ Below w.heap.size w wx
theorem In2c.one (w : World) (a0 a1 a2 a3 d0 d1 d2 d3 : Int) (t t' : TypeId) : In2c w (((w.alloc (.cells #[nV a0, nV a1, nV a2, nV a3] t)).alloc (.cells #[nV d0, nV d1, nV d2, nV d3] t')).drew) (.pointer (some ⟨w.heap.size, 0, Option.none⟩)) (.pointer (some ⟨w.heap.size + 1, 0, Option.none⟩)) a2 d2 :=
  ⟨_, _, rfl, rfl, al_cell (al_new _ _ _ 2 _ rfl rfl), al_new _ _ _ 2 _ (by simp) rfl, (((Below.refl _ _).alloc (Nat.le_refl _) _).alloc (by simp) _).drew⟩
theorem In2c.two (w : World) (a0 a1 a2 a3 d0 d1 d2 d3 : Int) (t t' : TypeId) : In2c w (((w.alloc (.cells #[nV d0, nV d1, nV d2, nV d3] t)).alloc (.cells #[nV a0, nV a1, nV a2, nV a3] t')).drew) (.pointer (some ⟨w.heap.size + 1, 0, Option.none⟩)) (.pointer (some ⟨w.heap.size, 0, Option.none⟩)) a2 d2 :=
  ⟨_, _, rfl, rfl, al_new _ _ _ 2 _ (by simp) rfl, al_cell (al_new _ _ _ 2 _ rfl rfl), (((Below.refl _ _).alloc (Nat.le_refl _) _).alloc (by simp) _).drew⟩
set_option maxHeartbeats 4000000 in
set_option maxRecDepth 100000 in
theorem walk_order (A : Option Addr) (c : Nat) (cs : List CallA) (w : World) (hA : CallsAt w A cs) (_ : cs.length ≤ 140737488355328) :
    Calls Try.prog 5 #[.slice A cs.length c] w fun e w' => e = .returned (.bool true) ∧ Below w.heap.size w w' := by
  have hnew := Lib.hid (fun W => new_any W)
  have haw := Lib.hid (fun W => awake_any W)
  have HCS := Lib.hid hA
  clear hA
  go_enter Try.func5, Try.ntmps5
  go_wp2_with fail
  with_reducible refine (hnew.out _).mono ?_
  rintro e w1 ⟨rfl, hL, hB⟩
  have L0 := LB.new hL (by omega) (Nat.le_refl _) hB
  obtain ⟨g, hg⟩ : ∃ g, g = w.heap.size + 1 := ⟨_, rfl⟩
  rw [← hg] at L0 ⊢
  clear hL hB hg
  have L0 := Lib.hid L0
  go_wp2_with fail
  with_reducible refine (haw.out _).mono ?_
  rintro e w2 ⟨rfl, hB2⟩
  have L1 := Lib.hid (L0.out.keep hB2)
  clear L0 hB2
  have hR0 : ∀ W : World, Rows (W.alloc (.cells #[] 32)) (.slice (some ⟨W.heap.size, 0, none⟩) 0 0) [] := fun W => World.ownsRow_lit (base := 0) (size := 4) (e := 32) W #[] 0 (Nat.zero_le _) (by decide) rfl
  have HR0 := Lib.hid (hR0 w2)
  clear hR0
  go_upto_block 0 with fail
  have HKs : Hid (Kps w.heap.size w (w2.alloc (.cells #[] 32)) g (.slice (some ⟨w2.heap.size, 0, none⟩) 0 0) cs 0) := by
    refine ⟨Ln.new, [], ⟨_, _, L1.out.keep ((Below.refl _ _).alloc (Nat.le_refl _) _), fun x e hb => ?_⟩, HR0.out, fun x e => ?_, Cm.new, Nat.zero_le _, ⟨Nat.zero_le _, Nat.zero_le _⟩⟩
    · have e : some w2.heap.size = some x := e
      injection e with e
      have := L1.out.ln.blk_lt hb
      omega
    · have e : some w2.heap.size = some x := e
      injection e with e
      have := L1.out.sz
      omega
  clear L1 HR0
  go_cut [4, 5] (fun vc _ wx => Hid (∃ k, Kps w.heap.size w wx g vc cs k))
  case first =>
    go_wp2_with fail
    go_loopw [4, 5] (fun vc kv wr => ∃ k : Nat, kv = .int .i64 k ∧ Hid (Kps w.heap.size w wr g vc cs k)) (fun _ kv _ => 61 - (intOf kv).toNat)
    case atStart => exact ⟨0, rfl, HKs⟩
    case round =>
      obtain ⟨k, rfl, HK⟩ := hrel
      clear HKs
      obtain ⟨vc, hvc⟩ : ∃ vc, vc = u4 := ⟨_, rfl⟩
      subst hvc
      obtain ⟨S, l, hK⟩ := HK.out
      clear HK
      have hkc := hK.k
      by_cases hlt : k < cs.length ∧ k < 60
      · obtain ⟨hl1, hl2⟩ := hlt
        obtain ⟨⟨b, vq, hLB, hfar⟩, hrow, hhi, hcm, hSn, _⟩ := hK
        have hLBd := hLB.keep (show Below wr.heap.size wr wr.drew from below_dn wr 1)
        have hput := fun id prio til => put_any (g := g) (b := b) (v := vq) id prio til wr.drew hLBd.ln (by have := hcm.len; have := hcm.n; omega) (by omega)
        have hgetd : ∀ W, Below w.heap.size w W → ∃ bb oo, A = some ⟨bb, oo, none⟩ ∧ W.cell? ⟨bb, oo + k * 4 + 1, none⟩ = some (nV (cs.getD k dX).2.1) ∧ W.cell? ⟨bb, oo + k * 4 + 2, none⟩ = some (nV (cs.getD k dX).2.2.1) ∧ W.cell? ⟨bb, oo + k * 4 + 3, none⟩ = some (nV (cs.getD k dX).2.2.2) ∧ W.cell? ⟨bb, oo + k * 4, none⟩ = some (nV (cs.getD k dX).1) := fun W hW => by
          obtain ⟨bb, oo, e, hc⟩ := (HCS.out.keep hW) k hl1
          exact ⟨bb, oo, e, hc 1 _ rfl, hc 2 _ rfl, hc 3 _ rfl, hc 0 _ rfl⟩
        obtain ⟨bb, oo, rfl, c1, c2, c3, c0⟩ := hgetd wr hLB.bel
        obtain ⟨y, hy⟩ : ∃ y, y = cs.getD k dX := ⟨_, rfl⟩
        rw [← hy] at c0 c1 c2 c3
        have i0 : (0 : Int) ≤ (k : Int) := Int.natCast_nonneg _
        have i1 : (k : Int) < (cs.length : Int) := by omega
        have i2 : (k : Int) < 60 := by omega
        have HPUT := Lib.hid hput
        have HX := Lib.hid (And.intro hLBd (And.intro hfar (And.intro hrow (And.intro hhi (And.intro hcm hSn)))))
        have HHY := Lib.hid hy
        have HGD := Lib.hid hgetd
        clear hput hLB hLBd hfar hrow hhi hcm hSn hy hgetd
        go_wp2_with fail
        go_cut [47] (fun ev wx => ev = .bool (decide (S.putE y.2.1 y.2.2.1 y.2.2.2 = 0)) ∧ Hid (LnP g b vq (S.put y.2.1 y.2.2.1 y.2.2.2) wr.drew wx))
        case first =>
          go_region_law ((go_simp; (with_reducible refine (HPUT.out _ _ _).mono ?_); (rintro e w3 ⟨rfl, hP⟩)))
          all_goals go_wp2_with fail
          all_goals go_meet
          all_goals exact ⟨rfl, hP⟩
        case rest =>
          obtain ⟨rfl, HP⟩ := hcut
          obtain ⟨hLBd, hfar, hrow, hhi, hcm, hSn⟩ := HX.out
          clear HX
          obtain ⟨vq', hLB', hF⟩ := hLBd.step HP.out
          obtain ⟨hrow', hfar'⟩ := (show Rows wr.drew vc l from hrow.keep (below_dn wr 1)).far hF hfar
          clear HP HPUT c0 c1 c2 c3
          obtain ⟨bb', oo', e', c1, c2, c3, c0⟩ := HGD.out wc hLB'.bel
          injection e' with e'
          injection e' with e1 e2
          subst e1 e2
          rw [← HHY.out] at c0 c1 c2 c3
          have hll : l.length ≤ 100000 := by have := hcm.n; omega
          have hown0 : ∀ x, vc.ownBlock = some x → x < wc.heap.size := fun x hx => hrow'.lt hx
          by_cases he : S.putE y.2.1 y.2.2.1 y.2.2.2 = 0
          · rw [decide_eq_true he]
            have hKn : ∀ g' cap' W, Rows W (.slice (some ⟨g', 0, none⟩) (l.length + 1) cap') (l ++ [y]) → Chg (fun x => vc.ownBlock = some x) wc W → (vc.ownBlock = some g' ∨ wc.heap.size ≤ g') → Kps w.heap.size w W g (.slice (some ⟨g', 0, none⟩) (l.length + 1) cap') cs (k + 1) := fun g' cap' W h1 h2 h3 => by
              have hln := hLB'.ln.chg h2 (fun k hk e => hfar' _ e hk)
              have hg' : w.heap.size ≤ g' := by
                rcases h3 with e | e
                · exact hhi _ e
                · have := hLB'.sz; omega
              refine ⟨S.put y.2.1 y.2.2.1 y.2.2.2, l ++ [y], ⟨b, vq', ⟨hln, hLB'.blk, hLB'.bel.trans (h2.below (n := w.heap.size) (fun k hk => hhi k hk) hLB'.sz), Nat.le_trans hLB'.sz h2.size⟩, fun x e hb => ?_⟩, h1, fun x e => ?_, hcm.put hLBd.ln.ok he, Nat.le_trans put_n (by omega), by omega, by omega⟩
              · have e : some g' = some x := e
                injection e with e
                subst e
                rcases h3 with e | e
                · exact hfar' _ e hb
                · have := hLB'.ln.blk_lt hb; omega
              · have e : some g' = some x := e
                injection e with e
                omega
            have HKN := Lib.hid hKn
            have HROW := Lib.hid hrow'
            clear hKn hLB' hF hrow' hfar' hLBd hfar hrow hhi hcm hSn hown0 HGD HHY hkc
            obtain ⟨y0, y1, y2, y3⟩ := y
            dsimp only at c0 c1 c2 c3
            go_wp2_with (at_builtin; refine wpList_appC (y := (y0, y1, y2, y3)) rfl _ _ rfl HROW.out hll rfl rfl ?_; intro g' cap' w4 hN4 hC4 hO4)
            have HF := Lib.hid (HKN.out _ _ _ hN4 hC4 hO4)
            clear hN4 hC4 hO4
            go_roundw
            case rel => exact ⟨k + 1, by go_num, HF⟩
            case measure => first | (simp [intOf]; done) | (simp [intOf]; omega)
          · rw [decide_eq_false he]
            have HF : Hid (Kps w.heap.size w wc g vc cs (k + 1)) := by
              rw [put_no he] at hLB'
              exact ⟨S, l, ⟨b, vq', hLB', hfar'⟩, hrow', hhi, hcm, by omega, by omega, by omega⟩
            clear hLB' hF hrow' hfar' hLBd hfar hrow hhi hcm hSn hown0 HGD HHY hkc c0 c1 c2 c3
            go_wp2_with fail
            go_roundw
            case rel => exact ⟨k + 1, by go_num, HF⟩
            case measure => first | (simp [intOf]; done) | (simp [intOf]; omega)
      · have HX : Hid (∃ k, Kps w.heap.size w wr g vc cs k) := ⟨k, S, l, hK⟩
        have hex : k < 60 → ¬ (k : Int) < (cs.length : Int) := fun h => by omega
        clear hK hlt hkc
        go_wp2_with fail
        all_goals go_meet
        all_goals exact HX
  case rest =>
    obtain ⟨vc, hvc⟩ : ∃ vc, vc = u4 := ⟨_, rfl⟩
    subst hvc
    obtain ⟨k, S, l, hK⟩ := hcut
    obtain ⟨⟨b, vq, hLB, hfar⟩, hrow, hhi, hcm, hSn, hkc⟩ := hK
    have HLI := Lib.hid (list_any wc hLB.ln (by have := hcm.len; have := hcm.n; omega))
    obtain ⟨n, hnn⟩ : ∃ n, n = l.length := ⟨_, rfl⟩
    obtain ⟨cA, cc, hvc⟩ := hrow.len
    rw [← hnn] at hvc
    have hgl : S.nums.length = n := by rw [nums_len, hcm.len, hnn]
    have hok := hLB.ln.ok
    have HH := Lib.hid (And.intro hcm hok)
    have HB0 := Lib.hid hLB.bel
    have hn60 : n ≤ 60 := by have := hcm.n; omega
    have HROW := Lib.hid hrow
    have HN := Lib.hid hnn
    have HGL := Lib.hid hgl
    have HS2 := Lib.hid (And.intro hLB.sz hhi)
    clear hLB hfar hrow hhi hcm hSn hnn hgl hok hkc HKs HCS hnew haw
    subst hvc
    go_wp2_with fail
    with_reducible refine HLI.out.mono ?_
    rintro e w3 ⟨vg, rfl, hNg, hBg, _⟩
    obtain ⟨gA, gc, rfl, _⟩ := hNg.len
    rw [HGL.out]
    have HNG := Lib.hid (Nums.ints hNg)
    have HRW := Lib.hid (Rows.calls (HROW.out.keep hBg))
    have HB1 := Lib.hid (HB0.out.trans (hBg.mono HS2.out.1))
    have HSZ := Lib.hid (Nat.le_trans HS2.out.1 hBg.size)
    have hA0 : Below w3.heap.size w3 (w3.alloc (.cells #[] 3)) := (Below.refl _ _).alloc (Nat.le_refl _) _
    have hN0 : Nums (w3.alloc (.cells #[] 3)) (.slice (some ⟨w3.heap.size, 0, Option.none⟩) 0 0) (arrs S 0) := World.ownsRow_lit (base := 0) (size := 1) (e := 3) w3 #[] 0 (Nat.zero_le _) (by decide) rfl
    have HA0 := Lib.hid hA0
    have HN0 := Lib.hid hN0
    clear hNg hBg HLI HROW HB0 HS2 hA0 hN0
    go_wp2_with fail
    go_loopw [7, 8, 9, 10, 11] (fun va iv _ _ _ wr2 => ∃ i : Nat, iv = .int .i64 i ∧ i ≤ n ∧ Hid (Nums wr2 va (arrs S i)) ∧ Hid (Below w3.heap.size w3 wr2) ∧ Hid (∀ x, va.ownBlock = some x → w3.heap.size ≤ x)) (fun _ iv _ _ _ _ => n - (intOf iv).toNat)
    case atStart => exact ⟨0, rfl, Nat.zero_le _, HN0, HA0, fun x e => by
      have e : some w3.heap.size = some x := e
      injection e with e
      omega⟩
    case round =>
      obtain ⟨i, rfl, hi, HNA, HBA, HFA⟩ := hrel
      obtain ⟨va, hva⟩ : ∃ va, va = u7 := ⟨_, rfl⟩
      subst hva
      clear HN0 HA0
      have hql : S.q.length = n := by rw [HH.out.1.len, HN.out]
      by_cases hin : i < n
      · have hiq : i < S.q.length := by omega
        have HG1 : Hid (∀ W, Below w3.heap.size w3 W → ∃ gb go, gA = some ⟨gb, go, Option.none⟩ ∧ W.cell? ⟨gb, go + i, Option.none⟩ = some (nV (S.nums.getD i 0))) := fun W hW => by
          obtain ⟨gb, go, e, hc⟩ := (HNG.out.keep hW) i (by rw [HGL.out]; exact hin)
          exact ⟨gb, go, e, hc⟩
        have HC1 : Hid (∀ W, Below w3.heap.size w3 W → ∀ j, j < n → ∃ cb co, cA = some ⟨cb, co, Option.none⟩ ∧ W.cell? ⟨cb, co + j * 4 + 1, Option.none⟩ = some (nV (l.getD j dX).2.1) ∧ W.cell? ⟨cb, co + j * 4 + 2, Option.none⟩ = some (nV (l.getD j dX).2.2.1) ∧ W.cell? ⟨cb, co + j * 4 + 3, Option.none⟩ = some (nV (l.getD j dX).2.2.2) ∧ W.cell? ⟨cb, co + j * 4, Option.none⟩ = some (nV (l.getD j dX).1)) := fun W hW j hj => by
          obtain ⟨bb, oo, e, hc⟩ := (HRW.out.keep hW) j (by rw [← HN.out]; exact hj)
          exact ⟨bb, oo, e, hc 1 _ rfl, hc 2 _ rfl, hc 3 _ rfl, hc 0 _ rfl⟩
        have HM0 : Hid (Nums wr va (mid S i 0)) := by unfold Hid; rw [mid_zero]; exact HNA.out
        have HIQ := Lib.hid hiq
        clear HNA hql hiq
        go_wp2_with fail
        go_loopw [7, 9] (fun va jv wr => ∃ j : Nat, jv = .int .i64 j ∧ j ≤ n ∧ Hid (Nums wr va (mid S i j)) ∧ Hid (Below w3.heap.size w3 wr) ∧ Hid (∀ x, va.ownBlock = some x → w3.heap.size ≤ x)) (fun _ jv _ => n - (intOf jv).toNat)
        case atStart => exact ⟨0, rfl, Nat.zero_le _, HM0, HBA, HFA⟩
        case round =>
          obtain ⟨j, rfl, hj, HNM, HBM, HFM⟩ := hrel
          obtain ⟨va, hva⟩ : ∃ va, va = u7 := ⟨_, rfl⟩
          subst hva
          clear HM0 HBA HFA
          by_cases hjn : j < n
          · obtain ⟨gb, go, rfl, k0⟩ := HG1.out wr HBM.out
            obtain ⟨cb, co, rfl, d1, _, _, _⟩ := HC1.out wr HBM.out j hjn
            have hwi := who_iff HH.out.1 HH.out.2 HIQ.out (show j < l.length by rw [← HN.out]; exact hjn)
            obtain ⟨x, hx⟩ : ∃ x, x = (l.getD j dX).2.1 := ⟨_, rfl⟩
            obtain ⟨y, hy⟩ : ∃ y, y = S.nums.getD i 0 := ⟨_, rfl⟩
            rw [← hx] at d1 hwi
            rw [← hy] at k0 hwi
            have HWI := Lib.hid hwi
            have i0 : (0 : Int) ≤ (i : Int) := Int.natCast_nonneg _
            have i1 : (i : Int) < (n : Int) := by omega
            have j0 : (0 : Int) ≤ (j : Int) := Int.natCast_nonneg _
            have j1 : (j : Int) < (n : Int) := by omega
            clear hwi hx hy
            by_cases hxy : x = y
            · have HQ := Lib.hid (mid_yes (S := S) (i := i) (HWI.out.1 hxy))
              have hml : (mid S i j).length ≤ 100000 := by
                have := mid_len (S := S) (i := i) (k := j) (Nat.le_of_lt HIQ.out)
                omega
              go_wp2_with fail
              go_quiet (fail)
              have HNM1 := Lib.hid ((show Nums wr va (mid S i j) from HNM).keep (below_dn wr nq))
              go_wp2_with (at_builtin; refine wpList_app (z := (j : Int)) rfl _ _ rfl HNM1.out hml rfl rfl ?_; intro g' cap' w4 hN4 hC4 hO4)
              have hC5 := (Chg.of_below (below_dn wr nq)).trans hC4
              have hg' : w3.heap.size ≤ g' := by
                rcases hO4 with e | e
                · exact HFM.out _ e
                · exact Nat.le_trans HBM.out.size e
              have H1 : Hid (Nums w4 (.slice (some ⟨g', 0, Option.none⟩) ((mid S i j).length + 1) cap') (mid S i (j + 1))) := by unfold Hid; rw [HQ.out]; exact hN4
              have H2 := Lib.hid (HBM.out.trans (hC5.below (n := w3.heap.size) (fun k hk => HFM.out k hk) HBM.out.size))
              have H3 := Lib.hid hg'
              clear hN4 hC4 hO4 hC5 hg' HNM HNM1 HBM HFM
              go_roundw
              case rel => exact ⟨j + 1, by go_num, by omega, H1, H2, fun x e => by
                have e : some g' = some x := e
                injection e with e
                rw [← e]; exact H3.out⟩
              case measure => first | (simp [intOf]; done) | (simp [intOf]; omega)
            · have HQ := Lib.hid (mid_no (S := S) (i := i) (k := j) (fun e => hxy (HWI.out.2 e)))
              have HF1 : Hid (Nums wr va (mid S i (j + 1))) := by unfold Hid; rw [HQ.out]; exact HNM.out
              clear HNM
              go_wp2_with fail
              go_quiet (fail)
              go_wp2_with fail
              go_roundw
              case rel => exact ⟨j + 1, by go_num, by omega, HF1.out.keep (below_dn _ _), HBM.out.trans ((below_dn _ _).mono HBM.out.size), HFM⟩
              case measure => first | (simp [intOf]; done) | (simp [intOf]; omega)
          · obtain rfl : j = n := by omega
            have HNE : Hid (Nums wr va (arrs S (i + 1))) := by
              unfold Hid
              rw [← mid_end HH.out.1 HH.out.2 HIQ.out, ← HN.out]
              exact HNM.out
            clear HNM
            have hal := arrs_len (S := S) (i := i + 1) HIQ.out
            obtain ⟨aA, ac, rfl, haA⟩ := HNE.out.len
            rw [hal]
            obtain ⟨ga, rfl⟩ := haA (by omega)
            rw [hal] at HNE
            have i0 : (0 : Int) ≤ (i : Int) := Int.natCast_nonneg _
            have i1 : (i : Int) < 60 := by omega
            clear hal haA hj
            by_cases hi0 : i = 0
            · subst hi0
              go_wp2_with fail
              go_roundw
              case rel => exact ⟨1, by go_num, by omega, HNE, HBM, HFM⟩
              case measure => first | (simp [intOf]; done) | (simp [intOf]; omega)
            · obtain ⟨t, rfl⟩ : ∃ t, i = t + 1 := ⟨i - 1, by omega⟩
              have a1 := HNE.out.at (i := t) (by rw [arrs_len HIQ.out]; omega)
              have a2 := HNE.out.at (i := t + 1) (by rw [arrs_len HIQ.out]; omega)
              rw [arrs_at HIQ.out (by omega)] at a1 a2
              obtain ⟨p, hp⟩ : ∃ p, p = (S.q.getD t dW).arr := ⟨_, rfl⟩
              obtain ⟨r, hr⟩ : ∃ r, r = (S.q.getD (t + 1) dW).arr := ⟨_, rfl⟩
              have hnt := no_turn (i := t + 1) HH.out.1 HH.out.2 (by omega) HIQ.out
              rw [show t + 1 - 1 = t from rfl, ← hp, ← hr] at hnt
              have hpn : p < j := by
                rw [HN.out, ← HH.out.1.n, hp]
                exact HH.out.2.arr _ (q_mem (by have := HIQ.out; omega))
              have hrn : r < j := by
                rw [HN.out, ← HH.out.1.n, hr]
                exact HH.out.2.arr _ (q_mem HIQ.out)
              rw [← hp] at a1
              rw [← hr] at a2
              have HBW := Lib.hid (show ∀ W, Below wr.heap.size wr W → Below w3.heap.size w3 W from fun W h => HBM.out.trans (h.mono HBM.out.size))
              have hC1 := fun W hW => HC1.out W (HBW.out W hW) p hpn
              have hC2 := fun W hW => HC1.out W (HBW.out W hW) r hrn
              obtain ⟨⟨xa, xb, xc, xd⟩, hx⟩ : ∃ x, x = l.getD p dX := ⟨_, rfl⟩
              obtain ⟨⟨ya, yb, yc, yd⟩, hy⟩ : ∃ y, y = l.getD r dX := ⟨_, rfl⟩
              rw [← hx, ← hy] at hnt
              rw [← hx] at hC1
              rw [← hy] at hC2
              dsimp only at hnt hC1 hC2
              obtain ⟨cb, co, rfl, _⟩ := hC1 wr (Below.refl _ _)
              have hD1 : ∀ W, Below wr.heap.size wr W → W.cell? ⟨cb, co + p * 4, Option.none⟩ = some (nV xa) ∧ W.cell? ⟨cb, co + p * 4 + 1, Option.none⟩ = some (nV xb) ∧ W.cell? ⟨cb, co + p * 4 + 2, Option.none⟩ = some (nV xc) ∧ W.cell? ⟨cb, co + p * 4 + 3, Option.none⟩ = some (nV xd) := fun W hW => by
                obtain ⟨b', o', e, h1, h2, h3, h0⟩ := hC1 W hW
                injection e with e
                injection e with e1 e2
                subst e1 e2
                exact ⟨h0, h1, h2, h3⟩
              have hD2 : ∀ W, Below wr.heap.size wr W → W.cell? ⟨cb, co + r * 4, Option.none⟩ = some (nV ya) ∧ W.cell? ⟨cb, co + r * 4 + 1, Option.none⟩ = some (nV yb) ∧ W.cell? ⟨cb, co + r * 4 + 2, Option.none⟩ = some (nV yc) ∧ W.cell? ⟨cb, co + r * 4 + 3, Option.none⟩ = some (nV yd) := fun W hW => by
                obtain ⟨b', o', e, h1, h2, h3, h0⟩ := hC2 W hW
                injection e with e
                injection e with e1 e2
                subst e1 e2
                exact ⟨h0, h1, h2, h3⟩
              have v0 : Below wr.heap.size wr wr.drew := (Below.refl _ _).drew
              have v1 : ∀ o, Below wr.heap.size wr (wr.alloc o).drew := fun o => ((Below.refl _ _).alloc (Nat.le_refl _) _).drew
              have v2 : ∀ o o', Below wr.heap.size wr ((wr.alloc o).alloc o').drew := fun o o' => (((Below.refl _ _).alloc (Nat.le_refl _) _).alloc (by simp) _).drew
              obtain ⟨m0, m1, m2, m3⟩ := hD1 _ v0
              have m10 := fun o => (hD1 _ (v1 o)).1
              have m11 := fun o => (hD1 _ (v1 o)).2.1
              have m12 := fun o => (hD1 _ (v1 o)).2.2.1
              have m13 := fun o => (hD1 _ (v1 o)).2.2.2
              have m20 := fun o o' => (hD1 _ (v2 o o')).1
              have m21 := fun o o' => (hD1 _ (v2 o o')).2.1
              have m22 := fun o o' => (hD1 _ (v2 o o')).2.2.1
              have m23 := fun o o' => (hD1 _ (v2 o o')).2.2.2
              obtain ⟨z0, z1, z2, z3⟩ := hD2 _ v0
              have z10 := fun o => (hD2 _ (v1 o)).1
              have z11 := fun o => (hD2 _ (v1 o)).2.1
              have z12 := fun o => (hD2 _ (v1 o)).2.2.1
              have z13 := fun o => (hD2 _ (v1 o)).2.2.2
              have z20 := fun o o' => (hD2 _ (v2 o o')).1
              have z21 := fun o o' => (hD2 _ (v2 o o')).2.1
              have z22 := fun o o' => (hD2 _ (v2 o o')).2.2.1
              have z23 := fun o o' => (hD2 _ (v2 o o')).2.2.2
              have a10 := kept a1 v0
              have a11 := fun o => kept a1 (v1 o)
              have a12 := fun o o' => kept a1 (v2 o o')
              have a20 := kept a2 v0
              have a21 := fun o => kept a2 (v1 o)
              have a22 := fun o o' => kept a2 (v2 o o')
              have HNT := Lib.hid hnt
              have t0 : (0 : Int) ≤ (t : Int) := Int.natCast_nonneg _
              have t1 : (t : Int) + 1 < 60 := by omega
              have t2 : (t : Int) + 1 - 1 = (t : Int) := by omega
              have t3 : IntKind.i64.wrap (t : Int) = (t : Int) := by rw [IntKind.wrap_i64]; omega
              have p0 : (0 : Int) ≤ (p : Int) := Int.natCast_nonneg _
              have p1 : (p : Int) < (j : Int) := by omega
              have r0 : (0 : Int) ≤ (r : Int) := Int.natCast_nonneg _
              have r1 : (r : Int) < (j : Int) := by omega
              have HA1 := Lib.hid a1
              have HA2 := Lib.hid a2
              clear hC1 hC2 hD1 hD2 v0 v1 v2 hnt hp hr hpn hrn hx hy a1 a2
              go_wp2_with fail
              go_cut [10, 11] (fun v10 v11 wx => In2c wr wx v10 v11 xc yc)
              case first =>
                go_region
                all_goals go_wp2_with fail
                all_goals go_meet
                all_goals first | exact In2c.one _ _ _ _ _ _ _ _ _ _ _ | exact In2c.two _ _ _ _ _ _ _ _ _ _ _
              case rest =>
                obtain ⟨i1', j1', rfl, rfl, ci, cj, hM⟩ := hcut
                have HM := Lib.hid hM
                have b10 := kept HA1.out hM
                have b20 := kept HA2.out hM
                have HBR := Lib.hid (HBM.out.trans (hM.mono HBM.out.size))
                have HNR := Lib.hid (HNE.out.keep hM)
                have hnt1 : xc ≤ yc ∨ True := .inr trivial
                have hn1 : ¬ xc < yc := fun h => HNT.out (.inl h)
                have hn2 : xc = yc → ¬ ((r : Int) ≤ (p : Int)) := fun h h' => HNT.out (.inr ⟨h, h'⟩)
                clear hM hnt1 m0 m1 m2 m3 m10 m11 m12 m13 m20 m21 m22 m23 z0 z1 z2 z3 z10 z11 z12 z13 z20 z21 z22 z23 a10 a11 a12 a20 a21 a22
                by_cases hq : xc = yc
                · have hn3 := hn2 hq
                  clear hn2
                  subst hq
                  go_wp2_with fail
                  go_quiet (fail)
                  go_wp2_with fail
                  go_roundw
                  case rel => exact ⟨t + 2, by go_num, by omega, HNR.out.keep (below_dn _ _), HBR.out.trans ((below_dn _ _).mono HBR.out.size), HFM⟩
                  case measure => first | (simp [intOf]; done) | (simp [intOf]; omega)
                · clear hn2
                  go_wp2_with fail
                  go_quiet (fail)
                  go_wp2_with fail
                  go_roundw
                  case rel => exact ⟨t + 2, by go_num, by omega, HNR.out.keep (below_dn _ _), HBR.out.trans ((below_dn _ _).mono HBR.out.size), HFM⟩
                  case measure => first | (simp [intOf]; done) | (simp [intOf]; omega)
      · obtain rfl : i = n := by omega
        clear HNA
        go_wp2_with fail
        go_ret
        exact ⟨rfl, HB1.out.trans (HBA.out.mono HSZ.out)⟩
end Go.Proofs.Ytagfhlnedaagbaa
