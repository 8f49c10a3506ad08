/-
  Expire of the document's.
-/
import Derived.Test.YtagfhlnedaagbaaDocQ
import Derived.Deep.CutBlock
namespace Go.Proofs.Ytagfhlnedaagbaa
open Go.RowKit

def dueD (t : Int) (y : DW) : Prop := y.2.2 ≠ -1 ∧ y.2.2 ≤ t
instance (t : Int) (y : DW) : Decidable (dueD t y) := by unfold dueD; infer_instance
/-- The first one of the earliest deadline among the first k. -/
def BestR (o : List DW) (t : Int) (k : Nat) (at' : Int) : Prop := (at' = -1 ∧ ∀ j, j < k → ¬ dueD t (o.getD j d0)) ∨ ∃ m : Nat, at' = m ∧ m < k ∧ dueD t (o.getD m d0) ∧ ∀ j, j < k → dueD t (o.getD j d0) → (o.getD m d0).2.2 < (o.getD j d0).2.2 ∨ ((o.getD m d0).2.2 = (o.getD j d0).2.2 ∧ m ≤ j)
theorem BestR.zero (o : List DW) (t : Int) : BestR o t 0 (-1) := .inl ⟨rfl, fun _ hj => absurd hj (Nat.not_lt_zero _)⟩
theorem BestR.skip {o : List DW} {t at' : Int} {k : Nat} (h : BestR o t k at') (hn : ¬ dueD t (o.getD k d0)) : BestR o t (k + 1) at' := by
  rcases h with ⟨h1, h2⟩ | ⟨m, h1, h2, h3, h4⟩
  · refine .inl ⟨h1, fun j hj => ?_⟩
    rcases Nat.lt_or_ge j k with h | h
    · exact h2 j h
    · obtain rfl : j = k := by omega
      exact hn
  · refine .inr ⟨m, h1, by omega, h3, fun j hj hd => ?_⟩
    rcases Nat.lt_or_ge j k with h | h
    · exact h4 j h hd
    · obtain rfl : j = k := by omega
      exact absurd hd hn
theorem BestR.first {o : List DW} {t : Int} {k : Nat} (h : BestR o t k (-1)) (hd : dueD t (o.getD k d0)) : BestR o t (k + 1) k := by
  rcases h with ⟨_, h2⟩ | ⟨m, h1, _⟩
  · refine .inr ⟨k, rfl, by omega, hd, fun j hj hd' => ?_⟩
    rcases Nat.lt_or_ge j k with h | h
    · exact absurd hd' (h2 j h)
    · obtain rfl : j = k := by omega
      exact .inr ⟨rfl, Nat.le_refl _⟩
  · omega
theorem BestR.less {o : List DW} {t : Int} {k m : Nat} (h : BestR o t k m) (hd : dueD t (o.getD k d0)) (hl : (o.getD k d0).2.2 < (o.getD m d0).2.2) : BestR o t (k + 1) k := by
  rcases h with ⟨h1, _⟩ | ⟨m', h1, h2, h3, h4⟩
  · omega
  · obtain rfl : m = m' := by omega
    refine .inr ⟨k, rfl, by omega, hd, fun j hj hd' => ?_⟩
    rcases Nat.lt_or_ge j k with h | h
    · have := h4 j h hd'; exact .inl (by omega)
    · obtain rfl : j = k := by omega
      exact .inr ⟨rfl, Nat.le_refl _⟩
theorem BestR.more {o : List DW} {t : Int} {k m : Nat} (h : BestR o t k m) (hl : ¬ (o.getD k d0).2.2 < (o.getD m d0).2.2) : BestR o t (k + 1) m := by
  rcases h with ⟨h1, _⟩ | ⟨m', h1, h2, h3, h4⟩
  · omega
  · obtain rfl : m = m' := by omega
    refine .inr ⟨m, rfl, by omega, h3, fun j hj hd' => ?_⟩
    rcases Nat.lt_or_ge j k with h | h
    · exact h4 j h hd'
    · obtain rfl : j = k := by omega
      by_cases h : (o.getD m d0).2.2 < (o.getD j d0).2.2
      · exact .inl h
      · exact .inr ⟨by omega, by omega⟩
theorem BestR.lt {o : List DW} {t at' : Int} {k : Nat} (h : BestR o t k at') : at' = -1 ∨ ∃ m : Nat, at' = m ∧ m < k := by
  rcases h with ⟨h, _⟩ | ⟨m, h1, h2, _⟩
  · exact .inl h
  · exact .inr ⟨m, h1, h2⟩
/-- One behind the other is let go, until none is due. -/
inductive ExpS (t : Int) : List DW → List Int → List DW → Prop
  | stop {l : List DW} : BestR (ordD l) t (ordD l).length (-1) → ExpS t l [] l
  | step {l l' : List DW} {m i : Nat} {outs : List Int} : BestR (ordD l) t (ordD l).length m → m < (ordD l).length → i < l.length → (l.getD i d0).1 = ((ordD l).getD m d0).1 → ExpS t (outD l i) outs l' → ExpS t l (((ordD l).getD m d0).1 :: outs) l'
theorem acc_sub {l : List DW} {y : DW} : ∀ {k}, y ∈ accD l k → y ∈ l
  | 0, h => by simp [accD] at h
  | k + 1, h => by
    rcases List.mem_append.1 h with h | h
    · exact acc_sub h
    · exact (List.mem_filter.1 h).1
theorem ord_has {l : List DW} {y : DW} (h : y ∈ ordD l) : hasD l y.1 = true := by
  unfold hasD
  rw [List.any_eq_true]
  exact ⟨y, acc_sub h, by simp⟩
theorem getD_mem' {l : List DW} {m : Nat} (h : m < l.length) : l.getD m d0 ∈ l := by
  rw [List.getD_eq_getElem?_getD, List.getElem?_eq_getElem h]
  exact List.getElem_mem h
theorem outD_len {l : List DW} {i : Nat} (h : i < l.length) : (outD l i).length + 1 = l.length := by
  unfold outD
  rw [List.length_append, List.length_take, List.length_drop]
  omega
/-- The call's world: the line that came in at p, the result at q. -/
structure ExpW (u : Value) (w wr : World) (p q : Nat) (t : Int) (v vo : Value) (l : List DW) (dn : List Int) : Prop where
  p0 : wr.cell? ⟨p, 0, none⟩ = some v
  p1 : wr.cell? ⟨p, 1, none⟩ = some (nV t)
  q0 : wr.cell? ⟨q, 0, none⟩ = some (.slice none 0 0)
  q1 : wr.cell? ⟨q, 1, none⟩ = some (.int .i64 0)
  fp : ∀ j, wr.frozen? ⟨p, j, none⟩ = false
  fq : ∀ j, wr.frozen? ⟨q, j, none⟩ = false
  row : DR 0 wr v l
  out : Nums wr vo dn
  og : ∀ x, vo.ownBlock = some x → q < x
  ov : ∀ x, vo.ownBlock = some x → v.ownBlock ≠ some x
  vp : v.ownBlock ≠ some p ∧ v.ownBlock ≠ some q
  bel : Below w.heap.size w wr
  src : Src u v w.heap.size
theorem ExpW.keep {u : Value} {w wr wx : World} {p q : Nat} {t : Int} {v vo : Value} {l : List DW} {dn : List Int} (h : ExpW u w wr p q t v vo l dn) (hB : Below wr.heap.size wr wx) : ExpW u w wx p q t v vo l dn := by
  have hp := cell_lt h.p0
  have hq := cell_lt h.q0
  exact ⟨kept h.p0 hB, kept h.p1 hB, kept h.q0 hB, kept h.q1 hB, fun j => (hB.frozen (p := ⟨p, j, none⟩) hp).trans (h.fp j), fun j => (hB.frozen (p := ⟨q, j, none⟩) hq).trans (h.fq j), h.row.keep hB, h.out.keep hB, h.og, h.ov, h.vp, h.bel.trans (hB.mono h.bel.size), h.src⟩
/-- .. behind an append to what it lets go. -/
theorem ExpW.app {u : Value} {w wr wx : World} {p q g' n' c' : Nat} {t : Int} {v vo : Value} {l : List DW} {dn dn' : List Int} (h : ExpW u w wr p q t v vo l dn) (hpq : p < q) (hb : w.heap.size ≤ q) (hN : Nums wx (.slice (some ⟨g', 0, none⟩) n' c') dn') (hC : Chg (fun x => vo.ownBlock = some x) wr wx) (hO : vo.ownBlock = some g' ∨ wr.heap.size ≤ g') : ExpW u w wx p q t v (.slice (some ⟨g', 0, none⟩) n' c') l dn' := by
  have np : ¬ vo.ownBlock = some p := fun e => by have := h.og p e; omega
  have nq : ¬ vo.ownBlock = some q := fun e => by have := h.og q e; omega
  have hp := cell_lt h.p0
  have hq := cell_lt h.q0
  have hq' : q < wr.heap.size := hq
  refine ⟨hC.cell h.p0 np, hC.cell h.p1 np, hC.cell h.q0 nq, hC.cell h.q1 nq, fun j => (hC.frozen (a := ⟨p, j, none⟩) hp np).trans (h.fp j), fun j => (hC.frozen (a := ⟨q, j, none⟩) hq nq).trans (h.fq j), h.row.same fun x hx => hC.block x (h.row.lt hx) fun e => h.ov x e hx, hN, fun x e => ?_, fun x e hv => ?_, h.vp, h.bel.trans (hC.below (fun x e => by have := h.og x e; omega) h.bel.size), h.src⟩
  · have e : some g' = some x := e
    injection e with e
    subst e
    rcases hO with hO | hO
    · exact h.og _ hO
    · omega
  · have e : some g' = some x := e
    injection e with e
    subst e
    rcases hO with hO | hO
    · exact h.ov _ hO hv
    · have := h.row.lt hv; omega
/-- .. behind the store of what is left. -/
theorem ExpW.put {u : Value} {w wr wx : World} {p q : Nat} {t : Int} {v v' vo : Value} {l l' : List DW} {dn : List Int} (h : ExpW u w wr p q t v vo l dn) (hpq : p < q) (hb : w.heap.size ≤ p) (hB : Below wr.heap.size wr wx) (hD : DR wr.heap.size wx v' l') : ExpW u w (wx.setCell ⟨p, 0, none⟩ v') p q t v' vo l' dn := by
  have k := h.keep hB
  have hC : Chg (fun x => x = p) wx (wx.setCell ⟨p, 0, none⟩ v') := Chg.set (S := fun x => x = p) (a := ⟨p, 0, none⟩) (Chg.refl wx) rfl _
  have hp := cell_lt h.p0
  have hq := cell_lt h.q0
  have hp' : p < wr.heap.size := hp
  have hq' : q < wr.heap.size := hq
  have nq : ¬ q = p := by omega
  refine ⟨World.cell?_setCell_same _ _ _ k.p0, by rw [World.cell?_setCell_other _ _ _ _ (by intro e; simp only [Addr.mk.injEq] at e; omega)]; exact k.p1, hC.cell k.q0 nq, hC.cell k.q1 nq, fun j => by rw [World.frozen?_setCell]; exact k.fp j, fun j => by rw [World.frozen?_setCell]; exact k.fq j, (hD.same fun x hx => hC.block x (hD.lt hx) fun e => by have := hD.ge hx; omega).zero, k.out.chg hC fun x e => ?_, h.og, fun x e hv => ?_, ⟨fun e => ?_, fun e => ?_⟩, k.bel.trans (hC.below (fun x e => by omega) k.bel.size), fun x hx => .inr (by have := hD.ge hx; have := h.bel.size; omega)⟩
  · have := h.og x e; omega
  · have := hD.ge hv; have := h.out.lt e; omega
  · have := hD.ge e; omega
  · have := hD.ge e; omega
def ExpG (v : Value) (l : List DW) (now t : Int) (w : World) (e : Ending) (w' : World) : Prop :=
  if t < now ∨ 1099511627776 < t then ∃ v', e = .returned (.tuple #[.agg #[v', nV now], .slice none 0 0, .int .i64 144]) ∧ DR 0 w' v' l ∧ Below w.heap.size w w' ∧ Src v v' w.heap.size
  else ∃ v' d outs l', e = .returned (.tuple #[.agg #[v', nV t], d, .int .i64 0]) ∧ ExpS t l outs l' ∧ DR 0 w' v' l' ∧ Nums w' d outs ∧ Below w.heap.size w w' ∧ (∀ x, d.ownBlock = some x → w.heap.size ≤ x) ∧ Src v v' w.heap.size
def lenOf : Value → Nat
  | .slice _ n _ => n
  | _ => 0
set_option maxRecDepth 100000 in
set_option maxHeartbeats 8000000 in
theorem expd_any (v : Value) (now t : Int) (l : List DW) (w : World) (hA : DR 0 w v l) (hn : l.length ≤ 1000) :
    Calls Try.prog 24 #[.agg #[v, nV now], nV t] w fun e w' => ExpG v l now t w e w' := by
  have hA0 := hA
  obtain ⟨A, c, rfl, hlc, _, _⟩ := hA.len
  have HA := Lib.hid (fun W (hB : Below w.heap.size w W) => hA0.keep hB)
  have hlt : ∀ x, (Value.slice A l.length c).ownBlock = some x → x < w.heap.size := fun x hx => hA0.lt hx
  have HLT := Lib.hid hlt
  clear hA hA0 hlt
  go_enter Try.func24, Try.ntmps24
  by_cases h1 : t < now
  · have HX := Lib.hid (show ∀ W, Below w.heap.size w W → ExpG (.slice A l.length c) l now t w (.returned (.tuple #[.agg #[.slice A l.length c, nV now], .slice none 0 0, .int .i64 144])) W from fun W hB => by unfold ExpG; rw [if_pos (.inl h1)]; exact ⟨_, rfl, HA.out W hB, hB, fun x hx => .inl hx⟩)
    clear HA HLT
    go_wp2_with fail
    go_returns
    exact HX.out _ (((Below.refl _ _).alloc (Nat.le_refl _) _).alloc (by simp) _)
  by_cases h2 : 1099511627776 < t
  · have HX := Lib.hid (show ∀ W, Below w.heap.size w W → ExpG (.slice A l.length c) l now t w (.returned (.tuple #[.agg #[.slice A l.length c, nV now], .slice none 0 0, .int .i64 144])) W from fun W hB => by unfold ExpG; rw [if_pos (.inr h2)]; exact ⟨_, rfl, HA.out W hB, hB, fun x hx => .inl hx⟩)
    clear HA HLT
    go_wp2_with fail
    go_returns
    exact HX.out _ (((Below.refl _ _).alloc (Nat.le_refl _) _).alloc (by simp) _)
  have h3 : ¬ (t < now ∨ 1099511627776 < t) := by omega
  have HG3 := Lib.hid h3
  go_upto_block 0 with fail
  obtain ⟨p, hp⟩ : ∃ p, p = w.heap.size := ⟨_, rfl⟩
  obtain ⟨q, hq⟩ : ∃ q, q = w.heap.size + 1 := ⟨_, rfl⟩
  obtain ⟨wb, hwb⟩ : ∃ wb, wb = ((w.alloc (.cells #[.slice A l.length c, .int .i64 t] 27)).alloc (.cells #[.slice none 0 0, .int .i64 0] 27)) := ⟨_, rfl⟩
  have hbs : wb.heap.size = w.heap.size + 2 := by rw [hwb]; simp
  have hBb : Below w.heap.size w wb := by rw [hwb]; exact ((Below.refl _ _).alloc (Nat.le_refl _) _).alloc (by simp) _
  have hBc : Below wb.heap.size wb (wb.alloc (.cells #[] 3)) := (Below.refl _ _).alloc (Nat.le_refl _) _
  have hE0 : ExpW (.slice A l.length c) w (wb.alloc (.cells #[] 3)) p q t (.slice A l.length c) (.slice (some ⟨wb.heap.size, 0, none⟩) 0 0) l [] := by
    refine ⟨al_cell ?_, al_cell ?_, al_cell ?_, al_cell ?_, fun j => (frozen_old _ _ _ ?_).trans ?_, fun j => (frozen_old _ _ _ ?_).trans ?_, HA.out _ (hBb.trans (hBc.mono hBb.size)), World.ownsRow_lit (base := 0) (size := 1) (e := 3) wb #[] 0 (Nat.zero_le _) (by decide) rfl, fun x e => ?_, fun x e hv => ?_, ⟨fun e => ?_, fun e => ?_⟩, hBb.trans (hBc.mono hBb.size), fun x hx => .inl hx⟩
    · rw [hwb, hp]; exact al_cell (al_new _ _ _ 0 _ rfl rfl)
    · rw [hwb, hp]; exact al_cell (al_new _ _ _ 1 _ rfl rfl)
    · rw [hwb, hq]; exact al_new _ _ _ 0 _ (by simp) rfl
    · rw [hwb, hq]; exact al_new _ _ _ 1 _ (by simp) rfl
    · show p < _; omega
    · rw [hwb, hp, frozen_old _ _ _ (by simp)]; exact frozen_new _ _ _ _
    · show q < _; omega
    · rw [hwb, hq]; exact frozen_at _ _ _ _ _ (by simp)
    · have e : some wb.heap.size = some x := e
      injection e with e
      omega
    · have e : some wb.heap.size = some x := e
      injection e with e
      have := HLT.out x hv
      omega
    · have := HLT.out p e; omega
    · have := HLT.out q e; omega
  have hpq : p < q := by omega
  have hwp : w.heap.size ≤ p := by omega
  have hq2 : w.heap.size + 1 + 1 = wb.heap.size := by omega
  rw [← hwb, hq2, ← hq, ← hp]
  have HE0 := Lib.hid hE0
  clear hwb hbs hBb hBc hE0 HA HLT hq2 hp hq
  go_wp2_with fail
  go_loopw [7, 8, 9, 10] (fun dv _ _ _ wr => ∃ (vj : Value) (lj : List DW) (dn : List Int), Hid (ExpW (.slice A l.length c) w wr p q t vj dv lj dn) ∧ Hid (∀ outs l', ExpS t lj outs l' → ExpS t l (dn ++ outs) l') ∧ dn.length + lj.length = l.length) (fun dv _ _ _ _ => l.length + 1 - lenOf dv)
  case atStart => exact ⟨_, _, _, HE0, fun outs l' h => h, by simp⟩
  case round =>
    obtain ⟨vj, lj, dn, HW, HC, hlen⟩ := hrel
    obtain ⟨dv, hdv⟩ : ∃ dv, dv = u7 := ⟨_, rfl⟩
    subst hdv
    clear HE0
    have hW := HW.out
    have p0 := hW.p0
    obtain ⟨Aj, cj, rfl, hlcj, _, _⟩ := hW.row.len
    have hljn : lj.length ≤ 1000 := by omega
    have HO := Lib.hid (order_any' Aj cj lj wr hW.row.at hljn)
    clear hW
    go_wp2_with fail
    with_reducible refine HO.out.mono ?_
    rintro e wo ⟨vo, rfl, hD, hBo⟩
    obtain ⟨oA, oc, rfl, _⟩ := hD.len
    obtain ⟨n, hnn⟩ : ∃ n, n = (ordD lj).length := ⟨_, rfl⟩
    have hn64 : n ≤ 64000 := by have := accD_len lj 64; unfold ordD at hnn; omega
    rw [← hnn]
    have HD := Lib.hid hD.at
    have HDR := Lib.hid hD
    have HN := Lib.hid hnn
    have HBo := Lib.hid hBo
    clear hD hBo HO hnn p0
    go_upto_block 2 with fail
    go_cut [9, 10] (fun av _ wx => ∃ at' : Int, av = .int .i64 at' ∧ Hid (BestR (ordD lj) t n at') ∧ Hid (Below wo.heap.size wo wx))
    case first =>
      go_wp2_with fail
      go_loopw [9, 10] (fun av iv wx => ∃ (at' : Int) (k : Nat), av = .int .i64 at' ∧ iv = .int .i64 k ∧ k ≤ n ∧ Hid (BestR (ordD lj) t k at') ∧ Hid (Below wo.heap.size wo wx)) (fun _ iv _ => n - (intOf iv).toNat)
      case atStart => exact ⟨-1, 0, rfl, rfl, Nat.zero_le _, BestR.zero _ _, Below.refl _ _⟩
      case round =>
        obtain ⟨at', k, rfl, rfl, hkn, HR, HB⟩ := hrel
        have i0 : (0 : Int) ≤ (k : Int) := Int.natCast_nonneg _
        by_cases hk : k < n
        · have hk' : k < (ordD lj).length := by rw [← HN.out]; exact hk
          obtain ⟨b, o, rfl, _, _, c2⟩ := (HD.out.keep HB.out).get hk'
          obtain ⟨y, hy⟩ : ∃ y, y = ((ordD lj).getD k d0).2.2 := ⟨_, rfl⟩
          rw [← hy] at c2
          have i1 : (k : Int) < (n : Int) := by omega
          have HY := Lib.hid hy
          have j1 : IntKind.i64.wrap ((k : Int) + 1) = (k : Int) + 1 := by rw [IntKind.wrap_i64]; omega
          clear hy
          by_cases hy1 : y = -1
          · have HF : Hid (BestR (ordD lj) t (k + 1) at') := HR.out.skip (fun h => h.1 (by rw [← HY.out]; exact hy1))
            clear HR HY
            go_wp2_with fail
            go_quiet (fail)
            go_wp2_with fail
            go_roundw
            case rel => exact ⟨at', k + 1, rfl, by go_num, by omega, HF, below_two HB.out (below_dn _ _)⟩
            case measure => first | (simp [intOf]; done) | (simp [intOf]; omega)
          have e1 : (y != -1) = true := by simpa using hy1
          by_cases hy2 : y ≤ t
          · have hdue : dueD t ((ordD lj).getD k d0) := ⟨by rw [← HY.out]; exact hy1, by rw [← HY.out]; exact hy2⟩
            rcases HR.out.lt with rfl | ⟨m, rfl, hmk⟩
            · have HF : Hid (BestR (ordD lj) t (k + 1) k) := HR.out.first hdue
              clear HR HY hdue
              go_wp2_with fail
              go_quiet (fail)
              go_wp2_with fail
              go_roundw
              case rel => exact ⟨k, k + 1, rfl, by go_num, by omega, HF, below_two HB.out (below_dn _ _)⟩
              case measure => first | (simp [intOf]; done) | (simp [intOf]; omega)
            · obtain ⟨b', o', e', _, _, c3⟩ := (HD.out.keep HB.out).get (i := m) (by omega)
              injection e' with e'
              injection e' with e1 e2
              subst e1 e2
              obtain ⟨z, hz⟩ : ∃ z, z = ((ordD lj).getD m d0).2.2 := ⟨_, rfl⟩
              rw [← hz] at c3
              have m0 : (0 : Int) ≤ (m : Int) := Int.natCast_nonneg _
              have m1 : (m : Int) < (n : Int) := by omega
              have e3 : decide ((m : Int) < 0) = false := decide_eq_false (by omega)
              by_cases hyz : y < z
              · have e4 : decide (y < z) = true := decide_eq_true hyz
                have HF : Hid (BestR (ordD lj) t (k + 1) k) := HR.out.less hdue (by rw [← HY.out, ← hz]; exact hyz)
                clear HR HY hdue hz
                go_wp2_with fail
                go_quiet (fail)
                go_wp2_with fail
                go_roundw
                case rel => exact ⟨k, k + 1, rfl, by go_num, by omega, HF, below_two HB.out (below_dn _ _)⟩
                case measure => first | (simp [intOf]; done) | (simp [intOf]; omega)
              · have e4 : decide (y < z) = false := decide_eq_false hyz
                have HF : Hid (BestR (ordD lj) t (k + 1) m) := HR.out.more (by rw [← HY.out, ← hz]; exact hyz)
                clear HR HY hdue hz
                go_wp2_with fail
                go_quiet (fail)
                go_wp2_with fail
                go_roundw
                case rel => exact ⟨m, k + 1, rfl, by go_num, by omega, HF, below_two HB.out (below_dn _ _)⟩
                case measure => first | (simp [intOf]; done) | (simp [intOf]; omega)
          · have e2 : decide (y ≤ t) = false := decide_eq_false hy2
            have HF : Hid (BestR (ordD lj) t (k + 1) at') := HR.out.skip (fun h => hy2 (by rw [HY.out]; exact h.2))
            clear HR HY
            go_wp2_with fail
            go_quiet (fail)
            go_wp2_with fail
            go_roundw
            case rel => exact ⟨at', k + 1, rfl, by go_num, by omega, HF, below_two HB.out (below_dn _ _)⟩
            case measure => first | (simp [intOf]; done) | (simp [intOf]; omega)
        · obtain rfl : k = n := by omega
          have HX : Hid (∃ at'' : Int, (Value.int .i64 at' = .int .i64 at'') ∧ Hid (BestR (ordD lj) t k at'') ∧ Hid (Below wo.heap.size wo wr)) := ⟨at', rfl, HR, HB⟩
          clear HR HB
          go_wp2_with fail
          all_goals go_meet
          all_goals exact HX
    case rest =>
      obtain ⟨at', rfl, HR, HB⟩ := hcut
      have hBw : Below wr.heap.size wr wc := HBo.out.trans (HB.out.mono HBo.out.size)
      have HWc := Lib.hid (HW.out.keep hBw)
      rcases HR.out.lt with rfl | ⟨m, rfl, hm⟩
      · have hw := HWc.out
        obtain ⟨p0, p1, q0, q1, fp, fq, hrow, hout, hog, _, hvpq, hbel, hsrc⟩ := hw
        have HSRC := Lib.hid hsrc
        have HVQ := Lib.hid hvpq.2
        have HOQ := Lib.hid (show ¬ dv.ownBlock = some q from fun e => by have := hog q e; omega)
        have HF := Lib.hid (And.intro hrow (And.intro hout (And.intro (fun x hx => show w.heap.size ≤ x from by have := hog x hx; omega) hbel)))
        have hS : ExpS t l dn lj := by
          have := HC.out [] lj (.stop (by have := HR.out; rw [HN.out] at this; exact this))
          rw [List.append_nil] at this
          exact this
        have HS := Lib.hid hS
        clear fp hrow hout hog hvpq hbel hsrc hS HWc HW HC HR HB HBo HD HDR
        go_wp2_with fail
        obtain ⟨V2, hV2⟩ : ∃ V2 : Value, V2 = .slice Aj lj.length cj := ⟨_, rfl⟩
        rw [← hV2]
        rw [← hV2] at HF HVQ HSRC
        obtain ⟨W, hW⟩ : ∃ W, W = (wc.setCell ⟨q, 0, none⟩ V2).setCell ⟨q, 1, none⟩ (.int .i64 t) := ⟨_, rfl⟩
        have u3 : (wc.setCell ⟨q, 0, none⟩ V2).cell? ⟨q, 1, none⟩ = some (.int .i64 0) := by rw [World.cell?_setCell_other _ _ _ _ (by intro e; simp only [Addr.mk.injEq] at e; omega)]; exact q1
        have t0 : W.cell? ⟨q, 0, none⟩ = some V2 := by rw [hW, World.cell?_setCell_other _ _ _ _ (by intro e; simp only [Addr.mk.injEq] at e; omega)]; exact World.cell?_setCell_same _ _ _ q0
        have t1 : W.cell? ⟨q, 1, none⟩ = some (.int .i64 t) := by rw [hW]; exact World.cell?_setCell_same _ _ _ u3
        have hc : Chg (fun k => k = q) wc W := by rw [hW]; exact Chg.set (S := fun k => k = q) (a := ⟨q, 1, none⟩) (Chg.set (S := fun k => k = q) (a := ⟨q, 0, none⟩) (Chg.refl wc) rfl _) rfl _
        rw [← hW]
        clear hW p0 p1 q0 q1 fq u3
        refine bodyPost_ret (by simp [results, Try.results24, go_sem, t0, t1]; try rfl) rfl ?_
        obtain ⟨hrow, hout, hog, hbel⟩ := HF.out
        show ExpG (.slice A l.length c) l now t w _ W
        unfold ExpG
        rw [if_neg HG3.out]
        refine ⟨V2, dv, dn, lj, rfl, HS.out, hrow.same fun x hx => hc.block x (hrow.lt hx) fun e => ?_, hout.chg hc fun x hx e => ?_, hbel.trans (hc.below (fun k hk => by omega) hbel.size), hog, HSRC.out⟩
        · exact HVQ.out (by rw [← e]; exact hx)
        · exact HOQ.out (by rw [← e]; exact hx)
      · have hmo : m < (ordD lj).length := by rw [← HN.out]; exact hm
        obtain ⟨b, o, rfl, c0, _, _⟩ := (HD.out.keep HB.out).get hmo
        obtain ⟨id, hid⟩ : ∃ id, id = ((ordD lj).getD m d0).1 := ⟨_, rfl⟩
        rw [← hid] at c0
        have m0 : (0 : Int) ≤ (m : Int) := Int.natCast_nonneg _
        have m1 : (m : Int) < (n : Int) := by omega
        have hhas : hasD lj id = true := by rw [hid]; exact ord_has (getD_mem' hmo)
        have hlp : 0 < lj.length := by
          cases lj with
          | nil => simp [hasD] at hhas
          | cons a r => simp
        have HDW := Lib.hid (HDR.out.keep HB.out)
        have hdlt := fun x hx => HW.out.out.lt (x := x) hx
        have HDLT := Lib.hid hdlt
        have hdn : dn.length ≤ 100000 := by omega
        have HID := Lib.hid hid
        have HHAS := Lib.hid hhas
        have HOUT := Lib.hid HWc.out.out
        have HDL := Lib.hid (show ∃ x : Nat, lenOf dv = dn.length from by obtain ⟨_, _, e, _⟩ := HWc.out.out.len; exact ⟨0, by rw [e]; rfl⟩)
        clear hid hhas hdlt HW HB HBo HD HDR
        have e3 : decide ((m : Int) < 0) = false := decide_eq_false (by omega)
        clear m0 m1
        have m0 : (0 : Int) ≤ (m : Int) := Int.natCast_nonneg _
        have m1 : (m : Int) < (n : Int) := by omega
        go_upto_region 14 with fail
        clear e3
        go_upto_region 15 with (at_builtin; refine wpList_app (z := id) rfl _ _ rfl HOUT.out hdn rfl rfl ?_; intro g' cap' w2 hN2 hC2 hO2)
        have hE2 := HWc.out.app hpq (by omega) hN2 hC2 hO2
        have hDo2 := HDW.out.same (fun x hx => hC2.block x (HDW.out.lt hx) (fun e => by have := HDW.out.ge hx; have := HDLT.out x e; omega))
        obtain ⟨b', o', e', c1, _, _⟩ := hDo2.at.get hmo
        injection e' with e'
        injection e' with e1 e2
        subst e1 e2
        rw [← HID.out] at c1
        have p0 := hE2.p0
        have HE2 := Lib.hid hE2
        have HFI := Lib.hid (find_any Aj cj lj id w2.drew (hE2.row.at.keep (below_dn w2 1)) (by omega))
        have HWI := Lib.hid (fun i hi => without_any Aj cj lj i w2.drew (hE2.row.at.keep (below_dn w2 1)) hlcj hi (by omega))
        clear hN2 hC2 hO2 hDo2 hE2 HWc HDW HDLT HOUT c0
        have hfin : ∀ (i n2 : Nat) (A2 : Option Addr) (c2 : Nat) (w3 : World), i < lj.length → (lj.getD i d0).1 = id → Below w2.heap.size w2 w3 → DR w2.heap.size w3 (.slice A2 n2 c2) (outD lj i) → Hid (∃ (vj : Value) (lj : List DW) (dn' : List Int), Hid (ExpW (.slice A l.length c) w (w3.setCell ⟨p, 0, none⟩ (.slice A2 n2 c2)) p q t vj (.slice (some ⟨g', 0, none⟩) (dn.length + 1) cap') lj dn') ∧ Hid (∀ outs l', ExpS t lj outs l' → ExpS t l (dn' ++ outs) l') ∧ dn'.length + lj.length = l.length) := fun i n2 A2 c2 w3 hi hie hB2 hD2 => by
          refine ⟨_, outD lj i, dn ++ [id], HE2.out.put hpq hwp hB2 hD2, fun outs l' h => ?_, ?_⟩
          · rw [List.append_assoc]
            refine HC.out _ _ ?_
            rw [HID.out]
            exact .step (by have := HR.out; rw [HN.out] at this; exact this) hmo hi (by rw [hie, HID.out]) h
          · have := outD_len hi
            rw [List.length_append, List.length_singleton]
            omega
        have HFIN := Lib.hid hfin
        have HMS := Lib.hid (show l.length + 1 - (dn.length + 1) < l.length + 1 - dn.length by omega)
        obtain ⟨ndv, hdl⟩ := HDL.out
        clear hfin HC HR HID
        go_region_law ((first
            | (go_simp; (with_reducible refine HFI.out.mono ?_); (rintro e _ ⟨z, rfl, hz, rfl⟩); (obtain ⟨_, i, rfl, hi, hie⟩ := (fnd_del hz).resolve_right (fun c => by have := HHAS.out; rw [c.1] at this; cases this)))
            | (go_simp; (with_reducible refine (HWI.out _ hi).mono ?_); (rintro e w3 ⟨V2, rfl, hD2, hB2⟩); (obtain ⟨A2, c2, rfl, _⟩ := hD2.len); (have z0 := (HE2.out.keep ((below_dn w2 1).trans hB2)).p0); (have z4 := (HE2.out.keep ((below_dn w2 1).trans hB2)).fp))))
        all_goals have HX := HFIN.out i _ A2 c2 w3 hi hie ((below_dn w2 1).trans hB2) hD2
        all_goals clear hD2 hB2 z0 z4 hz hie
        all_goals go_wp2_with fail
        all_goals go_roundw
        all_goals first
          | exact HX.out
          | (rw [hdl]; exact HMS.out)
end Go.Proofs.Ytagfhlnedaagbaa
