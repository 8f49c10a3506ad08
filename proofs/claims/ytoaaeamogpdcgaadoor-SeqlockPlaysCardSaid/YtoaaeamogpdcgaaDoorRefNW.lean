/-
  The document's answer: a new writer walked.
-/
import Derived.Test.YtoaaeamogpdcgaaDoorRefN
import Derived.Test.YtoaaeamogpdcgaaDoorLast
import Derived.Deep.RegionHeld3
namespace Go.Proofs.YtoaaeamogpdcgaaDoor
open Go.RowKit

theorem info3' : (Tryd.prog.info? 3).map (fun i => (i.zero, i.size, i.bytes)) = some (some (.int .i64 0), 1, 8) := by kernel_rfl
theorem info4' : (Tryd.prog.info? 4).map (fun i => (i.zero, i.size, i.bytes)) = some (some (.bool false), 1, 1) := by kernel_rfl
theorem info22' : (Tryd.prog.info? 22).map (fun i => (i.zero, i.size, i.bytes)) = some (some (.int .u32 0), 1, 4) := by kernel_rfl
theorem dst_is {ys : Nat → Option Bool} {o : Oper} {X E : Prop} (d : Option Tmp) (_ : o.dst = d) (h : if Region.wanted o ys = true then X else E) : if Region.wanted o ys = true then X else E := h
theorem heap_drew_at {w : World} {H : Nat} {x : Option Obj} (h : w.heap[H]? = x) : w.drew.heap[H]? = x := h
theorem heap_past {w : World} {o : Obj} {H : Nat} {x : Obj} (h : w.heap[H]? = some x) : (w.alloc o).heap[H]? = some x := by
  rw [Below.heap_alloc w o H (by rcases Nat.lt_or_ge H w.heap.size with h' | h'
                                 · exact h'
                                 · rw [Array.getElem?_eq_none h'] at h; cases h)]
  exact h
theorem heap_grown {w w' : World} {row : Option Nat} {H : Nat} {x : Obj} (hg : w.grownBy w' row) (h : w.heap[H]? = some x) (hl : H < w.heap.size) (hn : some H ≠ row) : w'.heap[H]? = some x := by rw [hg.block H hl hn]; exact h
/-- The append of one, at a step. -/
theorem step_one {w : World} {ops : Array Oper} {o : Oper} {a : Act} {K : Act → World → Prop} {Q : Exit → Act → World → Prop} {E : Prop} (hgd : o.guard = none) (s x : Operand) (t e : TypeId) (z : Value) (by' : Nat)
    (ho : o.op = .call { callee := .builtin .append, args := #[s, x], argTypes := #[t, t] }) (ht : Tryd.prog.underlying t = some (.slice e)) (hinf : (Tryd.prog.info? e).map (fun i => (i.zero, i.size, i.bytes)) = some (some z, 1, by')) (hz : z.cells.size = 1)
    (base : Nat) (v : Value) (k : Nat) (xs : List Value) (hs : a.eval s = v) (hown : w.ownsRow base e 1 v k xs) (u : Value) (hu : u.oneCell' = true) (H : Nat) (hx : a.eval x = .slice (some ⟨H, 0, none⟩) 1 1) (hH : w.heap[H]? = some (.cells #[u] e (0, 0))) (hk : k ≤ 1000000 ∧ by' ≤ 8) (hb : base ≤ w.heap.size)
    (h : ∀ g c w', w'.ownsRow base e 1 (.slice (some ⟨g, 0, none⟩) (k + 1) c) (k + 1) (xs ++ [u]) → w.grownBy w' v.ownBlock → (v.ownBlock = some g ∨ g = w.heap.size) → g < w'.heap.size → K (a.put o.dst (.slice (some ⟨g, 0, none⟩) (k + 1) c)) w') :
    if Region.wanted o (yielded ops a.tmps) = true then Oper.wp Tryd.prog o a w K Q else E := by
  obtain ⟨i0, hi, hz0, hz1, hz2⟩ := info_parts hinf
  refine step_append_lies w hgd s x t ho base e i0 z 1 by' ht hi hz0 hz1 hz2 hz (by decide) v k xs hs hown ⟨H, 0, none⟩ 1 1 [u] hx rfl (World.news_of_block hH) (fun q hq => by simp at hq; subst hq; exact hu) (by decide) (by unfold maxLen; omega) ?_ hb w.heap.size rfl h
  have := Nat.mul_le_mul (show k + 1 ≤ 1000001 by omega) hk.2
  omega
theorem list_one {w : World} {ops : Array Oper} {rest : List Oper} {o : Oper} {a : Act} {Q : Exit → Act → World → Prop} (hgd : o.guard = none) (s x : Operand)
    (ho : o.op = .call { callee := .builtin .append, args := #[s, x], argTypes := #[38, 38] }) (base : Nat) (v : Value) (k : Nat) (xs : List Value) (hs : a.eval s = v) (hown : w.ownsRow base 4 1 v k xs) (u : Value) (hu : u.oneCell' = true) (H : Nat) (hx : a.eval x = .slice (some ⟨H, 0, none⟩) 1 1) (hH : w.heap[H]? = some (.cells #[u] 4 (0, 0))) (hk : k ≤ 1000000) (hb : base ≤ w.heap.size)
    (h : ∀ g c w', w'.ownsRow base 4 1 (.slice (some ⟨g, 0, none⟩) (k + 1) c) (k + 1) (xs ++ [u]) → w.grownBy w' v.ownBlock → (v.ownBlock = some g ∨ g = w.heap.size) → g < w'.heap.size → wpList Tryd.prog ops Q rest (a.put o.dst (.slice (some ⟨g, 0, none⟩) (k + 1) c)) w') : wpList Tryd.prog ops Q (o :: rest) a w := by
  obtain ⟨i0, hi, hz0, hz1, hz2⟩ := info_parts info4'
  exact wpList_append_lies w hgd s x 38 ho base 4 i0 (.bool false) 1 1 Tryd.underlying38 hi hz0 hz1 hz2 rfl (by decide) v k xs hs hown ⟨H, 0, none⟩ 1 1 [u] hx rfl (World.news_of_block hH) (fun q hq => by simp at hq; subst hq; exact hu) (by decide) (by unfold maxLen; omega) (by omega) hb w.heap.size rfl h
set_option maxHeartbeats 1000000 in
theorem dwords_any (x : Int) (w : World) : Calls Tryd.prog 14 #[.int .i64 x] w fun e w' => e = .returned (.bool (fitB x)) ∧ w = w' := by
  by_cases h1 : 1 ≤ x
  · by_cases h2 : x ≤ 32
    · rw [fitB_yes ⟨h1, h2⟩]
      go_enter Tryd.func14, Tryd.ntmps14
      go_wp2_with fail
      go_ret
      exact ⟨rfl, rfl⟩
    · rw [fitB_no (by omega)]
      go_enter Tryd.func14, Tryd.ntmps14
      go_wp2_with fail
      go_ret
      exact ⟨rfl, rfl⟩
  · rw [fitB_no (by omega)]
    go_enter Tryd.func14, Tryd.ntmps14
    go_wp2_with fail
    go_ret
    exact ⟨rfl, rfl⟩
theorem row_form {w : World} {base n : Nat} {e : TypeId} {v : Value} {xs : List Value} (h : w.ownsRow base e 1 v n xs) : ∃ A c, v = .slice A n c := by
  rcases h.2 with ⟨rfl, rfl⟩ | ⟨g, cap, cur, rfl, _⟩
  · exact ⟨none, 0, rfl⟩
  · exact ⟨_, _, rfl⟩
theorem Rows4.six {at' : Int} {n : Nat} {F : Nat → Ver} {w : World} {Ba ka kv kd ke H : Nat} {a v d e : Value} (h : Rows4 at' n F w Ba ka kv kd ke a v d e) (hH : H ≤ Ba) (u0 u1 u2 u3 u4 u5 : Value) :
    Rows4 at' n F ((((((w.setCell ⟨H, 0, none⟩ u0).setCell ⟨H, 1, none⟩ u1).setCell ⟨H, 2, none⟩ u2).setCell ⟨H, 3, none⟩ u3).setCell ⟨H, 4, none⟩ u4).setCell ⟨H, 5, none⟩ u5) Ba ka kv kd ke a v d e := by
  have one : ∀ {W : World} (j : Nat) (u : Value), Rows4 at' n F W Ba ka kv kd ke a v d e → Rows4 at' n F (W.setCell ⟨H, j, none⟩ u) Ba ka kv kd ke a v d e := fun {W} j u h => by
    have hb : ∀ x, Ba + 1 ≤ x → (W.setCell ⟨H, j, none⟩ u).heap[x]? = W.heap[x]? := fun x hx => Below.heap_setCell _ _ _ _ (by show x ≠ H; omega)
    exact ⟨ownsRow_blk h.ra fun _ hx => hb _ (own_blk_lt h.ra hx).1, ownsRow_blk h.rv fun _ hx => hb _ (own_blk_lt h.rv hx).1, ownsRow_blk h.rd fun _ hx => hb _ (own_blk_lt h.rd hx).1, ownsRow_blk h.re fun _ hx => hb _ (own_blk_lt h.re hx).1, h.av, h.ad, h.ae, h.vd, h.ve, h.de, by simpa using h.lt⟩
  exact one _ _ (one _ _ (one _ _ (one _ _ (one _ _ (one _ _ h)))))
def nilS : Value := .slice none 0 0
/-- What holds while the lists are made: K places of each. -/
structure Ns (w0 : World) (at' : Int) (n : Nat) (F : Nat → Ver) (K : Nat) (w : World) (a v d e : Value) : Prop where
  rows : Rows4 at' n F w (w0.heap.size + 1) K K K K a v d e
  cel : Cel w (w0.heap.size + 1) a v d e
  res : Cel w w0.heap.size nilS nilS nilS nilS
  bel : Below w0.heap.size w0 w
theorem ns_first (w0 w : World) (at' : Int) (n : Nat) (F : Nat → Ver) (h : w = (w0.alloc (.cells #[nilS, nilS, nilS, nilS, .int .i64 0, .bool false] 40)).alloc (.cells #[nilS, nilS, nilS, nilS, .int .i64 0, .bool false] 40)) : Ns w0 at' n F 0 w nilS nilS nilS nilS := by
  subst h
  have hap : Ap nilS nilS := fun x hx => by cases hx
  refine ⟨⟨World.ownsRow_nil _ _ _ _, World.ownsRow_nil _ _ _ _, World.ownsRow_nil _ _ _ _, World.ownsRow_nil _ _ _ _, hap, hap, hap, hap, hap, hap, by simp⟩, ⟨al_new _ _ _ 0 _ (by simp) rfl, al_new _ _ _ 1 _ (by simp) rfl, al_new _ _ _ 2 _ (by simp) rfl, al_new _ _ _ 3 _ (by simp) rfl, al_new _ _ _ 4 _ (by simp) rfl, al_new _ _ _ 5 _ (by simp) rfl, fun j => frozen_at _ _ _ j _ (by simp)⟩,
    ⟨al_cell (al_new _ _ _ 0 _ rfl rfl), al_cell (al_new _ _ _ 1 _ rfl rfl), al_cell (al_new _ _ _ 2 _ rfl rfl), al_cell (al_new _ _ _ 3 _ rfl rfl), al_cell (al_new _ _ _ 4 _ rfl rfl), al_cell (al_new _ _ _ 5 _ rfl rfl), fun j => by rw [frozen_old _ _ _ (by simp)]; exact frozen_at _ _ _ j _ rfl⟩, ((Below.refl _ _).alloc (Nat.le_refl _) _).alloc (by simp) _⟩
/-- What comes out. -/
def DnQ (at' : Int) (L : Nat) (F : Nat → Ver) (w : World) (e : Ending) (w' : World) : Prop :=
  Below w.heap.size w w' ∧
    (((∀ i, i < L → okV F i) ∧ ∃ a v d e', e = .returned (.tuple #[.agg #[a, v, d, e', .int .i64 0, .bool false], .int .i64 0]) ∧ Rows4 at' (F 0).n F w' (w.heap.size + 1) (L * ((F 0).n + 2)) (L * ((F 0).n + 2)) (L * ((F 0).n + 2)) (L * ((F 0).n + 2)) a v d e') ∨
     ((∃ i, i < L ∧ ¬ okV F i) ∧ e = .returned (.tuple #[.agg #[nilS, nilS, nilS, nilS, .int .i64 0, .bool false], .int .i64 100])))
/-- Behind the first two appends. -/
structure Ns2 (w0 : World) (at' : Int) (n : Nat) (F : Nat → Ver) (K : Nat) (w : World) (a v d e : Value) : Prop where
  rows : Rows4 at' n F w (w0.heap.size + 1) (K + 1) (K + 1) K K a v d e
  cel : Cel w (w0.heap.size + 1) a v d e
  res : Cel w w0.heap.size nilS nilS nilS nilS
  bel : Below w0.heap.size w0 w
theorem Ns2.drew {w0 w : World} {at' : Int} {n : Nat} {F : Nat → Ver} {K : Nat} {a v d e : Value} (h : Ns2 w0 at' n F K w a v d e) : Ns2 w0 at' n F K w.drew a v d e :=
  ⟨h.rows.keep ((Below.refl _ _).drew), h.cel.same rfl, h.res.same rfl, h.bel.drew⟩
theorem ns2_of {w0 w w' : World} {at' : Int} {n : Nat} {F : Nat → Ver} {K : Nat} {a v d e a' v' : Value} (h : Ns w0 at' n F K w a v d e) (hR : Rows4 at' n F w' (w0.heap.size + 1) (K + 1) (K + 1) K K a' v' d e) (hB : Below (w0.heap.size + 1 + 1) w w') :
    Ns2 w0 at' n F K ((w'.setCell ⟨w0.heap.size + 1, 0, none⟩ a').setCell ⟨w0.heap.size + 1, 1, none⟩ v') a' v' d e :=
  ⟨(hR.set 0 _).set 1 _, ((h.cel.same (hB.block _ (Nat.lt_succ_self _))).set0 _).set1 _, (h.res.same (hB.block _ (by omega))).same (by rw [Below.heap_setCell _ _ _ _ (by show w0.heap.size ≠ w0.heap.size + 1; omega), Below.heap_setCell _ _ _ _ (by show w0.heap.size ≠ w0.heap.size + 1; omega)]),
   ((h.bel.trans (hB.mono (by omega))).setCell (Nat.le_succ _) _).setCell (Nat.le_succ _) _⟩
set_option maxHeartbeats 16000000 in
set_option maxRecDepth 100000 in
theorem dnew_any (at' : Int) (A : Option Addr) (L ca : Nat) (F : Nat → Ver) (w : World) (hV : VersN w.heap.size w A L F) (hL : L ≤ 10) (ha : -1000 ≤ at' ∧ at' ≤ 1000) :
    Calls Tryd.prog 12 #[.int .i64 at', .slice A L ca] w fun e w' => DnQ at' L F w e w' := by
  have HV := Lib.hid hV
  have HW := Lib.hid (fun W x => Lib.hid (dwords_any x W))
  have HL := Lib.hid hL
  have hL2 : L ≤ 1000 := by omega
  have HAA := Lib.hid ha
  obtain ⟨n, hn⟩ : ∃ n, n = (F 0).n := ⟨_, rfl⟩
  have HN := Lib.hid hn
  clear hV hL ha hn
  go_enter Tryd.func12, Tryd.ntmps12
  go_wp2_with fail
  go_loopw [7] (fun i wr => ∃ (k : Nat) (a v d e : Value), k ≤ L ∧ i = .int .i64 k ∧ (∀ j, j < k → okV F j) ∧ Ns w at' n F (k * (n + 2)) wr a v d e) (fun i _ => L - (intOf i).toNat)
  case atStart => exact ⟨0, nilS, nilS, nilS, nilS, by omega, rfl, fun j hj => absurd hj (by omega), by rw [Nat.zero_mul]; exact ns_first w _ at' n F rfl⟩
  case round =>
    obtain ⟨k, a, v, d, e, hk, rfl, hok, hN⟩ := hrel
    have HNS := Lib.hid hN
    have HOK := Lib.hid hok
    clear hN hok
    by_cases hlt : k < L
    · obtain ⟨b, o, rfl⟩ := HV.out.head hlt
      have hVr := HV.out.keep HNS.out.bel
      have v0 := hVr.cell (i := 0) (by omega)
      rw [Nat.add_zero] at v0
      have v1 := hVr.cell hlt
      rw [← HN.out] at v0
      have hkl : (k : Int) < L := by omega
      have hLp : (0 : Int) < L := by omega
      go_wp2_with fail
      refine (HW.out _ _).out.mono ?_
      rintro e1 w1 ⟨rfl, rfl⟩
      by_cases hgood : okV F k
      · have h1 : fitB ((F k).n : Int) = true := fitB_yes (by have := hgood; unfold okV at this; omega)
        have h2 : (F k).n = n := by rw [HN.out]; exact hgood.2
        have h32 : 1 ≤ n ∧ n ≤ 32 := by rw [HN.out]; exact hgood.1
        rw [h1]
        rw [h2] at v1 ⊢
        have HGD := Lib.hid hgood
        have H32 := Lib.hid h32
        have hn32 : n ≤ 32 := h32.2
        have hver := hVr.ver hlt
        rw [h2] at hver
        obtain ⟨b2, o2, hp2⟩ := hver.head (i := 0) (by omega)
        rw [hp2] at v1 ⊢
        have HP2 := Lib.hid hp2
        have HNK := Lib.hid h2
        clear hp2
        have HVER := Lib.hid hver
        have hn1 : IntKind.i64.wrap ((n : Int) + 1) = (n : Int) + 1 := IntWalk.i64_in _ (by omega)
        clear hgood h1 h2 h32 hVr hver
        go_wp2_with fail
        go_loopw [9] (fun kk wr2 => ∃ (q : Nat) (a v d e : Value), q ≤ n + 2 ∧ kk = .int .i64 q ∧ Ns w at' n F (k * (n + 2) + q) wr2 a v d e) (fun kk _ => n + 2 - (intOf kk).toNat)
        case atStart => exact ⟨0, a, v, d, e, by omega, rfl, HNS.out⟩
        case round =>
          obtain ⟨q, a, v, d, e, hq, rfl, hN⟩ := hrel
          have HNS2 := Lib.hid hN
          clear hN
          by_cases hqn : q ≤ n + 1
          · have hqi : (q : Int) ≤ (n : Int) + 1 := by omega
            have hq0 : (0 : Int) ≤ q := by omega
            obtain ⟨K, hK⟩ : ∃ K, K = k * (n + 2) + q := ⟨_, rfl⟩
            have hdm := div_mod_at (n := n) (i := k) (k := q) (by omega)
            rw [← hK] at hdm HNS2
            have hKb : K ≤ 1000 := by
              have h1 := HL.out
              have h2 : k * (n + 2) ≤ 10 * 34 := Nat.mul_le_mul (by omega) (by omega)
              omega
            have HK : Hid (K ≤ 1000000 ∧ 8 ≤ 8) := Lib.hid ⟨by omega, by omega⟩
            have HK4 : Hid (K ≤ 1000000 ∧ 4 ≤ 8) := Lib.hid ⟨by omega, by omega⟩
            have HCL := Lib.hid HNS2.out.cel
            have HDM := Lib.hid hdm
            have HKK := Lib.hid hK
            clear hK hdm
            have m0 := HCL.out.c0
            have m1 := HCL.out.c1
            have f0 := HCL.out.fz 0
            have f1 := HCL.out.fz 1
            have hsz := HNS2.out.rows.lt
            by_cases hout : q = 0 ∨ q = n + 1
            · have HOUT : Hid (outS n K = true) := Lib.hid (by unfold outS; rw [HDM.out.1]; rcases hout with e1 | e1 <;> simp [e1])
              have HAT : Hid (atS at' n K = at') := Lib.hid (by unfold atS; rw [HOUT.out]; rfl)
              have HVS : Hid (vS n F K = 0) := Lib.hid (by unfold vS; rw [HOUT.out]; rfl)
              obtain ⟨z0, hz0⟩ : ∃ z0, z0 = ((q : Int) == 0) := ⟨_, rfl⟩
              obtain ⟨z1, hz1⟩ : ∃ z1, z1 = ((q : Int) == (n : Int) + 1) := ⟨_, rfl⟩
              have HES : Hid (eS n K = z1) := Lib.hid (by
                unfold eS; rw [HDM.out.1, hz1]
                by_cases e1 : q = n + 1
                · rw [e1]; simp
                · rw [beq_false_of_ne e1, beq_false_of_ne (by omega)])
              have hor : z0 = true ∨ (z0 = false ∧ z1 = true) := by
                rw [hz0, hz1]
                rcases hout with e1 | e1
                · left; rw [e1]; rfl
                · right; exact ⟨beq_false_of_ne (by omega), beq_iff_eq.2 (by omega)⟩
              replace hz1 := hz1.symm
              have HZ0 := Lib.hid hz0
              clear hz0 hout
              go_upto_region 11 with fail
              go_cut [10] (fun ov wx => ov = .bool true ∧ wr = wx)
              case first =>
                have hz0 := HZ0.out.symm
                rcases hor with hz | ⟨hz, hzz⟩
                · rw [hz] at hz0
                  clear hz1
                  go_wp2_with fail
                  go_meet
                  case rel => exact ⟨rfl, rfl⟩
                · rw [hz] at hz0
                  rw [hzz] at hz1
                  go_wp2_with fail
                  go_meet
                  case rel => exact ⟨rfl, rfl⟩
              case rest =>
                obtain ⟨rfl, rfl⟩ := hcut
                clear hor
                have HR : Hid (Rows4 at' n F wr (w.heap.size + 1) K K K K a v d e) := Lib.hid HNS2.out.rows
                have HB : Hid (Below (w.heap.size + 1 + 1) wr wr) := Lib.hid (Below.refl _ _)
                have HNO : Hid (∀ x, wr.heap.size ≤ x → some x ≠ a.ownBlock ∧ some x ≠ v.ownBlock) := Lib.hid fun x hx => ⟨fun e1 => by have := (own_blk_lt HNS2.out.rows.ra e1.symm).2; omega, fun e1 => by have := (own_blk_lt HNS2.out.rows.rv e1.symm).2; omega⟩
                go_wp2_with fail
                go_cut [10] (fun ov wx => ov = .bool true ∧ ∃ a' v', Ns2 w at' n F K wx a' v' d e)
                case first =>
                  refine region_upL (fun W => Below (w.heap.size + 1 + 1) wr W) (fun _ => True) (fun s => Nat.ble 10 s) (by kernel_rfl) ?_
                  obtain ⟨V0, hv⟩ : ∃ W, W = wr.drew := ⟨_, rfl⟩
                  rw [← hv]
                  have hb : Below (w.heap.size + 1 + 1) wr V0 := by rw [hv]; exact HB.out.drew
                  have HR_V0 : Hid (Rows4 at' n F V0 (w.heap.size + 1) K K K K a v d e) := Lib.hid (by rw [hv]; exact HR.out.keep ((Below.refl _ _).drew))
                  have HB_V0 := Lib.hid hb
                  have HD_V0 : Hid ((fun _ => True) V0) := Lib.hid (trivial)
                  clear hb hv
                  refine upL_take (fun _ => True) (i := 0) (v := ?_) rfl (by kernel_rfl) (by kernel_rfl) (by kernel_rfl) (by kernel_rfl) (.inr fun _ h => h) (fun _ _ _ h => h) (Or.inl ⟨by rfl, ?_⟩) HD_V0.out HD_V0.out (.inr HB_V0.out) ?_
                  rotate_left
                  · intro W0 hSw
                    try dsimp only at hSw

                    go_simp
                    try with_reducible rfl
                  try simp only [Act.put, List.setIfInBounds_toArray]
                  refine upL_take (fun W => Below (w.heap.size + 1 + 1) wr W) (i := 1) (v := ?_) rfl (by kernel_rfl) (by kernel_rfl) (by kernel_rfl) (by kernel_rfl) (.inl ⟨by kernel_rfl, fun _ h => h⟩) (fun _ _ _ h => h) (Or.inl ⟨by rfl, ?_⟩) HB_V0.out HD_V0.out (.inr HB_V0.out) ?_
                  rotate_left
                  · intro W0 hSw
                    try dsimp only at hSw
                    have kk := keptn HCL.out.c0 hSw (by dsimp only; omega)
                    go_simp
                    try with_reducible rfl
                  try simp only [Act.put]
                  refine upL_take (fun _ => True) (i := 2) (v := ?_) rfl (by kernel_rfl) (by kernel_rfl) (by kernel_rfl) (by kernel_rfl) (.inr fun _ h => h) (fun _ _ _ h => h) (Or.inl ⟨by rfl, ?_⟩) HD_V0.out HD_V0.out (.inr HB_V0.out) ?_
                  rotate_left
                  · intro W0 hSw
                    try dsimp only at hSw

                    go_simp
                    try with_reducible rfl
                  try simp only [Act.put]
                  refine upL_take (fun _ => True) (i := 5) (v := ?_) rfl (by kernel_rfl) (by kernel_rfl) (by kernel_rfl) (by kernel_rfl) (.inr fun _ h => h) (fun _ _ _ h => h) (Or.inl ⟨by rfl, ?_⟩) HD_V0.out HD_V0.out (.inr HB_V0.out) ?_
                  rotate_left
                  · intro W0 hSw
                    try dsimp only at hSw

                    go_simp
                    try with_reducible rfl
                  try simp only [Act.put]
                  refine upL_take (fun W => Below (w.heap.size + 1 + 1) wr W) (i := 6) (v := ?_) rfl (by kernel_rfl) (by kernel_rfl) (by kernel_rfl) (by kernel_rfl) (.inl ⟨by kernel_rfl, fun _ h => h⟩) (fun _ _ _ h => h) (Or.inl ⟨by rfl, ?_⟩) HB_V0.out HD_V0.out (.inr HB_V0.out) ?_
                  rotate_left
                  · intro W0 hSw
                    try dsimp only at hSw
                    have kk := keptn HCL.out.c1 hSw (by dsimp only; omega)
                    go_simp
                    try with_reducible rfl
                  try simp only [Act.put]
                  refine upL_ready (rs := [3, 7]) (by kernel_rfl) (by simp) ?_
                  refine EachL.cons rfl (fun K' hK => ?_) ?_
                  · go_simp
                    obtain ⟨V1, hv⟩ : ∃ W, W = V0.alloc (.cells #[(.int .i64 at')] 3) := ⟨_, rfl⟩
                    rw [← hv]
                    have hb : Below (w.heap.size + 1 + 1) wr V1 := by rw [hv]; exact HB_V0.out.alloc HR_V0.out.lt _
                    have HR_V1 := Lib.hid (HR_V0.out.keep (w' := V1) (by rw [hv]; exact (Below.refl _ _).alloc (Nat.le_refl _) _))
                    have HXA_V1 : Hid (V1.heap[V0.heap.size]? = some (.cells #[(.int .i64 at')] 3 (0, 0)) ∧ wr.heap.size ≤ V0.heap.size) := Lib.hid ⟨by rw [hv]; exact heap_alloc_new _ _, HB_V0.out.size⟩
                    have HD_V1 : Hid ((fun _ => True) V1) := Lib.hid (trivial)
                    refine hK.out _ _ HD_V1.out (.inr hb) ?_
                    have HB_V1 := Lib.hid hb
                    clear hb hv
                    clear HR_V0 HB_V0 HD_V0 hK K'
                    try simp only [Act.put, List.setIfInBounds_toArray, List.set_cons_succ]
                    refine upL_ready (rs := [4, 7]) (by kernel_rfl) (by simp) ?_
                    refine EachL.cons rfl (fun K' hK => ?_) ?_
                    · refine step_one rfl _ _ 36 3 (.int .i64 0) 8 rfl Tryd.underlying36 info3' rfl (w.heap.size + 1 + 1) _ _ _ rfl HR_V1.out.ra (.int .i64 at') rfl _ (by rfl) HXA_V1.out.1 HK.out HR_V1.out.lt ?_
                      intro gA cA V2 hown hgrow hat1 hlt1
                      have hb : Below (w.heap.size + 1 + 1) wr V2 := Below.grown HB_V1.out hgrow HR_V1.out.lt (fun q hq => (own_blk_lt HR_V1.out.ra hq).1)
                      have HR_V2 := Lib.hid (HR_V1.out.appA (by rw [HAT.out]; exact hown) hgrow hat1)
                      have HD_V2 : Hid ((fun _ => True) V2) := Lib.hid (trivial)
                      refine hK.out _ _ HD_V2.out (.inr hb) ?_
                      have HB_V2 := Lib.hid hb
                      clear hb hown hgrow hat1 hlt1
                      clear HR_V1 HB_V1 HD_V1 hK K' HXA_V1
                      try simp only [Act.put, List.setIfInBounds_toArray]
                      refine upL_take (fun _ => True) (i := 9) (v := ?_) rfl (by kernel_rfl) (by kernel_rfl) (by kernel_rfl) (by kernel_rfl) (.inr fun _ h => h) (fun _ _ _ h => h) (Or.inl ⟨by rfl, ?_⟩) HD_V2.out HD_V2.out (.inr HB_V2.out) ?_
                      rotate_left
                      · intro W0 hSw
                        try dsimp only at hSw

                        go_simp
                        try with_reducible rfl
                      try simp only [Act.put]
                      refine upL_ready (rs := [7]) (by kernel_rfl) (by simp) ?_
                      refine EachL.cons rfl (fun K' hK => ?_) ?_
                      · go_simp
                        obtain ⟨V3, hv⟩ : ∃ W, W = V2.alloc (.cells #[(.int .u32 0)] 22) := ⟨_, rfl⟩
                        rw [← hv]
                        have hb : Below (w.heap.size + 1 + 1) wr V3 := by rw [hv]; exact HB_V2.out.alloc HR_V2.out.lt _
                        have HR_V3 := Lib.hid (HR_V2.out.keep (w' := V3) (by rw [hv]; exact (Below.refl _ _).alloc (Nat.le_refl _) _))
                        have HXB_V3 : Hid (V3.heap[V2.heap.size]? = some (.cells #[(.int .u32 0)] 22 (0, 0)) ∧ wr.heap.size ≤ V2.heap.size) := Lib.hid ⟨by rw [hv]; exact heap_alloc_new _ _, HB_V2.out.size⟩
                        have HD_V3 : Hid ((fun _ => True) V3) := Lib.hid (trivial)
                        refine hK.out _ _ HD_V3.out (.inr hb) ?_
                        have HB_V3 := Lib.hid hb
                        clear hb hv
                        clear HR_V2 HB_V2 HD_V2 hK K'
                        try simp only [Act.put, List.setIfInBounds_toArray, List.set_cons_succ]
                        refine upL_ready (rs := [8]) (by kernel_rfl) (by simp) ?_
                        refine EachL.cons rfl (fun K' hK => ?_) ?_
                        · refine step_one rfl _ _ 37 22 (.int .u32 0) 4 rfl Tryd.underlying37 info22' rfl (w.heap.size + 1 + 1) _ _ _ rfl HR_V3.out.rv (.int .u32 0) rfl _ (by rfl) HXB_V3.out.1 HK4.out HR_V3.out.lt ?_
                          intro gB cB V4 hown hgrow hat1 hlt1
                          have hb : Below (w.heap.size + 1 + 1) wr V4 := Below.grown HB_V3.out hgrow HR_V3.out.lt (fun q hq => (own_blk_lt HR_V3.out.rv hq).1)
                          have HR_V4 := Lib.hid (HR_V3.out.appV (by rw [HVS.out]; exact hown) hgrow hat1)
                          have HD_V4 : Hid ((fun _ => True) V4) := Lib.hid (trivial)
                          refine hK.out _ _ HD_V4.out (.inr hb) ?_
                          have HB_V4 := Lib.hid hb
                          clear hb hown hgrow hat1 hlt1
                          clear HR_V3 HB_V3 HD_V3 hK K' HXB_V3
                          try simp only [Act.put, List.setIfInBounds_toArray]
                          have m0 := keptn HCL.out.c0 HB_V4.out (by dsimp only; omega)
                          have m1 := keptn HCL.out.c1 HB_V4.out (by dsimp only; omega)
                          have f0 : V4.frozen? ⟨w.heap.size + 1, 0, none⟩ = false := by rw [HB_V4.out.frozen (p := ⟨w.heap.size + 1, 0, none⟩) (by dsimp only; omega)]; exact HCL.out.fz 0
                          have f1 : V4.frozen? ⟨w.heap.size + 1, 1, none⟩ = false := by rw [HB_V4.out.frozen (p := ⟨w.heap.size + 1, 1, none⟩) (by dsimp only; omega)]; exact HCL.out.fz 1
                          refine upL_ready (rs := [10]) (by kernel_rfl) (by simp) ?_
                          refine EachL.cons rfl (fun K' hK => ?_) EachL.nil
                          go_simp
                          refine hK.out _ _ ?hD (.inl (by kernel_rfl)) ?_
                          case hD => exact trivial
                          clear hK K'
                          try simp only [Act.put, List.setIfInBounds_toArray, List.set_cons_succ]
                          refine upL_take (fun _ => True) (i := 11) (v := ?_) rfl (by kernel_rfl) (by kernel_rfl) (by kernel_rfl) (by kernel_rfl) (.inr fun _ h => h) (fun _ _ _ h => h) (Or.inl ⟨by rfl, ?_⟩) (by exact trivial) (by exact trivial) (.inl (by kernel_rfl)) ?_
                          rotate_left
                          · intro W0 hSw
                            try dsimp only at hSw

                            go_simp
                            try with_reducible rfl
                          try simp only [Act.put, List.setIfInBounds_toArray]
                          refine upL_ready (rs := [12]) (by kernel_rfl) (by simp) ?_
                          refine EachL.cons rfl (fun K' hK => ?_) EachL.nil
                          go_simp
                          refine hK.out _ _ ?hD (.inl (by kernel_rfl)) ?_
                          case hD => exact trivial
                          clear hK K'
                          try simp only [Act.put, List.setIfInBounds_toArray, List.set_cons_succ]
                          refine upL_done (by kernel_rfl) ?_ _
                          go_wp2_with fail
                          go_meet
                          case rel => exact ⟨rfl, _, _, ns2_of HNS2.out HR_V4.out HB_V4.out⟩
                        exact EachL.nil
                      exact EachL.nil
                    refine EachL.cons rfl (fun K' hK => ?_) ?_
                    · go_simp
                      obtain ⟨V5, hv⟩ : ∃ W, W = V1.alloc (.cells #[(.int .u32 0)] 22) := ⟨_, rfl⟩
                      rw [← hv]
                      have hb : Below (w.heap.size + 1 + 1) wr V5 := by rw [hv]; exact HB_V1.out.alloc HR_V1.out.lt _
                      have HR_V5 := Lib.hid (HR_V1.out.keep (w' := V5) (by rw [hv]; exact (Below.refl _ _).alloc (Nat.le_refl _) _))
                      have HXB_V5 : Hid (V5.heap[V1.heap.size]? = some (.cells #[(.int .u32 0)] 22 (0, 0)) ∧ wr.heap.size ≤ V1.heap.size) := Lib.hid ⟨by rw [hv]; exact heap_alloc_new _ _, HB_V1.out.size⟩
                      have HXA_V5 : Hid (V5.heap[V0.heap.size]? = some (.cells #[(.int .i64 at')] 3 (0, 0)) ∧ wr.heap.size ≤ V0.heap.size) := Lib.hid ⟨by rw [hv]; exact heap_past HXA_V1.out.1, HXA_V1.out.2⟩
                      have HD_V5 : Hid ((fun _ => True) V5) := Lib.hid (trivial)
                      refine hK.out _ _ HD_V5.out (.inr hb) ?_
                      have HB_V5 := Lib.hid hb
                      clear hb hv
                      clear HR_V1 HB_V1 HD_V1 hK K' HXA_V1
                      try simp only [Act.put, List.setIfInBounds_toArray, List.set_cons_succ]
                      refine upL_ready (rs := [4]) (by kernel_rfl) (by simp) ?_
                      refine EachL.cons rfl (fun K' hK => ?_) ?_
                      · refine step_one rfl _ _ 36 3 (.int .i64 0) 8 rfl Tryd.underlying36 info3' rfl (w.heap.size + 1 + 1) _ _ _ rfl HR_V5.out.ra (.int .i64 at') rfl _ (by rfl) HXA_V5.out.1 HK.out HR_V5.out.lt ?_
                        intro gA cA V6 hown hgrow hat1 hlt1
                        have hb : Below (w.heap.size + 1 + 1) wr V6 := Below.grown HB_V5.out hgrow HR_V5.out.lt (fun q hq => (own_blk_lt HR_V5.out.ra hq).1)
                        have HR_V6 := Lib.hid (HR_V5.out.appA (by rw [HAT.out]; exact hown) hgrow hat1)
                        have HXB_V6 : Hid (V6.heap[V1.heap.size]? = some (.cells #[(.int .u32 0)] 22 (0, 0)) ∧ wr.heap.size ≤ V1.heap.size) := Lib.hid ⟨heap_grown hgrow HXB_V5.out.1 (heap_lt HXB_V5.out.1) (HNO.out _ HXB_V5.out.2).1, HXB_V5.out.2⟩
                        have HD_V6 : Hid ((fun _ => True) V6) := Lib.hid (trivial)
                        refine hK.out _ _ HD_V6.out (.inr hb) ?_
                        have HB_V6 := Lib.hid hb
                        clear hb hown hgrow hat1 hlt1
                        clear HR_V5 HB_V5 HD_V5 hK K' HXA_V5 HXB_V5
                        try simp only [Act.put, List.setIfInBounds_toArray]
                        refine upL_take (fun _ => True) (i := 9) (v := ?_) rfl (by kernel_rfl) (by kernel_rfl) (by kernel_rfl) (by kernel_rfl) (.inr fun _ h => h) (fun _ _ _ h => h) (Or.inl ⟨by rfl, ?_⟩) HD_V6.out HD_V6.out (.inr HB_V6.out) ?_
                        rotate_left
                        · intro W0 hSw
                          try dsimp only at hSw

                          go_simp
                          try with_reducible rfl
                        try simp only [Act.put]
                        refine upL_ready (rs := [8]) (by kernel_rfl) (by simp) ?_
                        refine EachL.cons rfl (fun K' hK => ?_) ?_
                        · refine step_one rfl _ _ 37 22 (.int .u32 0) 4 rfl Tryd.underlying37 info22' rfl (w.heap.size + 1 + 1) _ _ _ rfl HR_V6.out.rv (.int .u32 0) rfl _ (by rfl) HXB_V6.out.1 HK4.out HR_V6.out.lt ?_
                          intro gB cB V7 hown hgrow hat1 hlt1
                          have hb : Below (w.heap.size + 1 + 1) wr V7 := Below.grown HB_V6.out hgrow HR_V6.out.lt (fun q hq => (own_blk_lt HR_V6.out.rv hq).1)
                          have HR_V7 := Lib.hid (HR_V6.out.appV (by rw [HVS.out]; exact hown) hgrow hat1)
                          have HD_V7 : Hid ((fun _ => True) V7) := Lib.hid (trivial)
                          refine hK.out _ _ HD_V7.out (.inr hb) ?_
                          have HB_V7 := Lib.hid hb
                          clear hb hown hgrow hat1 hlt1
                          clear HR_V6 HB_V6 HD_V6 hK K' HXB_V6
                          try simp only [Act.put]
                          have m0 := keptn HCL.out.c0 HB_V7.out (by dsimp only; omega)
                          have m1 := keptn HCL.out.c1 HB_V7.out (by dsimp only; omega)
                          have f0 : V7.frozen? ⟨w.heap.size + 1, 0, none⟩ = false := by rw [HB_V7.out.frozen (p := ⟨w.heap.size + 1, 0, none⟩) (by dsimp only; omega)]; exact HCL.out.fz 0
                          have f1 : V7.frozen? ⟨w.heap.size + 1, 1, none⟩ = false := by rw [HB_V7.out.frozen (p := ⟨w.heap.size + 1, 1, none⟩) (by dsimp only; omega)]; exact HCL.out.fz 1
                          refine upL_ready (rs := [10]) (by kernel_rfl) (by simp) ?_
                          refine EachL.cons rfl (fun K' hK => ?_) EachL.nil
                          go_simp
                          refine hK.out _ _ ?hD (.inl (by kernel_rfl)) ?_
                          case hD => exact trivial
                          clear hK K'
                          try simp only [Act.put, List.setIfInBounds_toArray, List.set_cons_succ]
                          refine upL_take (fun _ => True) (i := 11) (v := ?_) rfl (by kernel_rfl) (by kernel_rfl) (by kernel_rfl) (by kernel_rfl) (.inr fun _ h => h) (fun _ _ _ h => h) (Or.inl ⟨by rfl, ?_⟩) (by exact trivial) (by exact trivial) (.inl (by kernel_rfl)) ?_
                          rotate_left
                          · intro W0 hSw
                            try dsimp only at hSw

                            go_simp
                            try with_reducible rfl
                          try simp only [Act.put, List.setIfInBounds_toArray]
                          refine upL_ready (rs := [12]) (by kernel_rfl) (by simp) ?_
                          refine EachL.cons rfl (fun K' hK => ?_) EachL.nil
                          go_simp
                          refine hK.out _ _ ?hD (.inl (by kernel_rfl)) ?_
                          case hD => exact trivial
                          clear hK K'
                          try simp only [Act.put, List.setIfInBounds_toArray, List.set_cons_succ]
                          refine upL_done (by kernel_rfl) ?_ _
                          go_wp2_with fail
                          go_meet
                          case rel => exact ⟨rfl, _, _, ns2_of HNS2.out HR_V7.out HB_V7.out⟩
                        exact EachL.nil
                      exact EachL.nil
                    exact EachL.nil
                  refine EachL.cons rfl (fun K' hK => ?_) ?_
                  · go_simp
                    obtain ⟨V8, hv⟩ : ∃ W, W = V0.alloc (.cells #[(.int .u32 0)] 22) := ⟨_, rfl⟩
                    rw [← hv]
                    have hb : Below (w.heap.size + 1 + 1) wr V8 := by rw [hv]; exact HB_V0.out.alloc HR_V0.out.lt _
                    have HR_V8 := Lib.hid (HR_V0.out.keep (w' := V8) (by rw [hv]; exact (Below.refl _ _).alloc (Nat.le_refl _) _))
                    have HXB_V8 : Hid (V8.heap[V0.heap.size]? = some (.cells #[(.int .u32 0)] 22 (0, 0)) ∧ wr.heap.size ≤ V0.heap.size) := Lib.hid ⟨by rw [hv]; exact heap_alloc_new _ _, HB_V0.out.size⟩
                    have HD_V8 : Hid ((fun _ => True) V8) := Lib.hid (trivial)
                    refine hK.out _ _ HD_V8.out (.inr hb) ?_
                    have HB_V8 := Lib.hid hb
                    clear hb hv
                    clear HR_V0 HB_V0 HD_V0 hK K'
                    try simp only [Act.put, List.setIfInBounds_toArray, List.set_cons_succ]
                    refine upL_ready (rs := [3]) (by kernel_rfl) (by simp) ?_
                    refine EachL.cons rfl (fun K' hK => ?_) ?_
                    · go_simp
                      obtain ⟨V9, hv⟩ : ∃ W, W = V8.alloc (.cells #[(.int .i64 at')] 3) := ⟨_, rfl⟩
                      rw [← hv]
                      have hb : Below (w.heap.size + 1 + 1) wr V9 := by rw [hv]; exact HB_V8.out.alloc HR_V8.out.lt _
                      have HR_V9 := Lib.hid (HR_V8.out.keep (w' := V9) (by rw [hv]; exact (Below.refl _ _).alloc (Nat.le_refl _) _))
                      have HXA_V9 : Hid (V9.heap[V8.heap.size]? = some (.cells #[(.int .i64 at')] 3 (0, 0)) ∧ wr.heap.size ≤ V8.heap.size) := Lib.hid ⟨by rw [hv]; exact heap_alloc_new _ _, HB_V8.out.size⟩
                      have HXB_V9 : Hid (V9.heap[V0.heap.size]? = some (.cells #[(.int .u32 0)] 22 (0, 0)) ∧ wr.heap.size ≤ V0.heap.size) := Lib.hid ⟨by rw [hv]; exact heap_past HXB_V8.out.1, HXB_V8.out.2⟩
                      have HD_V9 : Hid ((fun _ => True) V9) := Lib.hid (trivial)
                      refine hK.out _ _ HD_V9.out (.inr hb) ?_
                      have HB_V9 := Lib.hid hb
                      clear hb hv
                      clear HR_V8 HB_V8 HD_V8 hK K' HXB_V8
                      try simp only [Act.put, List.setIfInBounds_toArray, List.set_cons_succ]
                      refine upL_ready (rs := [4]) (by kernel_rfl) (by simp) ?_
                      refine EachL.cons rfl (fun K' hK => ?_) ?_
                      · refine step_one rfl _ _ 36 3 (.int .i64 0) 8 rfl Tryd.underlying36 info3' rfl (w.heap.size + 1 + 1) _ _ _ rfl HR_V9.out.ra (.int .i64 at') rfl _ (by rfl) HXA_V9.out.1 HK.out HR_V9.out.lt ?_
                        intro gA cA V10 hown hgrow hat1 hlt1
                        have hb : Below (w.heap.size + 1 + 1) wr V10 := Below.grown HB_V9.out hgrow HR_V9.out.lt (fun q hq => (own_blk_lt HR_V9.out.ra hq).1)
                        have HR_V10 := Lib.hid (HR_V9.out.appA (by rw [HAT.out]; exact hown) hgrow hat1)
                        have HXB_V10 : Hid (V10.heap[V0.heap.size]? = some (.cells #[(.int .u32 0)] 22 (0, 0)) ∧ wr.heap.size ≤ V0.heap.size) := Lib.hid ⟨heap_grown hgrow HXB_V9.out.1 (heap_lt HXB_V9.out.1) (HNO.out _ HXB_V9.out.2).1, HXB_V9.out.2⟩
                        have HD_V10 : Hid ((fun _ => True) V10) := Lib.hid (trivial)
                        refine hK.out _ _ HD_V10.out (.inr hb) ?_
                        have HB_V10 := Lib.hid hb
                        clear hb hown hgrow hat1 hlt1
                        clear HR_V9 HB_V9 HD_V9 hK K' HXA_V9 HXB_V9
                        try simp only [Act.put, List.setIfInBounds_toArray]
                        refine upL_take (fun _ => True) (i := 9) (v := ?_) rfl (by kernel_rfl) (by kernel_rfl) (by kernel_rfl) (by kernel_rfl) (.inr fun _ h => h) (fun _ _ _ h => h) (Or.inl ⟨by rfl, ?_⟩) HD_V10.out HD_V10.out (.inr HB_V10.out) ?_
                        rotate_left
                        · intro W0 hSw
                          try dsimp only at hSw

                          go_simp
                          try with_reducible rfl
                        try simp only [Act.put]
                        refine upL_ready (rs := [8]) (by kernel_rfl) (by simp) ?_
                        refine EachL.cons rfl (fun K' hK => ?_) ?_
                        · refine step_one rfl _ _ 37 22 (.int .u32 0) 4 rfl Tryd.underlying37 info22' rfl (w.heap.size + 1 + 1) _ _ _ rfl HR_V10.out.rv (.int .u32 0) rfl _ (by rfl) HXB_V10.out.1 HK4.out HR_V10.out.lt ?_
                          intro gB cB V11 hown hgrow hat1 hlt1
                          have hb : Below (w.heap.size + 1 + 1) wr V11 := Below.grown HB_V10.out hgrow HR_V10.out.lt (fun q hq => (own_blk_lt HR_V10.out.rv hq).1)
                          have HR_V11 := Lib.hid (HR_V10.out.appV (by rw [HVS.out]; exact hown) hgrow hat1)
                          have HD_V11 : Hid ((fun _ => True) V11) := Lib.hid (trivial)
                          refine hK.out _ _ HD_V11.out (.inr hb) ?_
                          have HB_V11 := Lib.hid hb
                          clear hb hown hgrow hat1 hlt1
                          clear HR_V10 HB_V10 HD_V10 hK K' HXB_V10
                          try simp only [Act.put]
                          have m0 := keptn HCL.out.c0 HB_V11.out (by dsimp only; omega)
                          have m1 := keptn HCL.out.c1 HB_V11.out (by dsimp only; omega)
                          have f0 : V11.frozen? ⟨w.heap.size + 1, 0, none⟩ = false := by rw [HB_V11.out.frozen (p := ⟨w.heap.size + 1, 0, none⟩) (by dsimp only; omega)]; exact HCL.out.fz 0
                          have f1 : V11.frozen? ⟨w.heap.size + 1, 1, none⟩ = false := by rw [HB_V11.out.frozen (p := ⟨w.heap.size + 1, 1, none⟩) (by dsimp only; omega)]; exact HCL.out.fz 1
                          refine upL_ready (rs := [10]) (by kernel_rfl) (by simp) ?_
                          refine EachL.cons rfl (fun K' hK => ?_) EachL.nil
                          go_simp
                          refine hK.out _ _ ?hD (.inl (by kernel_rfl)) ?_
                          case hD => exact trivial
                          clear hK K'
                          try simp only [Act.put, List.setIfInBounds_toArray, List.set_cons_succ]
                          refine upL_take (fun _ => True) (i := 11) (v := ?_) rfl (by kernel_rfl) (by kernel_rfl) (by kernel_rfl) (by kernel_rfl) (.inr fun _ h => h) (fun _ _ _ h => h) (Or.inl ⟨by rfl, ?_⟩) (by exact trivial) (by exact trivial) (.inl (by kernel_rfl)) ?_
                          rotate_left
                          · intro W0 hSw
                            try dsimp only at hSw

                            go_simp
                            try with_reducible rfl
                          try simp only [Act.put, List.setIfInBounds_toArray]
                          refine upL_ready (rs := [12]) (by kernel_rfl) (by simp) ?_
                          refine EachL.cons rfl (fun K' hK => ?_) EachL.nil
                          go_simp
                          refine hK.out _ _ ?hD (.inl (by kernel_rfl)) ?_
                          case hD => exact trivial
                          clear hK K'
                          try simp only [Act.put, List.setIfInBounds_toArray, List.set_cons_succ]
                          refine upL_done (by kernel_rfl) ?_ _
                          go_wp2_with fail
                          go_meet
                          case rel => exact ⟨rfl, _, _, ns2_of HNS2.out HR_V11.out HB_V11.out⟩
                        exact EachL.nil
                      exact EachL.nil
                    exact EachL.nil
                  exact EachL.nil
                case rest =>
                  obtain ⟨rfl, a', v', h3⟩ := hcut
                  have HN3 := Lib.hid h3
                  have c2 := h3.cel.c2
                  have c3 := h3.cel.c3
                  have f2 := h3.cel.fz 2
                  have f3 := h3.cel.fz 3
                  have c2a := fun o => al_cell (o := o) c2
                  have hsz3 := h3.rows.lt
                  clear h3 m0 m1 f0 f1
                  go_wp2_with (at_builtin; refine list_one rfl _ _ rfl (w.heap.size + 1 + 1) d K _ rfl ((HN3.out.rows.keep ((Below.refl _ _).alloc (Nat.le_refl _) _)).rd) (.bool true) rfl wc.heap.size (by rfl) (heap_alloc_new _ _) (by omega) (by simp; omega) ?_)
                  intro g3 cap3 w3 hown3 hgrow3 hat3 _
                  have hR3 := (HN3.out.rows.keep ((Below.refl _ _).alloc (Nat.le_refl _) _)).appD (by rw [HOUT.out]; exact hown3) hgrow3 (by simpa using hat3)
                  have hB3 : Below (w.heap.size + 1 + 1) wc w3 := Below.grown ((Below.refl _ _).alloc hsz3 _) hgrow3 (by simp; omega) (fun q hq => (own_blk_lt HN3.out.rows.rd hq).1)
                  have HR3 := Lib.hid hR3
                  have HB3 := Lib.hid hB3
                  have HC3 := Lib.hid (HN3.out.cel.same (hB3.block _ (Nat.lt_succ_self _)))
                  have hsz4 := hR3.lt
                  clear hown3 hgrow3 hat3 hR3 hB3 c2 c3 f2 f3 c2a hsz3
                  have c2 := HC3.out.c2
                  have c3 := HC3.out.c3
                  have f2 := HC3.out.fz 2
                  have f3 := HC3.out.fz 3
                  go_wp2_with (at_builtin; refine list_one rfl _ _ rfl (w.heap.size + 1 + 1) e K _ rfl (((HR3.out.set 2 (.slice (some ⟨g3, 0, none⟩) (K + 1) cap3)).keep ((Below.refl _ _).alloc (Nat.le_refl _) (.cells #[.bool z1] 4))).re) (.bool z1) rfl w3.heap.size (by rfl) (heap_alloc_at _ _ _ (by simp)) (by omega) (by simp; omega) ?_)
                  intro g4 cap4 w4 hown4 hgrow4 hat4 _
                  have hB4 : Below (w.heap.size + 1 + 1) (w3.setCell ⟨w.heap.size + 1, 2, none⟩ (.slice (some ⟨g3, 0, none⟩) (K + 1) cap3)) w4 := Below.grown ((Below.refl _ _).alloc (by simp; omega) _) hgrow4 (by simp; omega) (fun q hq => (own_blk_lt HR3.out.re hq).1)
                  have hR4 := ((HR3.out.set 2 _).keep ((Below.refl _ _).alloc (Nat.le_refl _) _)).appE (by rw [HES.out]; exact hown4) hgrow4 (by simpa using hat4)
                  have HR4 := Lib.hid hR4
                  have HC4 := Lib.hid ((HC3.out.set2 (.slice (some ⟨g3, 0, none⟩) (K + 1) cap3)).same (hB4.block _ (Nat.lt_succ_self _)))
                  have HS4 : Hid (Cel w4 w.heap.size nilS nilS nilS nilS ∧ Below w.heap.size w w4) := Lib.hid ⟨((HN3.out.res.same (HB3.out.block _ (by omega))).same (Below.heap_setCell _ _ _ _ (by show w.heap.size ≠ w.heap.size + 1; omega))).same (hB4.block _ (by omega)), ((HN3.out.bel.trans (HB3.out.mono (by omega))).setCell (Nat.le_succ _) _).trans (hB4.mono (by omega))⟩
                  clear hown4 hgrow4 hat4 hR4 hB4 c2 c3 f2 f3
                  have c3 := HC4.out.c3
                  have f3 := HC4.out.fz 3
                  go_wp2_with fail
                  go_roundw
                  case rel => exact ⟨q + 1, _, _, _, _, by omega, by go_num, by rw [← Nat.add_assoc, ← HKK.out]; exact ⟨HR4.out.set 3 _, HC4.out.set3 _, HS4.out.1.same (Below.heap_setCell _ _ _ _ (by show w.heap.size ≠ w.heap.size + 1; omega)), HS4.out.2.setCell (Nat.le_succ _) _⟩⟩
                  case measure => simp [intOf]; omega
            · have HOUT : Hid (outS n K = false) := Lib.hid (by unfold outS; rw [HDM.out.1, beq_false_of_ne (by omega), beq_false_of_ne (by omega)]; rfl)
              obtain ⟨j, hj⟩ : ∃ j, q = j + 1 := ⟨q - 1, by omega⟩
              have hjn : j < n := by omega
              obtain ⟨y, hy⟩ : ∃ y, y = (F k).v j := ⟨_, rfl⟩
              obtain ⟨x, hx⟩ : ∃ x, x = at' + (q : Int) := ⟨_, rfl⟩
              have HAT : Hid (atS at' n K = x) := Lib.hid (by unfold atS; rw [HOUT.out, HDM.out.1, hx]; rfl)
              have HVS : Hid (vS n F K = y) := Lib.hid (by unfold vS; rw [HOUT.out, HDM.out.1, HDM.out.2, hy, hj]; rfl)
              have HES : Hid (eS n K = false) := Lib.hid (by unfold eS; rw [HDM.out.1, beq_false_of_ne (by omega)])
              have hz0 : ((q : Int) == 0) = false := beq_false_of_ne (by omega)
              have hz1 : ((q : Int) == (n : Int) + 1) = false := beq_false_of_ne (by omega)
              have hxw : IntKind.i64.wrap (at' + (q : Int)) = x := by rw [hx]; exact IntWalk.i64_in _ (by have := HAA.out; omega)
              have hjw : IntKind.i64.wrap ((q : Int) - 1) = j := by rw [IntWalk.i64_in _ (by omega)]; omega
              have hj0 : (0 : Int) ≤ j := by omega
              have hj1 : (j : Int) < n := by omega
              have hvq := (HV.out.keep HNS2.out.bel).ver hlt
              rw [HP2.out, HNK.out] at hvq
              have mw := hvq.cell hjn
              rw [← hy] at mw
              have hb2 : b2 < w.heap.size := by
                obtain ⟨b', o', e', hb', _⟩ := hvq j hjn
                injection e' with e'
                injection e' with e1
                omega
              clear hvq hout hx hy hj
              have mw0 := mw
              have HR : Hid (Rows4 at' n F wr (w.heap.size + 1) K K K K a v d e) := Lib.hid HNS2.out.rows
              have HB : Hid (Below (w.heap.size + 1 + 1) wr wr) := Lib.hid (Below.refl _ _)
              have HNO : Hid (∀ x, wr.heap.size ≤ x → some x ≠ a.ownBlock ∧ some x ≠ v.ownBlock) := Lib.hid fun x hx => ⟨fun e1 => by have := (own_blk_lt HNS2.out.rows.ra e1.symm).2; omega, fun e1 => by have := (own_blk_lt HNS2.out.rows.rv e1.symm).2; omega⟩
              go_wp2_with fail
              go_cut [10] (fun ov wx => ov = .bool false ∧ ∃ a' v', Ns2 w at' n F K wx a' v' d e)
              case first =>
                refine region_upL (fun W => Below (w.heap.size + 1 + 1) wr W) (fun W => W.cell? ⟨b2, o2 + j, none⟩ = some (.int .u32 y)) (fun s => Nat.ble 17 s) (by kernel_rfl) ?_
                obtain ⟨V0, hv⟩ : ∃ W, W = wr.drew := ⟨_, rfl⟩
                rw [← hv]
                have hb : Below (w.heap.size + 1 + 1) wr V0 := by rw [hv]; exact HB.out.drew
                have HR_V0 : Hid (Rows4 at' n F V0 (w.heap.size + 1) K K K K a v d e) := Lib.hid (by rw [hv]; exact HR.out.keep ((Below.refl _ _).drew))
                have HB_V0 := Lib.hid hb
                have HD_V0 : Hid ((fun W => W.cell? ⟨b2, o2 + j, none⟩ = some (.int .u32 y)) V0) := Lib.hid (keptn mw0 HB_V0.out (by dsimp only; omega))
                clear hb hv
                refine upL_take (fun W => W.cell? ⟨b2, o2 + j, none⟩ = some (.int .u32 y)) (i := 0) (v := ?_) rfl (by kernel_rfl) (by kernel_rfl) (by kernel_rfl) (by kernel_rfl) (.inr fun _ h => h) (fun _ _ _ h => h) (Or.inl ⟨by rfl, ?_⟩) HD_V0.out HD_V0.out (.inr HB_V0.out) ?_
                rotate_left
                · intro W0 hSw
                  try dsimp only at hSw

                  go_simp
                  try with_reducible rfl
                try simp only [Act.put, List.setIfInBounds_toArray]
                refine upL_take (fun W => Below (w.heap.size + 1 + 1) wr W) (i := 1) (v := ?_) rfl (by kernel_rfl) (by kernel_rfl) (by kernel_rfl) (by kernel_rfl) (.inl ⟨by kernel_rfl, fun _ h => h⟩) (fun _ _ _ h => h) (Or.inl ⟨by rfl, ?_⟩) HB_V0.out HD_V0.out (.inr HB_V0.out) ?_
                rotate_left
                · intro W0 hSw
                  try dsimp only at hSw
                  have kk := keptn HCL.out.c0 hSw (by dsimp only; omega)
                  go_simp
                  try with_reducible rfl
                try simp only [Act.put]
                refine upL_take (fun W => W.cell? ⟨b2, o2 + j, none⟩ = some (.int .u32 y)) (i := 2) (v := ?_) rfl (by kernel_rfl) (by kernel_rfl) (by kernel_rfl) (by kernel_rfl) (.inr fun _ h => h) (fun _ _ _ h => h) (Or.inl ⟨by rfl, ?_⟩) HD_V0.out HD_V0.out (.inr HB_V0.out) ?_
                rotate_left
                · intro W0 hSw
                  try dsimp only at hSw

                  go_simp
                  try with_reducible rfl
                try simp only [Act.put]
                refine upL_take (fun W => W.cell? ⟨b2, o2 + j, none⟩ = some (.int .u32 y)) (i := 3) (v := ?_) rfl (by kernel_rfl) (by kernel_rfl) (by kernel_rfl) (by kernel_rfl) (.inr fun _ h => h) (fun _ _ _ h => h) (Or.inl ⟨by rfl, ?_⟩) HD_V0.out HD_V0.out (.inr HB_V0.out) ?_
                rotate_left
                · intro W0 hSw
                  try dsimp only at hSw

                  go_simp
                  try with_reducible rfl
                try simp only [Act.put]
                refine upL_take (fun W => W.cell? ⟨b2, o2 + j, none⟩ = some (.int .u32 y)) (i := 4) (v := ?_) rfl (by kernel_rfl) (by kernel_rfl) (by kernel_rfl) (by kernel_rfl) (.inr fun _ h => h) (fun _ _ _ h => h) (Or.inl ⟨by rfl, ?_⟩) HD_V0.out HD_V0.out (.inr HB_V0.out) ?_
                rotate_left
                · intro W0 hSw
                  try dsimp only at hSw

                  go_simp
                  try with_reducible rfl
                try simp only [Act.put]
                refine upL_take (fun W => W.cell? ⟨b2, o2 + j, none⟩ = some (.int .u32 y)) (i := 7) (v := ?_) rfl (by kernel_rfl) (by kernel_rfl) (by kernel_rfl) (by kernel_rfl) (.inr fun _ h => h) (fun _ _ _ h => h) (Or.inl ⟨by rfl, ?_⟩) HD_V0.out HD_V0.out (.inr HB_V0.out) ?_
                rotate_left
                · intro W0 hSw
                  try dsimp only at hSw

                  go_simp
                  try with_reducible rfl
                try simp only [Act.put]
                refine upL_take (fun W => Below (w.heap.size + 1 + 1) wr W) (i := 8) (v := ?_) rfl (by kernel_rfl) (by kernel_rfl) (by kernel_rfl) (by kernel_rfl) (.inl ⟨by kernel_rfl, fun _ h => h⟩) (fun _ _ _ h => h) (Or.inl ⟨by rfl, ?_⟩) HB_V0.out HD_V0.out (.inr HB_V0.out) ?_
                rotate_left
                · intro W0 hSw
                  try dsimp only at hSw
                  have kk := keptn HCL.out.c1 hSw (by dsimp only; omega)
                  go_simp
                  try with_reducible rfl
                try simp only [Act.put]
                refine upL_take (fun W => W.cell? ⟨b2, o2 + j, none⟩ = some (.int .u32 y)) (i := 9) (v := ?_) rfl (by kernel_rfl) (by kernel_rfl) (by kernel_rfl) (by kernel_rfl) (.inr fun _ h => h) (fun _ _ _ h => h) (Or.inl ⟨by rfl, ?_⟩) HD_V0.out HD_V0.out (.inr HB_V0.out) ?_
                rotate_left
                · intro W0 hSw
                  try dsimp only at hSw

                  go_simp
                  try with_reducible rfl
                try simp only [Act.put]
                refine upL_take (fun W => W.cell? ⟨b2, o2 + j, none⟩ = some (.int .u32 y)) (i := 10) (v := ?_) rfl (by kernel_rfl) (by kernel_rfl) (by kernel_rfl) (by kernel_rfl) (.inr fun _ h => h) (fun _ _ _ h => h) (Or.inl ⟨by rfl, ?_⟩) HD_V0.out HD_V0.out (.inr HB_V0.out) ?_
                rotate_left
                · intro W0 hSw
                  try dsimp only at hSw

                  go_simp
                  try with_reducible rfl
                try simp only [Act.put]
                refine upL_take (fun W => W.cell? ⟨b2, o2 + j, none⟩ = some (.int .u32 y)) (i := 11) (v := ?_) rfl (by kernel_rfl) (by kernel_rfl) (by kernel_rfl) (by kernel_rfl) (.inr fun _ h => h) (fun _ _ _ h => h) (Or.inl ⟨by rfl, ?_⟩) HD_V0.out HD_V0.out (.inr HB_V0.out) ?_
                rotate_left
                · intro W0 hSw
                  try dsimp only at hSw

                  go_simp
                  try with_reducible rfl
                try simp only [Act.put]
                refine upL_take (fun W => W.cell? ⟨b2, o2 + j, none⟩ = some (.int .u32 y)) (i := 12) (v := ?_) rfl (by kernel_rfl) (by kernel_rfl) (by kernel_rfl) (by kernel_rfl) (.inr fun _ h => h) (fun _ _ _ h => h) (Or.inl ⟨by rfl, ?_⟩) HD_V0.out HD_V0.out (.inr HB_V0.out) ?_
                rotate_left
                · intro W0 hSw
                  try dsimp only at hSw

                  go_simp
                  try with_reducible rfl
                try simp only [Act.put]
                refine upL_take (fun W => W.cell? ⟨b2, o2 + j, none⟩ = some (.int .u32 y)) (i := 13) (v := ?_) rfl (by kernel_rfl) (by kernel_rfl) (by kernel_rfl) (by kernel_rfl) (.inr fun _ h => h) (fun _ _ _ h => h) (Or.inl ⟨by rfl, ?_⟩) HD_V0.out HD_V0.out (.inr HB_V0.out) ?_
                rotate_left
                · intro W0 hSw
                  try dsimp only at hSw

                  go_simp
                  try with_reducible rfl
                try simp only [Act.put]
                refine upL_ready (rs := [5, 14]) (by kernel_rfl) (by simp) ?_
                refine EachL.cons rfl (fun K' hK => ?_) ?_
                · go_simp
                  obtain ⟨V1, hv⟩ : ∃ W, W = V0.alloc (.cells #[(.int .i64 x)] 3) := ⟨_, rfl⟩
                  rw [← hv]
                  have hb : Below (w.heap.size + 1 + 1) wr V1 := by rw [hv]; exact HB_V0.out.alloc HR_V0.out.lt _
                  have HR_V1 := Lib.hid (HR_V0.out.keep (w' := V1) (by rw [hv]; exact (Below.refl _ _).alloc (Nat.le_refl _) _))
                  have HXA_V1 : Hid (V1.heap[V0.heap.size]? = some (.cells #[(.int .i64 x)] 3 (0, 0)) ∧ wr.heap.size ≤ V0.heap.size) := Lib.hid ⟨by rw [hv]; exact heap_alloc_new _ _, HB_V0.out.size⟩
                  have HD_V1 : Hid ((fun W => W.cell? ⟨b2, o2 + j, none⟩ = some (.int .u32 y)) V1) := Lib.hid (keptn mw0 hb (by dsimp only; omega))
                  refine hK.out _ _ HD_V1.out (.inr hb) ?_
                  have HB_V1 := Lib.hid hb
                  clear hb hv
                  clear HR_V0 HB_V0 HD_V0 hK K'
                  try simp only [Act.put, List.setIfInBounds_toArray, List.set_cons_succ]
                  refine upL_ready (rs := [6, 14]) (by kernel_rfl) (by simp) ?_
                  refine EachL.cons rfl (fun K' hK => ?_) ?_
                  · refine step_one rfl _ _ 36 3 (.int .i64 0) 8 rfl Tryd.underlying36 info3' rfl (w.heap.size + 1 + 1) _ _ _ rfl HR_V1.out.ra (.int .i64 x) rfl _ (by rfl) HXA_V1.out.1 HK.out HR_V1.out.lt ?_
                    intro gA cA V2 hown hgrow hat1 hlt1
                    have hb : Below (w.heap.size + 1 + 1) wr V2 := Below.grown HB_V1.out hgrow HR_V1.out.lt (fun q hq => (own_blk_lt HR_V1.out.ra hq).1)
                    have HR_V2 := Lib.hid (HR_V1.out.appA (by rw [HAT.out]; exact hown) hgrow hat1)
                    have HD_V2 : Hid ((fun W => W.cell? ⟨b2, o2 + j, none⟩ = some (.int .u32 y)) V2) := Lib.hid (keptn mw0 hb (by dsimp only; omega))
                    refine hK.out _ _ HD_V2.out (.inr hb) ?_
                    have HB_V2 := Lib.hid hb
                    clear hb hown hgrow hat1 hlt1
                    clear HR_V1 HB_V1 HD_V1 hK K' HXA_V1
                    try simp only [Act.put, List.setIfInBounds_toArray]
                    refine upL_take (fun W => W.cell? ⟨b2, o2 + j, none⟩ = some (.int .u32 y)) (i := 16) (v := ?_) rfl (by kernel_rfl) (by kernel_rfl) (by kernel_rfl) (by kernel_rfl) (.inr fun _ h => h) (fun _ _ _ h => h) (Or.inl ⟨by rfl, ?_⟩) HD_V2.out HD_V2.out (.inr HB_V2.out) ?_
                    rotate_left
                    · intro W0 hSw
                      try dsimp only at hSw

                      go_simp
                      try with_reducible rfl
                    try simp only [Act.put]
                    refine upL_ready (rs := [14]) (by kernel_rfl) (by simp) ?_
                    refine EachL.cons rfl (fun K' hK => ?_) ?_
                    · go_simp
                      obtain ⟨V3, hv⟩ : ∃ W, W = V2.alloc (.cells #[(.int .u32 y)] 22) := ⟨_, rfl⟩
                      rw [← hv]
                      have hb : Below (w.heap.size + 1 + 1) wr V3 := by rw [hv]; exact HB_V2.out.alloc HR_V2.out.lt _
                      have HR_V3 := Lib.hid (HR_V2.out.keep (w' := V3) (by rw [hv]; exact (Below.refl _ _).alloc (Nat.le_refl _) _))
                      have HXB_V3 : Hid (V3.heap[V2.heap.size]? = some (.cells #[(.int .u32 y)] 22 (0, 0)) ∧ wr.heap.size ≤ V2.heap.size) := Lib.hid ⟨by rw [hv]; exact heap_alloc_new _ _, HB_V2.out.size⟩
                      have HD_V3 : Hid ((fun W => W.cell? ⟨b2, o2 + j, none⟩ = some (.int .u32 y)) V3) := Lib.hid (keptn mw0 hb (by dsimp only; omega))
                      refine hK.out _ _ HD_V3.out (.inr hb) ?_
                      have HB_V3 := Lib.hid hb
                      clear hb hv
                      clear HR_V2 HB_V2 HD_V2 hK K'
                      try simp only [Act.put, List.setIfInBounds_toArray, List.set_cons_succ]
                      refine upL_ready (rs := [15]) (by kernel_rfl) (by simp) ?_
                      refine EachL.cons rfl (fun K' hK => ?_) ?_
                      · refine step_one rfl _ _ 37 22 (.int .u32 0) 4 rfl Tryd.underlying37 info22' rfl (w.heap.size + 1 + 1) _ _ _ rfl HR_V3.out.rv (.int .u32 y) rfl _ (by rfl) HXB_V3.out.1 HK4.out HR_V3.out.lt ?_
                        intro gB cB V4 hown hgrow hat1 hlt1
                        have hb : Below (w.heap.size + 1 + 1) wr V4 := Below.grown HB_V3.out hgrow HR_V3.out.lt (fun q hq => (own_blk_lt HR_V3.out.rv hq).1)
                        have HR_V4 := Lib.hid (HR_V3.out.appV (by rw [HVS.out]; exact hown) hgrow hat1)
                        have HD_V4 : Hid ((fun W => W.cell? ⟨b2, o2 + j, none⟩ = some (.int .u32 y)) V4) := Lib.hid (keptn mw0 hb (by dsimp only; omega))
                        refine hK.out _ _ HD_V4.out (.inr hb) ?_
                        have HB_V4 := Lib.hid hb
                        clear hb hown hgrow hat1 hlt1
                        clear HR_V3 HB_V3 HD_V3 hK K' HXB_V3
                        try simp only [Act.put, List.setIfInBounds_toArray]
                        have m0 := keptn HCL.out.c0 HB_V4.out (by dsimp only; omega)
                        have m1 := keptn HCL.out.c1 HB_V4.out (by dsimp only; omega)
                        have f0 : V4.frozen? ⟨w.heap.size + 1, 0, none⟩ = false := by rw [HB_V4.out.frozen (p := ⟨w.heap.size + 1, 0, none⟩) (by dsimp only; omega)]; exact HCL.out.fz 0
                        have f1 : V4.frozen? ⟨w.heap.size + 1, 1, none⟩ = false := by rw [HB_V4.out.frozen (p := ⟨w.heap.size + 1, 1, none⟩) (by dsimp only; omega)]; exact HCL.out.fz 1
                        refine upL_ready (rs := [17]) (by kernel_rfl) (by simp) ?_
                        refine EachL.cons rfl (fun K' hK => ?_) EachL.nil
                        go_simp
                        refine hK.out _ _ ?hD (.inl (by kernel_rfl)) ?_
                        case hD => exact (World.cell?_setCell_other _ _ _ _ (by intro e; injection e with e1; omega)).trans HD_V4.out
                        clear hK K'
                        try simp only [Act.put, List.setIfInBounds_toArray, List.set_cons_succ]
                        refine upL_take (fun W => W.cell? ⟨b2, o2 + j, none⟩ = some (.int .u32 y)) (i := 18) (v := ?_) rfl (by kernel_rfl) (by kernel_rfl) (by kernel_rfl) (by kernel_rfl) (.inr fun _ h => h) (fun _ _ _ h => h) (Or.inl ⟨by rfl, ?_⟩) (by exact (World.cell?_setCell_other _ _ _ _ (by intro e; injection e with e1; omega)).trans HD_V4.out) (by exact (World.cell?_setCell_other _ _ _ _ (by intro e; injection e with e1; omega)).trans HD_V4.out) (.inl (by kernel_rfl)) ?_
                        rotate_left
                        · intro W0 hSw
                          try dsimp only at hSw

                          go_simp
                          try with_reducible rfl
                        try simp only [Act.put, List.setIfInBounds_toArray]
                        refine upL_ready (rs := [19]) (by kernel_rfl) (by simp) ?_
                        refine EachL.cons rfl (fun K' hK => ?_) EachL.nil
                        go_simp
                        refine hK.out _ _ ?hD (.inl (by kernel_rfl)) ?_
                        case hD => exact (World.cell?_setCell_other _ _ _ _ (by intro e; injection e with e1; omega)).trans ((World.cell?_setCell_other _ _ _ _ (by intro e; injection e with e1; omega)).trans HD_V4.out)
                        clear hK K'
                        try simp only [Act.put, List.setIfInBounds_toArray, List.set_cons_succ]
                        refine upL_done (by kernel_rfl) ?_ _
                        go_wp2_with fail
                        go_meet
                        case rel => exact ⟨rfl, _, _, ns2_of HNS2.out HR_V4.out HB_V4.out⟩
                      exact EachL.nil
                    exact EachL.nil
                  refine EachL.cons rfl (fun K' hK => ?_) ?_
                  · go_simp
                    obtain ⟨V5, hv⟩ : ∃ W, W = V1.alloc (.cells #[(.int .u32 y)] 22) := ⟨_, rfl⟩
                    rw [← hv]
                    have hb : Below (w.heap.size + 1 + 1) wr V5 := by rw [hv]; exact HB_V1.out.alloc HR_V1.out.lt _
                    have HR_V5 := Lib.hid (HR_V1.out.keep (w' := V5) (by rw [hv]; exact (Below.refl _ _).alloc (Nat.le_refl _) _))
                    have HXB_V5 : Hid (V5.heap[V1.heap.size]? = some (.cells #[(.int .u32 y)] 22 (0, 0)) ∧ wr.heap.size ≤ V1.heap.size) := Lib.hid ⟨by rw [hv]; exact heap_alloc_new _ _, HB_V1.out.size⟩
                    have HXA_V5 : Hid (V5.heap[V0.heap.size]? = some (.cells #[(.int .i64 x)] 3 (0, 0)) ∧ wr.heap.size ≤ V0.heap.size) := Lib.hid ⟨by rw [hv]; exact heap_past HXA_V1.out.1, HXA_V1.out.2⟩
                    have HD_V5 : Hid ((fun W => W.cell? ⟨b2, o2 + j, none⟩ = some (.int .u32 y)) V5) := Lib.hid (keptn mw0 hb (by dsimp only; omega))
                    refine hK.out _ _ HD_V5.out (.inr hb) ?_
                    have HB_V5 := Lib.hid hb
                    clear hb hv
                    clear HR_V1 HB_V1 HD_V1 hK K' HXA_V1
                    try simp only [Act.put, List.setIfInBounds_toArray, List.set_cons_succ]
                    refine upL_ready (rs := [6]) (by kernel_rfl) (by simp) ?_
                    refine EachL.cons rfl (fun K' hK => ?_) ?_
                    · refine step_one rfl _ _ 36 3 (.int .i64 0) 8 rfl Tryd.underlying36 info3' rfl (w.heap.size + 1 + 1) _ _ _ rfl HR_V5.out.ra (.int .i64 x) rfl _ (by rfl) HXA_V5.out.1 HK.out HR_V5.out.lt ?_
                      intro gA cA V6 hown hgrow hat1 hlt1
                      have hb : Below (w.heap.size + 1 + 1) wr V6 := Below.grown HB_V5.out hgrow HR_V5.out.lt (fun q hq => (own_blk_lt HR_V5.out.ra hq).1)
                      have HR_V6 := Lib.hid (HR_V5.out.appA (by rw [HAT.out]; exact hown) hgrow hat1)
                      have HXB_V6 : Hid (V6.heap[V1.heap.size]? = some (.cells #[(.int .u32 y)] 22 (0, 0)) ∧ wr.heap.size ≤ V1.heap.size) := Lib.hid ⟨heap_grown hgrow HXB_V5.out.1 (heap_lt HXB_V5.out.1) (HNO.out _ HXB_V5.out.2).1, HXB_V5.out.2⟩
                      have HD_V6 : Hid ((fun W => W.cell? ⟨b2, o2 + j, none⟩ = some (.int .u32 y)) V6) := Lib.hid (keptn mw0 hb (by dsimp only; omega))
                      refine hK.out _ _ HD_V6.out (.inr hb) ?_
                      have HB_V6 := Lib.hid hb
                      clear hb hown hgrow hat1 hlt1
                      clear HR_V5 HB_V5 HD_V5 hK K' HXA_V5 HXB_V5
                      try simp only [Act.put, List.setIfInBounds_toArray]
                      refine upL_take (fun W => W.cell? ⟨b2, o2 + j, none⟩ = some (.int .u32 y)) (i := 16) (v := ?_) rfl (by kernel_rfl) (by kernel_rfl) (by kernel_rfl) (by kernel_rfl) (.inr fun _ h => h) (fun _ _ _ h => h) (Or.inl ⟨by rfl, ?_⟩) HD_V6.out HD_V6.out (.inr HB_V6.out) ?_
                      rotate_left
                      · intro W0 hSw
                        try dsimp only at hSw

                        go_simp
                        try with_reducible rfl
                      try simp only [Act.put]
                      refine upL_ready (rs := [15]) (by kernel_rfl) (by simp) ?_
                      refine EachL.cons rfl (fun K' hK => ?_) ?_
                      · refine step_one rfl _ _ 37 22 (.int .u32 0) 4 rfl Tryd.underlying37 info22' rfl (w.heap.size + 1 + 1) _ _ _ rfl HR_V6.out.rv (.int .u32 y) rfl _ (by rfl) HXB_V6.out.1 HK4.out HR_V6.out.lt ?_
                        intro gB cB V7 hown hgrow hat1 hlt1
                        have hb : Below (w.heap.size + 1 + 1) wr V7 := Below.grown HB_V6.out hgrow HR_V6.out.lt (fun q hq => (own_blk_lt HR_V6.out.rv hq).1)
                        have HR_V7 := Lib.hid (HR_V6.out.appV (by rw [HVS.out]; exact hown) hgrow hat1)
                        have HD_V7 : Hid ((fun W => W.cell? ⟨b2, o2 + j, none⟩ = some (.int .u32 y)) V7) := Lib.hid (keptn mw0 hb (by dsimp only; omega))
                        refine hK.out _ _ HD_V7.out (.inr hb) ?_
                        have HB_V7 := Lib.hid hb
                        clear hb hown hgrow hat1 hlt1
                        clear HR_V6 HB_V6 HD_V6 hK K' HXB_V6
                        try simp only [Act.put]
                        have m0 := keptn HCL.out.c0 HB_V7.out (by dsimp only; omega)
                        have m1 := keptn HCL.out.c1 HB_V7.out (by dsimp only; omega)
                        have f0 : V7.frozen? ⟨w.heap.size + 1, 0, none⟩ = false := by rw [HB_V7.out.frozen (p := ⟨w.heap.size + 1, 0, none⟩) (by dsimp only; omega)]; exact HCL.out.fz 0
                        have f1 : V7.frozen? ⟨w.heap.size + 1, 1, none⟩ = false := by rw [HB_V7.out.frozen (p := ⟨w.heap.size + 1, 1, none⟩) (by dsimp only; omega)]; exact HCL.out.fz 1
                        refine upL_ready (rs := [17]) (by kernel_rfl) (by simp) ?_
                        refine EachL.cons rfl (fun K' hK => ?_) EachL.nil
                        go_simp
                        refine hK.out _ _ ?hD (.inl (by kernel_rfl)) ?_
                        case hD => exact (World.cell?_setCell_other _ _ _ _ (by intro e; injection e with e1; omega)).trans HD_V7.out
                        clear hK K'
                        try simp only [Act.put, List.setIfInBounds_toArray, List.set_cons_succ]
                        refine upL_take (fun W => W.cell? ⟨b2, o2 + j, none⟩ = some (.int .u32 y)) (i := 18) (v := ?_) rfl (by kernel_rfl) (by kernel_rfl) (by kernel_rfl) (by kernel_rfl) (.inr fun _ h => h) (fun _ _ _ h => h) (Or.inl ⟨by rfl, ?_⟩) (by exact (World.cell?_setCell_other _ _ _ _ (by intro e; injection e with e1; omega)).trans HD_V7.out) (by exact (World.cell?_setCell_other _ _ _ _ (by intro e; injection e with e1; omega)).trans HD_V7.out) (.inl (by kernel_rfl)) ?_
                        rotate_left
                        · intro W0 hSw
                          try dsimp only at hSw

                          go_simp
                          try with_reducible rfl
                        try simp only [Act.put, List.setIfInBounds_toArray]
                        refine upL_ready (rs := [19]) (by kernel_rfl) (by simp) ?_
                        refine EachL.cons rfl (fun K' hK => ?_) EachL.nil
                        go_simp
                        refine hK.out _ _ ?hD (.inl (by kernel_rfl)) ?_
                        case hD => exact (World.cell?_setCell_other _ _ _ _ (by intro e; injection e with e1; omega)).trans ((World.cell?_setCell_other _ _ _ _ (by intro e; injection e with e1; omega)).trans HD_V7.out)
                        clear hK K'
                        try simp only [Act.put, List.setIfInBounds_toArray, List.set_cons_succ]
                        refine upL_done (by kernel_rfl) ?_ _
                        go_wp2_with fail
                        go_meet
                        case rel => exact ⟨rfl, _, _, ns2_of HNS2.out HR_V7.out HB_V7.out⟩
                      exact EachL.nil
                    exact EachL.nil
                  exact EachL.nil
                refine EachL.cons rfl (fun K' hK => ?_) ?_
                · go_simp
                  obtain ⟨V8, hv⟩ : ∃ W, W = V0.alloc (.cells #[(.int .u32 y)] 22) := ⟨_, rfl⟩
                  rw [← hv]
                  have hb : Below (w.heap.size + 1 + 1) wr V8 := by rw [hv]; exact HB_V0.out.alloc HR_V0.out.lt _
                  have HR_V8 := Lib.hid (HR_V0.out.keep (w' := V8) (by rw [hv]; exact (Below.refl _ _).alloc (Nat.le_refl _) _))
                  have HXB_V8 : Hid (V8.heap[V0.heap.size]? = some (.cells #[(.int .u32 y)] 22 (0, 0)) ∧ wr.heap.size ≤ V0.heap.size) := Lib.hid ⟨by rw [hv]; exact heap_alloc_new _ _, HB_V0.out.size⟩
                  have HD_V8 : Hid ((fun W => W.cell? ⟨b2, o2 + j, none⟩ = some (.int .u32 y)) V8) := Lib.hid (keptn mw0 hb (by dsimp only; omega))
                  refine hK.out _ _ HD_V8.out (.inr hb) ?_
                  have HB_V8 := Lib.hid hb
                  clear hb hv
                  clear HR_V0 HB_V0 HD_V0 hK K'
                  try simp only [Act.put, List.setIfInBounds_toArray, List.set_cons_succ]
                  refine upL_ready (rs := [5]) (by kernel_rfl) (by simp) ?_
                  refine EachL.cons rfl (fun K' hK => ?_) ?_
                  · go_simp
                    obtain ⟨V9, hv⟩ : ∃ W, W = V8.alloc (.cells #[(.int .i64 x)] 3) := ⟨_, rfl⟩
                    rw [← hv]
                    have hb : Below (w.heap.size + 1 + 1) wr V9 := by rw [hv]; exact HB_V8.out.alloc HR_V8.out.lt _
                    have HR_V9 := Lib.hid (HR_V8.out.keep (w' := V9) (by rw [hv]; exact (Below.refl _ _).alloc (Nat.le_refl _) _))
                    have HXA_V9 : Hid (V9.heap[V8.heap.size]? = some (.cells #[(.int .i64 x)] 3 (0, 0)) ∧ wr.heap.size ≤ V8.heap.size) := Lib.hid ⟨by rw [hv]; exact heap_alloc_new _ _, HB_V8.out.size⟩
                    have HXB_V9 : Hid (V9.heap[V0.heap.size]? = some (.cells #[(.int .u32 y)] 22 (0, 0)) ∧ wr.heap.size ≤ V0.heap.size) := Lib.hid ⟨by rw [hv]; exact heap_past HXB_V8.out.1, HXB_V8.out.2⟩
                    have HD_V9 : Hid ((fun W => W.cell? ⟨b2, o2 + j, none⟩ = some (.int .u32 y)) V9) := Lib.hid (keptn mw0 hb (by dsimp only; omega))
                    refine hK.out _ _ HD_V9.out (.inr hb) ?_
                    have HB_V9 := Lib.hid hb
                    clear hb hv
                    clear HR_V8 HB_V8 HD_V8 hK K' HXB_V8
                    try simp only [Act.put, List.setIfInBounds_toArray, List.set_cons_succ]
                    refine upL_ready (rs := [6]) (by kernel_rfl) (by simp) ?_
                    refine EachL.cons rfl (fun K' hK => ?_) ?_
                    · refine step_one rfl _ _ 36 3 (.int .i64 0) 8 rfl Tryd.underlying36 info3' rfl (w.heap.size + 1 + 1) _ _ _ rfl HR_V9.out.ra (.int .i64 x) rfl _ (by rfl) HXA_V9.out.1 HK.out HR_V9.out.lt ?_
                      intro gA cA V10 hown hgrow hat1 hlt1
                      have hb : Below (w.heap.size + 1 + 1) wr V10 := Below.grown HB_V9.out hgrow HR_V9.out.lt (fun q hq => (own_blk_lt HR_V9.out.ra hq).1)
                      have HR_V10 := Lib.hid (HR_V9.out.appA (by rw [HAT.out]; exact hown) hgrow hat1)
                      have HXB_V10 : Hid (V10.heap[V0.heap.size]? = some (.cells #[(.int .u32 y)] 22 (0, 0)) ∧ wr.heap.size ≤ V0.heap.size) := Lib.hid ⟨heap_grown hgrow HXB_V9.out.1 (heap_lt HXB_V9.out.1) (HNO.out _ HXB_V9.out.2).1, HXB_V9.out.2⟩
                      have HD_V10 : Hid ((fun W => W.cell? ⟨b2, o2 + j, none⟩ = some (.int .u32 y)) V10) := Lib.hid (keptn mw0 hb (by dsimp only; omega))
                      refine hK.out _ _ HD_V10.out (.inr hb) ?_
                      have HB_V10 := Lib.hid hb
                      clear hb hown hgrow hat1 hlt1
                      clear HR_V9 HB_V9 HD_V9 hK K' HXA_V9 HXB_V9
                      try simp only [Act.put, List.setIfInBounds_toArray]
                      refine upL_take (fun W => W.cell? ⟨b2, o2 + j, none⟩ = some (.int .u32 y)) (i := 16) (v := ?_) rfl (by kernel_rfl) (by kernel_rfl) (by kernel_rfl) (by kernel_rfl) (.inr fun _ h => h) (fun _ _ _ h => h) (Or.inl ⟨by rfl, ?_⟩) HD_V10.out HD_V10.out (.inr HB_V10.out) ?_
                      rotate_left
                      · intro W0 hSw
                        try dsimp only at hSw

                        go_simp
                        try with_reducible rfl
                      try simp only [Act.put]
                      refine upL_ready (rs := [15]) (by kernel_rfl) (by simp) ?_
                      refine EachL.cons rfl (fun K' hK => ?_) ?_
                      · refine step_one rfl _ _ 37 22 (.int .u32 0) 4 rfl Tryd.underlying37 info22' rfl (w.heap.size + 1 + 1) _ _ _ rfl HR_V10.out.rv (.int .u32 y) rfl _ (by rfl) HXB_V10.out.1 HK4.out HR_V10.out.lt ?_
                        intro gB cB V11 hown hgrow hat1 hlt1
                        have hb : Below (w.heap.size + 1 + 1) wr V11 := Below.grown HB_V10.out hgrow HR_V10.out.lt (fun q hq => (own_blk_lt HR_V10.out.rv hq).1)
                        have HR_V11 := Lib.hid (HR_V10.out.appV (by rw [HVS.out]; exact hown) hgrow hat1)
                        have HD_V11 : Hid ((fun W => W.cell? ⟨b2, o2 + j, none⟩ = some (.int .u32 y)) V11) := Lib.hid (keptn mw0 hb (by dsimp only; omega))
                        refine hK.out _ _ HD_V11.out (.inr hb) ?_
                        have HB_V11 := Lib.hid hb
                        clear hb hown hgrow hat1 hlt1
                        clear HR_V10 HB_V10 HD_V10 hK K' HXB_V10
                        try simp only [Act.put]
                        have m0 := keptn HCL.out.c0 HB_V11.out (by dsimp only; omega)
                        have m1 := keptn HCL.out.c1 HB_V11.out (by dsimp only; omega)
                        have f0 : V11.frozen? ⟨w.heap.size + 1, 0, none⟩ = false := by rw [HB_V11.out.frozen (p := ⟨w.heap.size + 1, 0, none⟩) (by dsimp only; omega)]; exact HCL.out.fz 0
                        have f1 : V11.frozen? ⟨w.heap.size + 1, 1, none⟩ = false := by rw [HB_V11.out.frozen (p := ⟨w.heap.size + 1, 1, none⟩) (by dsimp only; omega)]; exact HCL.out.fz 1
                        refine upL_ready (rs := [17]) (by kernel_rfl) (by simp) ?_
                        refine EachL.cons rfl (fun K' hK => ?_) EachL.nil
                        go_simp
                        refine hK.out _ _ ?hD (.inl (by kernel_rfl)) ?_
                        case hD => exact (World.cell?_setCell_other _ _ _ _ (by intro e; injection e with e1; omega)).trans HD_V11.out
                        clear hK K'
                        try simp only [Act.put, List.setIfInBounds_toArray, List.set_cons_succ]
                        refine upL_take (fun W => W.cell? ⟨b2, o2 + j, none⟩ = some (.int .u32 y)) (i := 18) (v := ?_) rfl (by kernel_rfl) (by kernel_rfl) (by kernel_rfl) (by kernel_rfl) (.inr fun _ h => h) (fun _ _ _ h => h) (Or.inl ⟨by rfl, ?_⟩) (by exact (World.cell?_setCell_other _ _ _ _ (by intro e; injection e with e1; omega)).trans HD_V11.out) (by exact (World.cell?_setCell_other _ _ _ _ (by intro e; injection e with e1; omega)).trans HD_V11.out) (.inl (by kernel_rfl)) ?_
                        rotate_left
                        · intro W0 hSw
                          try dsimp only at hSw

                          go_simp
                          try with_reducible rfl
                        try simp only [Act.put, List.setIfInBounds_toArray]
                        refine upL_ready (rs := [19]) (by kernel_rfl) (by simp) ?_
                        refine EachL.cons rfl (fun K' hK => ?_) EachL.nil
                        go_simp
                        refine hK.out _ _ ?hD (.inl (by kernel_rfl)) ?_
                        case hD => exact (World.cell?_setCell_other _ _ _ _ (by intro e; injection e with e1; omega)).trans ((World.cell?_setCell_other _ _ _ _ (by intro e; injection e with e1; omega)).trans HD_V11.out)
                        clear hK K'
                        try simp only [Act.put, List.setIfInBounds_toArray, List.set_cons_succ]
                        refine upL_done (by kernel_rfl) ?_ _
                        go_wp2_with fail
                        go_meet
                        case rel => exact ⟨rfl, _, _, ns2_of HNS2.out HR_V11.out HB_V11.out⟩
                      exact EachL.nil
                    exact EachL.nil
                  exact EachL.nil
                exact EachL.nil
              case rest =>
                obtain ⟨rfl, a', v', h3⟩ := hcut
                have HN3 := Lib.hid h3
                have c2 := h3.cel.c2
                have c3 := h3.cel.c3
                have f2 := h3.cel.fz 2
                have f3 := h3.cel.fz 3
                have c2a := fun o => al_cell (o := o) c2
                have hsz3 := h3.rows.lt
                clear h3 m0 m1 f0 f1
                go_wp2_with (at_builtin; refine list_one rfl _ _ rfl (w.heap.size + 1 + 1) d K _ rfl ((HN3.out.rows.keep ((Below.refl _ _).alloc (Nat.le_refl _) _)).rd) (.bool false) rfl wc.heap.size (by rfl) (heap_alloc_new _ _) (by omega) (by simp; omega) ?_)
                intro g3 cap3 w3 hown3 hgrow3 hat3 _
                have hR3 := (HN3.out.rows.keep ((Below.refl _ _).alloc (Nat.le_refl _) _)).appD (by rw [HOUT.out]; exact hown3) hgrow3 (by simpa using hat3)
                have hB3 : Below (w.heap.size + 1 + 1) wc w3 := Below.grown ((Below.refl _ _).alloc hsz3 _) hgrow3 (by simp; omega) (fun q hq => (own_blk_lt HN3.out.rows.rd hq).1)
                have HR3 := Lib.hid hR3
                have HB3 := Lib.hid hB3
                have HC3 := Lib.hid (HN3.out.cel.same (hB3.block _ (Nat.lt_succ_self _)))
                have hsz4 := hR3.lt
                clear hown3 hgrow3 hat3 hR3 hB3 c2 c3 f2 f3 c2a hsz3
                have c2 := HC3.out.c2
                have c3 := HC3.out.c3
                have f2 := HC3.out.fz 2
                have f3 := HC3.out.fz 3
                go_wp2_with (at_builtin; refine list_one rfl _ _ rfl (w.heap.size + 1 + 1) e K _ rfl (((HR3.out.set 2 (.slice (some ⟨g3, 0, none⟩) (K + 1) cap3)).keep ((Below.refl _ _).alloc (Nat.le_refl _) (.cells #[.bool false] 4))).re) (.bool false) rfl w3.heap.size (by rfl) (heap_alloc_at _ _ _ (by simp)) (by omega) (by simp; omega) ?_)
                intro g4 cap4 w4 hown4 hgrow4 hat4 _
                have hB4 : Below (w.heap.size + 1 + 1) (w3.setCell ⟨w.heap.size + 1, 2, none⟩ (.slice (some ⟨g3, 0, none⟩) (K + 1) cap3)) w4 := Below.grown ((Below.refl _ _).alloc (by simp; omega) _) hgrow4 (by simp; omega) (fun q hq => (own_blk_lt HR3.out.re hq).1)
                have hR4 := ((HR3.out.set 2 _).keep ((Below.refl _ _).alloc (Nat.le_refl _) _)).appE (by rw [HES.out]; exact hown4) hgrow4 (by simpa using hat4)
                have HR4 := Lib.hid hR4
                have HC4 := Lib.hid ((HC3.out.set2 (.slice (some ⟨g3, 0, none⟩) (K + 1) cap3)).same (hB4.block _ (Nat.lt_succ_self _)))
                have HS4 : Hid (Cel w4 w.heap.size nilS nilS nilS nilS ∧ Below w.heap.size w w4) := Lib.hid ⟨((HN3.out.res.same (HB3.out.block _ (by omega))).same (Below.heap_setCell _ _ _ _ (by show w.heap.size ≠ w.heap.size + 1; omega))).same (hB4.block _ (by omega)), ((HN3.out.bel.trans (HB3.out.mono (by omega))).setCell (Nat.le_succ _) _).trans (hB4.mono (by omega))⟩
                clear hown4 hgrow4 hat4 hR4 hB4 c2 c3 f2 f3
                have c3 := HC4.out.c3
                have f3 := HC4.out.fz 3
                go_wp2_with fail
                go_roundw
                case rel => exact ⟨q + 1, _, _, _, _, by omega, by go_num, by rw [← Nat.add_assoc, ← HKK.out]; exact ⟨HR4.out.set 3 _, HC4.out.set3 _, HS4.out.1.same (Below.heap_setCell _ _ _ _ (by show w.heap.size ≠ w.heap.size + 1; omega)), HS4.out.2.setCell (Nat.le_succ _) _⟩⟩
                case measure => simp [intOf]; omega
          · have hqi : ¬ ((q : Int) ≤ (n : Int) + 1) := by omega
            obtain rfl : q = n + 2 := by omega
            go_wp2_with fail
            go_roundw
            case rel => exact ⟨k + 1, a, v, d, e, by omega, by go_num, fun j hj => by
              rcases Nat.lt_or_ge j k with h | h
              · exact HOK.out j h
              · obtain rfl : j = k := by omega
                exact HGD.out, by rw [Nat.succ_mul]; exact HNS2.out⟩
            case measure => simp [intOf]; omega
      · have HBD := Lib.hid hgood
        obtain ⟨c0, c1, c2, c3, c4, c5, cf⟩ := HNS.out.res
        have cf0 := cf 0
        have cf1 := cf 1
        have cf2 := cf 2
        have cf3 := cf 3
        have cf4 := cf 4
        have cf5 := cf 5
        by_cases h1 : 1 ≤ ((F k).n : Int) ∧ ((F k).n : Int) ≤ 32
        · have h2 : ((F k).n : Int) ≠ n := fun e1 => HBD.out ⟨by rw [← HN.out]; omega, by rw [← HN.out]; omega⟩
          rw [fitB_yes h1]
          have H1 := Lib.hid h1
          clear hgood h1 cf
          go_wp2_with fail
          refine bodyPost_ret (v := .tuple #[.agg #[.slice none 0 0, .slice none 0 0, .slice none 0 0, .slice none 0 0, .int .i64 0, .bool false], .int .i64 100]) (by simp [results, Tryd.results12, go_sem, same_some, c0, c1, c2, c3, c4, c5]) rfl ⟨?_, .inr ⟨⟨k, hlt, HBD.out⟩, rfl⟩⟩
          exact tail_be HNS.out.bel (Nat.le_refl _) _ _ _ _ _ _
        · rw [fitB_no h1]
          clear hgood h1 cf
          go_wp2_with fail
          refine bodyPost_ret (v := .tuple #[.agg #[.slice none 0 0, .slice none 0 0, .slice none 0 0, .slice none 0 0, .int .i64 0, .bool false], .int .i64 100]) (by simp [results, Tryd.results12, go_sem, same_some, c0, c1, c2, c3, c4, c5]) rfl ⟨?_, .inr ⟨⟨k, hlt, HBD.out⟩, rfl⟩⟩
          exact tail_be HNS.out.bel (Nat.le_refl _) _ _ _ _ _ _
    · obtain rfl : k = L := by omega
      obtain ⟨pa, xa, rfl⟩ := row_form HNS.out.rows.ra
      obtain ⟨pv, xv, rfl⟩ := row_form HNS.out.rows.rv
      obtain ⟨pd, xd, rfl⟩ := row_form HNS.out.rows.rd
      obtain ⟨pe, xe, rfl⟩ := row_form HNS.out.rows.re
      obtain ⟨M, hM⟩ : ∃ M, M = k * (n + 2) := ⟨_, rfl⟩
      rw [← hM] at HNS
      have HMM := Lib.hid hM
      clear hM
      obtain ⟨c0, c1, c2, c3, c4, c5, cf⟩ := HNS.out.cel
      obtain ⟨z0, z1, z2, z3, z4, z5, zf⟩ := HNS.out.res
      have zf0 := zf 0
      have zf1 := zf 1
      have zf2 := zf 2
      have zf3 := zf 3
      have zf4 := zf 4
      have zf5 := zf 5
      clear zf cf
      go_wp2_with fail
      refine bodyPost_ret (v := .tuple #[.agg #[.slice pa M xa, .slice pv M xv, .slice pd M xd, .slice pe M xe, .int .i64 0, .bool false], .int .i64 0]) (by simp [results, Tryd.results12, go_sem, same_some, z0, z1, z2, z3, z4, z5]) rfl ⟨?_, .inl ⟨HOK.out, _, _, _, _, rfl, ?_⟩⟩
      · exact tail_be HNS.out.bel (Nat.le_refl _) _ _ _ _ _ _
      · rw [← HN.out, ← HMM.out]
        exact HNS.out.rows.six (Nat.le_succ _) _ _ _ _ _ _
end Go.Proofs.YtoaaeamogpdcgaaDoor
