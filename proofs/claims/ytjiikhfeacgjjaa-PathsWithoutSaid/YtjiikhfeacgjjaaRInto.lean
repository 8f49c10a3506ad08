/-
  The document's answer: which partitions have a path into one.
-/
import Derived.Test.YtjiikhfeacgjjaaApartW
namespace Go.Proofs.Ytjiikhfeacgjjaa
open Go.RowKit

/-- What a round knows: K is what is known. -/
structure KI (g N : Nat) (K : Nat → Bool) (w0 w : World) : Prop where
  bel : Below g w0 w
  row : w.rowIs g 4 N fun i => .bool (K i)
theorem KI.keep {g N : Nat} {K : Nat → Bool} {w0 w w' : World} (h : KI g N K w0 w) (hB : Below w.heap.size w w') : KI g N K w0 w' :=
  ⟨h.bel.trans (hB.mono (Nat.le_of_lt h.row.lt)), h.row.of_block (hB.block _ h.row.lt)⟩
theorem KI.congr {g N : Nat} {K K' : Nat → Bool} {w0 w : World} (h : KI g N K w0 w) (e : ∀ i, K i = K' i) : KI g N K' w0 w := ⟨h.bel, h.row.congr fun i _ => by rw [e]⟩
theorem KI.set {g N : Nat} {K : Nat → Bool} {w0 w : World} (h : KI g N K w0 w) (j : Nat) : KI g N (upd K j) w0 (w.setCell ⟨g, j, none⟩ (.bool true)) :=
  ⟨h.bel.setCell (Nat.le_refl _) _, (h.row.set j (.bool true)).congr fun i _ => by unfold upd; split <;> rfl⟩
theorem fold_take {n k : Nat} {K : Nat → Bool} {hs : List ChanA} (h : k < hs.length) : foldK n K (hs.take (k + 1)) = stepK n (foldK n K (hs.take k)) (hs.getD k dC) := by
  rw [List.take_succ_eq_append_getElem h, foldK_snoc, List.getD_eq_getElem?_getD, List.getElem?_eq_getElem h]
  rfl

set_option maxHeartbeats 8000000 in
set_option maxRecDepth 100000 in
theorem refInto_yes (P : PlanA) (L : PlanL) (t : Nat) (w : World) (hP : PlanAt w P L) (hw : WfPlan P) (hl : P.2.2.1.length ≤ 140737488355328) (hl3 : P.2.2.2.1.length ≤ 140737488355328) (ht : t < P.2.2.1.length) :
    Calls Try.prog 13 #[planV P L, .int .i64 t] w fun e w' => BoolsP P.2.2.1.length (fun i => pathB P.2.2.1.length P.2.2.2.1 i t) w e w' := by
  have HI := Lib.hid (fun W => is_any P L t W hl)
  rw [isB_nat ht] at HI
  have HBT := Lib.hid (fun c W hc => right_any P L c W hl hc)
  have hc := hw.2.2.2.1
  have hch := hP.chans
  obtain ⟨fr, cs, ps, hs, rs⟩ := P
  obtain ⟨A1, c1, A2, c2, A3, c3, A4, c4⟩ := L
  have HPB := Lib.hid (PBn.new w fr A1 cs.length c1 A2 ps.length c2 A3 hs.length c3 A4 rs.length c4)
  have HB0 : Hid (Below w.heap.size w (w.alloc (.cells #[.int .u16 fr, .slice A1 cs.length c1, .slice A2 ps.length c2, .slice A3 hs.length c3, .slice A4 rs.length c4] 28))) := (Below.refl _ _).alloc (Nat.le_refl _) _
  simp only [planV, cv] at *
  have HPK := Lib.hid (fun i => rndK_path (n := ps.length) hc ht i)
  obtain ⟨N, hN⟩ : ∃ N, N = ps.length := ⟨_, rfl⟩
  obtain ⟨m, hm⟩ : ∃ m, m = hs.length := ⟨_, rfl⟩
  rw [← hN] at HI HBT HPB HB0 HPK hl ht ⊢
  rw [← hm] at HI HBT HPB HB0 hl3
  rw [← hm]
  have HM := Lib.hid hm
  have HC := Lib.hid hc
  have HCH := Lib.hid hch
  have hmk := fun W => run_make_row' (P := Try.prog) 31 4 (.bool false) 1 Try.underlying31 info4 rfl .i64 .i64 N (by omega) (by omega) W
  have i0 : (0 : Int) ≤ (t : Int) := Int.natCast_nonneg _
  have i1 : (t : Int) < (N : Int) := by omega
  have hmc : (madeCells #[Value.bool false] N)[t]? = some (.bool false) := by simp [madeCells, ht, Nat.mod_one]
  clear hw hP hN hm hc hch
  go_enter Try.func13, Try.ntmps13
  go_wp2_with fail
  refine (HI.out _).mono ?_
  rintro e w1 ⟨rfl, hB⟩
  have HPB1 := Lib.hid (HPB.out.keep hB)
  have HB1 := Lib.hid (below_two HB0.out hB)
  have HK0 : Hid (KI w1.heap.size N (rndK N hs t 0) w1 (w1.alloc (.cells ((madeCells #[.bool false] N).setIfInBounds t (.bool true)) 4))) := ⟨(Below.refl _ _).alloc (Nat.le_refl _) _, made_row N t w1⟩
  obtain ⟨k0, k1, k2, k3, k4⟩ := HPB1.out
  clear hB
  go_wp2_with fail
  go_loopw [7] (fun i wr => ∃ r : Nat, r ≤ N ∧ i = .int .i64 r ∧ KI w1.heap.size N (rndK N hs t r) w1 wr) (fun i _ => N - (intOf i).toNat)
  case atStart => exact ⟨0, Nat.zero_le _, rfl, HK0.out⟩
  case round =>
    obtain ⟨r, hr, rfl, hK⟩ := hrel
    have HK := Lib.hid hK
    clear k0 k1 k2 k3 k4
    obtain ⟨k0, k1, k2, k3, k4⟩ := HPB1.out.keep hK.bel
    clear hK
    by_cases hlt : r < N
    · have HF0 : Hid (KI w1.heap.size N (foldK N (rndK N hs t r) (hs.take 0)) w1 wr) := HK.out
      go_wp2_with fail
      go_loopw [8] (fun i wr => ∃ k : Nat, k ≤ m ∧ i = .int .i64 k ∧ KI w1.heap.size N (foldK N (rndK N hs t r) (hs.take k)) w1 wr) (fun i _ => m - (intOf i).toNat)
      case atStart => exact ⟨0, Nat.zero_le _, rfl, HF0.out⟩
      case round =>
        obtain ⟨k, hk, rfl, hI⟩ := hrel
        clear k0 k1 k2 k3 k4
        obtain ⟨k0, k1, k2, k3, k4⟩ := HPB1.out.keep hI.bel
        have HIJ := Lib.hid hI
        by_cases hlt2 : k < m
        · have hlm : k < hs.length := by rw [← HM.out]; exact hlt2
          obtain ⟨b, o, rfl⟩ := Arr.head HCH.out hlm
          have hw := HC.out _ (getD_mem dC hlm)
          obtain ⟨⟨x0, x1, x2, x3, x4, x5⟩, hx⟩ : ∃ x, x = hs.getD k dC := ⟨_, rfl⟩
          have HTK := Lib.hid (fold_take (n := N) (K := rndK N hs t r) hlm)
          rw [← hx] at hw HTK
          have cc := ChansAt.cell (Arr.keep HCH.out (below_two HB1.out hI.bel)) hlm hx
          obtain ⟨c0, c1, c2, c3, c4, c5⟩ := cc
          dsimp only at c0 c1 c2 c3 c4 c5
          have HBC := Lib.hid (fun W => HBT.out (x0, x1, x2, x3, x4, x5) W hw)
          obtain ⟨hw0, ⟨f0, f1⟩, ⟨t0, t1⟩, -⟩ := hw
          dsimp only at f0 f1 t0 t1 HBC
          obtain ⟨fa, rfl⟩ : ∃ a : Nat, x1 = a := ⟨x1.toNat, by omega⟩
          obtain ⟨ta, rfl⟩ : ∃ a : Nat, x2 = a := ⟨x2.toNat, by omega⟩
          have hba : Below wr.heap.size wr (wr.alloc (.cells #[.int .u8 x0, .int .u8 fa, .int .u8 ta, .int .u8 x3, .int .u8 x4, .int .u16 x5] 44)) := (Below.refl _ _).alloc (Nat.le_refl _) _
          have HCB := Lib.hid (CB.new wr x0 fa ta x3 x4 x5)
          have HBA := Lib.hid hba
          obtain ⟨z0, z1, z2, z3, z4⟩ := (HPB1.out.keep hI.bel).keep hba
          obtain ⟨K, hKK⟩ : ∃ K, K = foldK N (rndK N hs t r) (hs.take k) := ⟨_, rfl⟩
          rw [← hKK] at HTK HIJ
          obtain ⟨q, hq⟩ : ∃ q, q = btwB N (x0, ↑fa, ↑ta, x3, x4, x5) := ⟨_, rfl⟩
          rw [← hq] at HBC
          have HQ := Lib.hid hq
          clear hI hx hq hba hKK
          cases q
          · go_wp2_with fail
            with_reducible refine (HBC.out _).mono ?_
            rintro e w2 ⟨rfl, hB⟩
            have HB2 := Lib.hid (below_two HBA.out hB)
            clear hB
            go_wp2_with fail
            go_roundw
            case rel =>
              refine ⟨k + 1, by omega, by go_num, (HIJ.out.keep HB2.out).congr fun i => ?_⟩
              rw [HTK.out]
              unfold stepK
              rw [← HQ.out]
              rfl
            case measure => simp [intOf]; omega
          · have hft := HQ.out
            unfold btwB isB at hft
            simp only [Bool.true_eq, Bool.and_eq_true, decide_eq_true_eq] at hft
            have hfn : fa < N := by omega
            have htn : ta < N := by omega
            go_wp2_with fail
            with_reducible refine (HBC.out _).mono ?_
            rintro e w2 ⟨rfl, hB⟩
            obtain ⟨m0, m1, m2, m3, m4, m5⟩ := HCB.out.keep hB
            dsimp only at m0 m1 m2 m3 m4 m5
            have h1 := HIJ.out.keep (below_two HBA.out hB)
            have HI2 := Lib.hid h1
            have hgw : w1.heap.size < wr.heap.size := HIJ.out.row.lt
            have rf := h1.row.frozen fa
            have rt := h1.row.frozen ta
            have r1 := h1.row.cell hfn
            have r2 := h1.row.cell htn
            have i1 : (0 : Int) ≤ (fa : Int) := Int.natCast_nonneg _
            have i2 : (fa : Int) < (N : Int) := by omega
            have i3 : (0 : Int) ≤ (ta : Int) := Int.natCast_nonneg _
            have i4 : (ta : Int) < (N : Int) := by omega
            obtain ⟨x, hx⟩ : ∃ x, x = K ta := ⟨_, rfl⟩
            obtain ⟨y, hy⟩ : ∃ y, y = K fa := ⟨_, rfl⟩
            rw [← hx] at r2
            rw [← hy] at r1
            have HX := Lib.hid hx
            have HY := Lib.hid hy
            have HST : Hid (∀ i, stepK N K (x0, ↑fa, ↑ta, x3, x4, x5) i = stepB (stepA K (x0, ↑fa, ↑ta, x3, x4, x5)) (x0, ↑fa, ↑ta, x3, x4, x5) i) := fun i => by unfold stepK; rw [← HQ.out]; rfl
            clear hB h1 z0 z1 z2 z3 z4 c0 c1 c2 c3 c4 c5 k0 k1 k2 k3 k4 hx hy
            cases x
            · have HA : Hid (stepA K (x0, ↑fa, ↑ta, x3, x4, x5) = K) := by
                show stepA K _ = K
                unfold stepA
                rw [if_neg (by simp [← HX.out])]
              by_cases hx0 : x0 = 0
              · subst hx0
                cases y
                · go_wp2_with fail
                  go_roundw
                  case rel =>
                    refine ⟨k + 1, by omega, by go_num, HI2.out.congr fun i => ?_⟩
                    rw [HTK.out, HST.out, HA.out]
                    unfold stepB
                    rw [if_neg (by simp [← HY.out])]
                  case measure => simp [intOf]; omega
                · go_wp2_with fail
                  go_roundw
                  case rel =>
                    refine ⟨k + 1, by omega, by go_num, (HI2.out.set ta).congr fun i => ?_⟩
                    rw [HTK.out, HST.out, HA.out]
                    unfold stepB
                    rw [if_pos (by simp [← HY.out])]
                    rfl
                  case measure => simp [intOf]; omega
              · have hx : (x0 == 0) = false := by simpa using hx0
                have HX0 := Lib.hid hx0
                clear hx0
                go_wp2_with fail
                go_roundw
                case rel =>
                  refine ⟨k + 1, by omega, by go_num, HI2.out.congr fun i => ?_⟩
                  rw [HTK.out, HST.out, HA.out]
                  unfold stepB
                  rw [if_neg (by simp [HX0.out])]
                case measure => simp [intOf]; omega
            · have HA : Hid (stepA K (x0, ↑fa, ↑ta, x3, x4, x5) = upd K fa) := by
                show stepA K _ = _
                unfold stepA
                rw [if_pos (by simp [← HX.out])]
                rfl
              have HI3 := Lib.hid (HI2.out.set fa)
              have s0 : (w2.setCell ⟨w1.heap.size, fa, none⟩ (.bool true)).cell? ⟨wr.heap.size, 0, none⟩ = some (.int .u8 x0) := by rw [World.cell?_setCell_other _ _ _ _ (fun e => by injection e with e1 _ _; omega)]; exact m0
              have s1 : (w2.setCell ⟨w1.heap.size, fa, none⟩ (.bool true)).cell? ⟨wr.heap.size, 1, none⟩ = some (.int .u8 fa) := by rw [World.cell?_setCell_other _ _ _ _ (fun e => by injection e with e1 _ _; omega)]; exact m1
              have s2 : (w2.setCell ⟨w1.heap.size, fa, none⟩ (.bool true)).cell? ⟨wr.heap.size, 2, none⟩ = some (.int .u8 ta) := by rw [World.cell?_setCell_other _ _ _ _ (fun e => by injection e with e1 _ _; omega)]; exact m2
              have s3 : (w2.setCell ⟨w1.heap.size, fa, none⟩ (.bool true)).cell? ⟨w1.heap.size, fa, none⟩ = some (.bool true) := (HI3.out.row.cell hfn).trans (by simp [upd])
              have s4 : (w2.setCell ⟨w1.heap.size, fa, none⟩ (.bool true)).cell? ⟨w1.heap.size, ta, none⟩ = some (.bool true) := (HI3.out.row.cell htn).trans (by rw [upd_mono (by rw [← HX.out])])
              have s5 := HI3.out.row.frozen ta
              by_cases hx0 : x0 = 0
              · subst hx0
                go_wp2_with fail
                go_roundw
                case rel =>
                  refine ⟨k + 1, by omega, by go_num, (HI3.out.set ta).congr fun i => ?_⟩
                  rw [HTK.out, HST.out, HA.out]
                  unfold stepB
                  rw [if_pos (by simp [upd])]
                  rfl
                case measure => simp [intOf]; omega
              · have hx : (x0 == 0) = false := by simpa using hx0
                have HX0 := Lib.hid hx0
                clear hx0
                go_wp2_with fail
                go_roundw
                case rel =>
                  refine ⟨k + 1, by omega, by go_num, HI3.out.congr fun i => ?_⟩
                  rw [HTK.out, HST.out, HA.out]
                  unfold stepB
                  rw [if_neg (by simp [HX0.out])]
                case measure => simp [intOf]; omega
        · obtain rfl : m = k := by omega
          have hT := hI
          rw [HM.out, List.take_length] at hT
          have HT : Hid (KI w1.heap.size N (rndK N hs t (r + 1)) w1 wr) := hT
          clear hT hI hk hlt2
          go_wp2_with fail
          go_roundw
          case rel => exact ⟨r + 1, by omega, by go_num, HT.out⟩
          case measure => simp [intOf]; omega
    · obtain rfl : N = r := by omega
      have HF : Hid (BoolsP N (fun i => pathB N hs i t) w (.returned (.tuple #[.slice (some ⟨w1.heap.size, 0, none⟩) N N, .int .i64 0])) wr) := ⟨_, _, rfl, (Bools.of_row HK.out.row (Nat.le_refl _)).congr fun i _ => HPK.out i, HB1.out.trans (HK.out.bel.mono HB1.out.size)⟩
      clear hr hlt
      go_wp2_with fail
      go_ret2
      exact HF.out
end Go.Proofs.Ytjiikhfeacgjjaa
