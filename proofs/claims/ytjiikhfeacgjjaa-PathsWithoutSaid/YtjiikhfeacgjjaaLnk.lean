/-
  paths.linksOf: a table of Booleans, a row a partition.
-/
import Derived.Test.YtjiikhfeacgjjaaEqs
import Derived.Deep.RegionLaw
import Derived.Deep.RegionHeld3
namespace Go.Proofs.Ytjiikhfeacgjjaa
open Go.RowKit

theorem info31 : (Try.prog.info? 31).map (fun i => (i.zero, i.size, i.bytes)) = some (some (.slice none 0 0), 1, 24) := by kernel_rfl

/-- A table of n rows of n Booleans: g is the block of the rows' headers. -/
structure Tab (g n : Nat) (R : Nat → Nat → Bool) (w : World) : Prop where
  out : w.rowIs g 31 n fun i => .slice (some ⟨g + 1 + i, 0, none⟩) n n
  rows : ∀ j, j < n → w.rowIs (g + 1 + j) 4 n fun b => .bool (R j b)
theorem Tab.keep {g n : Nat} {R : Nat → Nat → Bool} {w w' : World} (h : Tab g n R w) (hB : Below w.heap.size w w') : Tab g n R w' :=
  ⟨h.out.of_block (hB.block _ h.out.lt), fun j hj => (h.rows j hj).of_block (hB.block _ (h.rows j hj).lt)⟩
theorem Tab.congr {g n : Nat} {R S : Nat → Nat → Bool} {w : World} (h : Tab g n R w) (e : ∀ a b, a < n → b < n → R a b = S a b) : Tab g n S w :=
  ⟨h.out, fun j hj => (h.rows j hj).congr fun i hi => by rw [e j i hj hi]⟩
theorem Tab.set {g n : Nat} {R : Nat → Nat → Bool} {w : World} (h : Tab g n R w) (a b : Nat) : Tab g n (fun i j => R i j || (decide (i = a) && decide (j = b))) (w.setCell ⟨g + 1 + a, b, none⟩ (.bool true)) := by
  refine ⟨h.out.setOther (by simp; omega) _, fun j hj => ?_⟩
  by_cases e : j = a
  · subst e
    refine ((h.rows j hj).set b (.bool true)).congr fun i hi => ?_
    by_cases e2 : i = b
    · subst e2
      simp
    · simp [e2]
  · refine ((h.rows j hj).setOther (by simp; omega) _).congr fun i hi => ?_
    simp [e]
theorem Tab.only {g b n : Nat} {R : Nat → Nat → Bool} {w w' : World} (h : Tab g n R w) (hB : Only b w.heap.size w w') (hb : g + n < b) : Tab g n R w' :=
  ⟨hB.row h.out (by omega), fun j hj => hB.row (h.rows j hj) (by omega)⟩

/-- The first loop: k rows are made. -/
structure Mk (g n : Nat) (k : Nat) (w0 w : World) : Prop where
  bel : Below g w0 w
  size : w.heap.size = g + 1 + k
  out : w.rowIs g 31 n fun i => if i < k then .slice (some ⟨g + 1 + i, 0, none⟩) n n else .slice none 0 0
  rows : ∀ j, j < k → w.rowIs (g + 1 + j) 4 n fun _ => .bool false
theorem Mk.start (n : Nat) (w : World) : Mk w.heap.size n 0 w (w.alloc (.cells (madeCells #[.slice none 0 0] n) 31)) :=
  ⟨(Below.refl _ _).alloc (Nat.le_refl _) _, by simp, (World.rowIs_made w (.slice none 0 0) n 31).congr fun i hi => by rw [if_neg (by omega)], fun j hj => by omega⟩
theorem Mk.next {g n k : Nat} {w0 w : World} (h : Mk g n k w0 w) (hk : k < n) : Mk g n (k + 1) w0 ((w.alloc (.cells (madeCells #[.bool false] n) 4)).setCell ⟨g, k, none⟩ (.slice (some ⟨w.heap.size, 0, none⟩) n n)) := by
  refine ⟨(h.bel.alloc (by have := h.size; omega) _).setCell (Nat.le_refl _) _, by simp [h.size]; omega, (((h.out.alloc _).set k _).congr fun i hi => ?_), fun j hj => ?_⟩
  · by_cases e : i = k
    · subst e
      rw [if_pos rfl, if_pos (by omega), h.size]
    · rw [if_neg e]
      by_cases e2 : i < k
      · rw [if_pos e2, if_pos (by omega)]
      · rw [if_neg e2, if_neg (by omega)]
  · by_cases e : j = k
    · subst e
      have := World.rowIs_made w (.bool false) n 4
      rw [h.size] at this
      exact this.setOther (by simp; omega) _
    · exact ((h.rows j (by omega)).alloc _).setOther (by simp; omega) _
theorem Mk.tab {g n : Nat} {w0 w : World} (h : Mk g n n w0 w) (R : Nat → Nat → Bool) (hR : ∀ a b, R a b = false) : Tab g n R w :=
  ⟨h.out.congr fun i hi => by rw [if_pos hi], fun j hj => (h.rows j hj).congr fun i hi => by rw [hR]⟩

/-- Behind k channels. -/
structure LI (g n N : Nat) (hs : List ChanA) (k : Nat) (w0 w : World) : Prop where
  bel : Below g w0 w
  tab : Tab g n (lnkB N (hs.take k)) w
theorem LI.keep {g n N : Nat} {hs : List ChanA} {k : Nat} {w0 w w' : World} (h : LI g n N hs k w0 w) (hB : Below w.heap.size w w') : LI g n N hs k w0 w' :=
  ⟨h.bel.trans (hB.mono (Nat.le_of_lt h.tab.out.lt)), h.tab.keep hB⟩
theorem lnk_take {N k : Nat} {hs : List ChanA} (h : k < hs.length) (a b : Nat) : lnkB N (hs.take (k + 1)) a b = (lnkB N (hs.take k) a b || lnk1 N (hs.getD k dC) a b) := by
  unfold lnkB
  rw [List.take_succ_eq_append_getElem h, List.any_append, List.getD_eq_getElem?_getD, List.getElem?_eq_getElem h]
  simp
theorem ChansAt.cell {w : World} {b o : Nat} {hs : List ChanA} (h : ChansAt w (some ⟨b, o, none⟩) hs) {k : Nat} (hk : k < hs.length) {c : ChanA} (hc : c = hs.getD k dC) :
    w.cell? ⟨b, o + k * 6, none⟩ = some (.int .u8 c.1) ∧ w.cell? ⟨b, o + k * 6 + 1, none⟩ = some (.int .u8 c.2.1) ∧ w.cell? ⟨b, o + k * 6 + 2, none⟩ = some (.int .u8 c.2.2.1) ∧ w.cell? ⟨b, o + k * 6 + 3, none⟩ = some (.int .u8 c.2.2.2.1) ∧ w.cell? ⟨b, o + k * 6 + 4, none⟩ = some (.int .u8 c.2.2.2.2.1) ∧ w.cell? ⟨b, o + k * 6 + 5, none⟩ = some (.int .u16 c.2.2.2.2.2) := by
  subst hc
  exact ⟨Arr.at (j := 0) h hk rfl, Arr.at (j := 1) h hk rfl, Arr.at (j := 2) h hk rfl, Arr.at (j := 3) h hk rfl, Arr.at (j := 4) h hk rfl, Arr.at (j := 5) h hk rfl⟩
/-- What linksOf leaves. -/
def LnkP (n N : Nat) (hs : List ChanA) (w : World) (e : Ending) (w' : World) : Prop := ∃ g, e = .returned (.slice (some ⟨g, 0, none⟩) n n) ∧ w.heap.size ≤ g ∧ Tab g n (lnkB N hs) w' ∧ Below w.heap.size w w'

set_option maxHeartbeats 4000000 in
set_option maxRecDepth 100000 in
theorem links_any (P : PlanA) (L : PlanL) (w : World) (hP : PlanAt w P L) (hw : WfPlan P) (hl : P.2.2.1.length ≤ 140737488355328) (hl3 : P.2.2.2.1.length ≤ 140737488355328) :
    Calls Try.prog 28 #[planV P L] w fun e w' => LnkP (min P.2.2.1.length 256) P.2.2.1.length P.2.2.2.1 w e w' := by
  have HN := Lib.hid (fun W => named_any P L W hl)
  have HBT := Lib.hid (fun c W hc => isBtw_any P L c W hl hc)
  have hc := hw.2.2.2.1
  have hch := hP.chans
  obtain ⟨fr, cs, ps, hs, rs⟩ := P
  obtain ⟨A1, c1, A2, c2, A3, c3, A4, c4⟩ := L
  have HPB := Lib.hid (PBn.new w fr A1 cs.length c1 A2 ps.length c2 A3 hs.length c3 A4 rs.length c4)
  have HB0 : Hid (Below w.heap.size w (w.alloc (.cells #[.int .u16 fr, .slice A1 cs.length c1, .slice A2 ps.length c2, .slice A3 hs.length c3, .slice A4 rs.length c4] 28))) := (Below.refl _ _).alloc (Nat.le_refl _) _
  simp only [planV, cv] at *
  obtain ⟨N, hN⟩ : ∃ N, N = ps.length := ⟨_, rfl⟩
  obtain ⟨m, hm⟩ : ∃ m, m = hs.length := ⟨_, rfl⟩
  obtain ⟨n, hn⟩ : ∃ n, n = min N 256 := ⟨_, rfl⟩
  rw [← hN] at HN HBT HPB HB0 hl ⊢
  rw [← hn] at HN ⊢
  rw [← hm] at HN HBT HPB HB0 hl3 ⊢
  have n0 : n ≤ 256 := by omega
  have n1 : ∀ a, a < N → a ≤ 255 → a < n := by omega
  have N1 := Lib.hid n1
  have HM := Lib.hid hm
  have HC := Lib.hid hc
  have HCH := Lib.hid hch
  have hmk := fun W => run_make_row' (P := Try.prog) 62 31 (.slice none 0 0) 24 Try.underlying62 info31 rfl .i64 .i64 n (by omega) (by omega) W
  have hmk2 := fun W => run_make_row' (P := Try.prog) 31 4 (.bool false) 1 Try.underlying31 info4 rfl .i64 .i64 n (by omega) (by omega) W
  clear hw hP hN hm hn hc hch n1
  go_enter Try.func28, Try.ntmps28
  go_wp2_with fail
  refine (HN.out _).mono ?_
  rintro e w1 ⟨rfl, hB⟩
  have HPB1 := Lib.hid (HPB.out.keep hB)
  have HB1 := Lib.hid (below_two HB0.out hB)
  have hlt : w.heap.size < w1.heap.size := cell_lt (HPB1.out).1
  have HM0 := Lib.hid (Mk.start n w1)
  clear hB
  go_wp2_with fail
  go_loopw [13] (fun i wr => ∃ k : Nat, k ≤ n ∧ i = .int .i64 k ∧ Mk w1.heap.size n k w1 wr) (fun i _ => n - (intOf i).toNat)
  case atStart => exact ⟨0, Nat.zero_le _, rfl, HM0.out⟩
  case round =>
    obtain ⟨k, hk, rfl, hM⟩ := hrel
    have HMK := Lib.hid hM
    by_cases hlt : k < n
    · have kf := (hM.out.alloc (.cells (madeCells #[.bool false] n) 4)).frozen k
      have kc := (hM.out.alloc (.cells (madeCells #[.bool false] n) 4)).cell hlt
      clear hM
      go_wp2_with fail
      go_roundw
      case rel => exact ⟨k + 1, by omega, by go_num, HMK.out.next hlt⟩
      case measure => simp [intOf]; omega
    · obtain rfl : n = k := by omega
      have HL0 : Hid (LI w1.heap.size n N hs 0 w1 wr) := ⟨hM.bel, hM.tab _ fun _ _ => rfl⟩
      obtain ⟨k0, k1, k2, k3, k4⟩ := HPB1.out.keep hM.bel
      clear hM HMK hk hlt
      go_wp2_with fail
      go_loopw [25] (fun i wr => ∃ k : Nat, k ≤ m ∧ i = .int .i64 k ∧ LI w1.heap.size n N hs k w1 wr) (fun i _ => m - (intOf i).toNat)
      case atStart => exact ⟨0, Nat.zero_le _, rfl, HL0.out⟩
      case round =>
        obtain ⟨k, hk, rfl, hI⟩ := hrel
        clear k0 k1 k2 k3 k4
        obtain ⟨k0, k1, k2, k3, k4⟩ := HPB1.out.keep hI.bel
        have HI := Lib.hid hI
        by_cases hlt2 : k < m
        · have hlm : k < hs.length := by rw [← HM.out]; exact hlt2
          obtain ⟨b, o, rfl⟩ := Arr.head HCH.out hlm
          have hw := HC.out _ (getD_mem dC hlm)
          obtain ⟨⟨x0, x1, x2, x3, x4, x5⟩, hx⟩ : ∃ x, x = hs.getD k dC := ⟨_, rfl⟩
          have HTK := Lib.hid (fun a b => lnk_take (N := N) hlm a b)
          rw [← hx] at hw HTK
          have cc := ChansAt.cell (Arr.keep (Arr.keep HCH.out (below_two HB1.out hI.bel)) (Below.refl _ _)) hlm hx
          obtain ⟨c0, c1, c2, c3, c4, c5⟩ := cc
          dsimp only at c0 c1 c2 c3 c4 c5
          have HBC := Lib.hid (fun W => HBT.out (x0, x1, x2, x3, x4, x5) W hw)
          obtain ⟨hw0, ⟨f0, f1⟩, ⟨t0, t1⟩, -⟩ := hw
          dsimp only at f0 f1 t0 t1 HBC
          obtain ⟨fa, rfl⟩ : ∃ a : Nat, x1 = a := ⟨x1.toNat, by omega⟩
          obtain ⟨ta, rfl⟩ : ∃ a : Nat, x2 = a := ⟨x2.toNat, by omega⟩
          have hba : Below wr.heap.size wr (wr.alloc (.cells #[.int .u8 x0, .int .u8 fa, .int .u8 ta, .int .u8 x3, .int .u8 x4, .int .u16 x5] 44)) := (Below.refl _ _).alloc (Nat.le_refl _) _
          have HCB := Lib.hid (CB.new wr x0 fa ta x3 x4 x5)
          have HBA := Lib.hid hba
          obtain ⟨z0, z1, z2, z3, z4⟩ := (HPB1.out.keep hI.bel).keep hba
          obtain ⟨q, hq⟩ : ∃ q, q = btwB N (x0, ↑fa, ↑ta, x3, x4, x5) := ⟨_, rfl⟩
          rw [← hq] at HBC
          have HQ := Lib.hid hq
          clear hI hx hq hba
          cases q
          · go_wp2_with fail
            with_reducible refine (HBC.out _).mono ?_
            rintro e w2 ⟨rfl, hB⟩
            have HB2 := Lib.hid (below_two HBA.out hB)
            clear hB
            go_wp2_with fail
            go_roundw
            case rel =>
              have h1 := HI.out.keep HB2.out
              refine ⟨k + 1, by omega, by go_num, h1.bel, h1.tab.congr fun a b _ _ => ?_⟩
              rw [HTK.out]
              unfold lnk1
              rw [← HQ.out]
              simp
            case measure => simp [intOf]; omega
          · have hft := HQ.out
            unfold btwB isB at hft
            simp only [Bool.true_eq, Bool.and_eq_true, decide_eq_true_eq] at hft
            have hfn := N1.out fa (by omega) (by omega)
            have htn := N1.out ta (by omega) (by omega)
            go_wp2_with fail
            with_reducible refine (HBC.out _).mono ?_
            rintro e w2 ⟨rfl, hB⟩
            obtain ⟨m0, m1, m2, m3, m4, m5⟩ := HCB.out.keep hB
            dsimp only at m0 m1 m2 m3 m4 m5
            have h1 := HI.out.keep (below_two HBA.out hB)
            have HI2 := Lib.hid h1
            have p1 := h1.tab.out.cell hfn
            have p2 := h1.tab.out.cell htn
            have f1' := (h1.tab.rows fa hfn).frozen ta
            have f2' := (h1.tab.rows ta htn).frozen fa
            have r1 := (h1.tab.rows fa hfn).cell htn
            have r2 := (h1.tab.rows ta htn).cell hfn
            have i1 : (0 : Int) ≤ (fa : Int) := Int.natCast_nonneg _
            have i2 : (fa : Int) < (n : Int) := by omega
            have i3 : (0 : Int) ≤ (ta : Int) := Int.natCast_nonneg _
            have i4 : (ta : Int) < (n : Int) := by omega
            clear hB h1 z0 z1 z2 z3 z4 c0 c1 c2 c3 c4 c5 k0 k1 k2 k3 k4
            have hgw : w1.heap.size < wr.heap.size := HI.out.tab.out.lt
            have hgr : w1.heap.size + 1 + fa < wr.heap.size := (HI.out.tab.rows fa hfn).lt
            have hgt : w1.heap.size + 1 + ta < wr.heap.size := (HI.out.tab.rows ta htn).lt
            have s1 : (w2.setCell ⟨w1.heap.size + 1 + fa, ta, none⟩ (.bool true)).cell? ⟨w1.heap.size, fa, none⟩ = some (.slice (some ⟨w1.heap.size + 1 + fa, 0, none⟩) n n) := by rw [World.cell?_setCell_other _ _ _ _ (fun e => by injection e with e1 _ _; omega)]; exact p1
            have s2 : (w2.setCell ⟨w1.heap.size + 1 + fa, ta, none⟩ (.bool true)).cell? ⟨wr.heap.size, 1, none⟩ = some (.int .u8 fa) := by rw [World.cell?_setCell_other _ _ _ _ (fun e => by injection e with e1 _ _; omega)]; exact m1
            have s3 : (w2.setCell ⟨w1.heap.size + 1 + fa, ta, none⟩ (.bool true)).cell? ⟨wr.heap.size, 2, none⟩ = some (.int .u8 ta) := by rw [World.cell?_setCell_other _ _ _ _ (fun e => by injection e with e1 _ _; omega)]; exact m2
            go_wp2_with fail
            go_region_held3 (fun w' => w'.cell? ⟨w1.heap.size, fa, none⟩ = some (.slice (some ⟨w1.heap.size + 1 + fa, 0, none⟩) n n) ∧ w'.cell? ⟨wr.heap.size, 1, none⟩ = some (.int .u8 fa) ∧ w'.cell? ⟨wr.heap.size, 2, none⟩ = some (.int .u8 ta)) (go_keep) (fail)
            rename_i hS
            obtain ⟨w3, hw3⟩ : ∃ w3, w3 = (w2.setCell ⟨w1.heap.size + 1 + fa, ta, none⟩ (.bool true)).drew := ⟨_, rfl⟩
            rw [← hw3]
            have hT3 : Tab w1.heap.size n (fun i j => lnkB N (hs.take k) i j || (decide (i = fa) && decide (j = ta))) w3 := by
              rw [hw3]
              exact (HI2.out.tab.set fa ta).keep (Below.refl _ _).drew
            have hB3 : Below w1.heap.size w1 w3 := by
              rw [hw3]
              exact (HI2.out.bel.setCell (by simp; omega) _).drew
            have k0 : w3.cell? ⟨wr.heap.size, 0, none⟩ = some (.int .u8 x0) := by rw [hw3]; exact (World.cell?_setCell_other _ _ _ _ (fun e => by injection e with e1 _ _; omega)).trans m0
            have k1 : w3.cell? ⟨wr.heap.size, 1, none⟩ = some (.int .u8 fa) := by rw [hw3]; exact s2
            have k2 : w3.cell? ⟨wr.heap.size, 2, none⟩ = some (.int .u8 ta) := by rw [hw3]; exact s3
            have p3 := hT3.out.cell htn
            have f3 := (hT3.rows ta htn).frozen fa
            have r3 := (hT3.rows ta htn).cell hfn
            have HT3 := Lib.hid hT3
            have HB3 := Lib.hid hB3
            clear hS hw3 hT3 hB3 s1 s2 s3 m0 m1 m2 m3 m4 m5 p1 p2 f1' f2' r1 r2
            by_cases hx0 : x0 = 0
            · subst hx0
              have s1 : (w3.setCell ⟨w1.heap.size + 1 + ta, fa, none⟩ (.bool true)).cell? ⟨w1.heap.size, ta, none⟩ = some (.slice (some ⟨w1.heap.size + 1 + ta, 0, none⟩) n n) := by rw [World.cell?_setCell_other _ _ _ _ (fun e => by injection e with e1 _ _; omega)]; exact p3
              have s2 : (w3.setCell ⟨w1.heap.size + 1 + ta, fa, none⟩ (.bool true)).cell? ⟨wr.heap.size, 1, none⟩ = some (.int .u8 fa) := by rw [World.cell?_setCell_other _ _ _ _ (fun e => by injection e with e1 _ _; omega)]; exact k1
              have s3 : (w3.setCell ⟨w1.heap.size + 1 + ta, fa, none⟩ (.bool true)).cell? ⟨wr.heap.size, 2, none⟩ = some (.int .u8 ta) := by rw [World.cell?_setCell_other _ _ _ _ (fun e => by injection e with e1 _ _; omega)]; exact k2
              go_wp2_with fail
              go_region_held3 (fun w' => w'.cell? ⟨w1.heap.size, ta, none⟩ = some (.slice (some ⟨w1.heap.size + 1 + ta, 0, none⟩) n n) ∧ w'.cell? ⟨wr.heap.size, 1, none⟩ = some (.int .u8 fa) ∧ w'.cell? ⟨wr.heap.size, 2, none⟩ = some (.int .u8 ta)) (go_keep) (fail)
              go_wp2_with fail
              go_roundw
              case rel =>
                refine ⟨k + 1, by omega, by go_num, (HB3.out.setCell (by simp; omega) _).drew, ((HT3.out.set ta fa).keep (Below.refl _ _).drew).congr fun a b _ _ => ?_⟩
                rw [HTK.out]
                unfold lnk1
                rw [← HQ.out]
                simp only [Bool.true_and, Bool.or_assoc, Int.natCast_inj, decide_true]
                congr 2 <;> (rw [Bool.eq_iff_iff]; simp; omega)
              case measure => simp [intOf]; omega
            · have hx : (x0 == 0) = false := by simpa using hx0
              have HX := Lib.hid hx0
              clear hx0
              go_wp2_with fail
              go_roundw
              case rel =>
                refine ⟨k + 1, by omega, by go_num, HB3.out, HT3.out.congr fun a b _ _ => ?_⟩
                rw [HTK.out]
                unfold lnk1
                rw [← HQ.out]
                simp only [Bool.true_and, Int.natCast_inj, decide_eq_false HX.out, Bool.false_and, Bool.or_false]
                congr 1
                rw [Bool.eq_iff_iff]; simp; omega
              case measure => simp [intOf]; omega
        · obtain rfl : m = k := by omega
          have hT := hI.tab
          rw [HM.out, List.take_length] at hT
          have HT := Lib.hid hT
          clear hT hI hk hlt2
          go_wp2_with fail
          go_ret
          exact ⟨_, rfl, HB1.out.size, HT.out, HB1.out.trans (HI.out.bel.mono HB1.out.size)⟩
end Go.Proofs.Ytjiikhfeacgjjaa
