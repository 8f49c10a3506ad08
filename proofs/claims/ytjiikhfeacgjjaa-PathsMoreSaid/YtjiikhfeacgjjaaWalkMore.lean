/-
  The walk of PathsMore.
-/
import Derived.Test.YtjiikhfeacgjjaaMoreB
import Derived.Deep.DeepCutAuto
namespace Go.Proofs.Ytjiikhfeacgjjaa
open Go.RowKit Go.Stop

theorem heap_alloc_at (w : World) (o : Obj) (k : Nat) (h : k = w.heap.size) : (w.alloc o).heap[k]? = some o := by
  rw [h]; exact heap_alloc_new w o
theorem MoreW.drew {P : PlanA} {L : PlanL} {c : ChanA} {bq d6 : Nat} {A6 : Option Addr} {w1 w : World} (h : MoreW P L c bq A6 d6 w1 w) : MoreW P L c bq A6 d6 w1 w.drew := h.keep (Below.refl _ _).drew
/-- What a call of Into answers. -/
def InP (n : Nat) (er : Int) (f : Nat → Bool) (w : World) (e : Ending) (w' : World) : Prop := ∃ A c, e = .returned (.tuple #[.slice A n c, .int .i64 er]) ∧ Bools w' A n f ∧ Below w.heap.size w w'
/-- Behind k of the answers. -/
def MoRel (n : Nat) (f h : Nat → Bool) (w0 : World) (s i : Value) (wr : World) : Prop := ∃ k : Nat, k ≤ n ∧ i = .int .i64 k ∧ s = .bool (eqU k f h) ∧ Below w0.heap.size w0 wr
theorem eqU_succ {k : Nat} {f h : Nat → Bool} (e : f k = h k) : eqU (k + 1) f h = eqU k f h := by
  rw [Bool.eq_iff_iff, eqU_iff, eqU_iff]
  refine ⟨fun a i hi => a i (by omega), fun a i hi => ?_⟩
  rcases Nat.lt_or_ge i k with hk | hk
  · exact a i hk
  · obtain rfl : i = k := by omega
    exact e
theorem eqU_zero (f h : Nat → Bool) : eqU 0 f h = true := eqU_yes fun i hi => by omega
theorem below_alloc1 (w : World) (o : Obj) : Below w.heap.size w (w.alloc o) := (Below.refl _ _).alloc (Nat.le_refl _) _

set_option maxHeartbeats 16000000 in
set_option maxRecDepth 100000 in
theorem more_core (P : PlanA) (L : PlanL) (c : ChanA) (x : Int) (n : Nat) (er : Int) (f h : Nat → Bool) (w : World) (hP : PlanAt w P L) (hO : POk P L) (hnil : L.a3 = none → L.c3 = 0) (hc : WfChan c) (hn : n ≤ 140737488355328)
    (H1 : ∀ W, PlanAt W P L → Calls Try.prog 12 #[planV P L, .int .i64 x] W fun e w' => InP n er f W e w')
    (H2 : P.2.2.2.1.length ≤ 1000 → ∀ A d W, PlanAt W (P.1, P.2.1, P.2.2.1, P.2.2.2.1 ++ [c], P.2.2.2.2) ⟨L.a1, L.c1, L.a2, L.c2, A, d, L.a4, L.c4⟩ → Calls Try.prog 12 #[planV (P.1, P.2.1, P.2.2.1, P.2.2.2.1 ++ [c], P.2.2.2.2) ⟨L.a1, L.c1, L.a2, L.c2, A, d, L.a4, L.c4⟩, .int .i64 x] W fun e w' => InP n er h W e w')
    (hm : ∀ i, i < n → f i = true → h i = true) (her : er = 0 ∨ er = 70)
    (he : er = 0 → ¬ (c.2.2.1.toNat < n ∧ f c.2.2.1.toNat = true) → ¬ (c.1 = 0 ∧ c.2.1.toNat < n ∧ f c.2.1.toNat = true) → ∀ i, i < n → f i = h i) :
    Calls Try.prog 7 #[planV P L, cv c, .int .i64 x] w fun e w' => e = .returned (.bool true) ∧ Below w.heap.size w w' := by
  have HFEW := Lib.hid (fun W hP => few_any P L W hP hO)
  have HMO := Lib.hid (fun bq A6 d6 base w1 w10 hP => more_at2 (P := P) (L := L) (c := c) (bq := bq) (d6 := d6) (base := base) (A6 := A6) (w1 := w1) (w10 := w10) hP)
  have HI1 := Lib.hid H1
  have HI2 := Lib.hid H2
  have HMM := Lib.hid hm
  have HEE := Lib.hid he
  have HER := Lib.hid her
  have HP := Lib.hid hP
  have HNIL := Lib.hid hnil
  have HNN := Lib.hid hn
  clear hP hO hnil H1 H2 hm he her hn
  obtain ⟨fr, cs, ps, hs, rs⟩ := P
  obtain ⟨A1, c1, A2, c2, A3, c3, A4, c4⟩ := L
  obtain ⟨y0, y1, y2, y3, y4, y5⟩ := c
  obtain ⟨_, ⟨b10, b11⟩, ⟨b20, b21⟩, _⟩ := hc
  dsimp only at b10 b11 b20 b21
  obtain ⟨p, rfl⟩ := Int.eq_ofNat_of_zero_le b10
  obtain ⟨t, rfl⟩ := Int.eq_ofNat_of_zero_le b20
  have HB0 : Hid (Below w.heap.size w ((w.alloc (.cells #[.int .u16 fr, .slice A1 cs.length c1, .slice A2 ps.length c2, .slice A3 hs.length c3, .slice A4 rs.length c4] 28)).alloc (.cells #[.int .u8 y0, .int .u8 (p : Int), .int .u8 (t : Int), .int .u8 y3, .int .u8 y4, .int .u16 y5] 44))) := ((Below.refl _ _).alloc (Nat.le_refl _) _).alloc (by simp) _
  have HPB := Lib.hid ((PBn.new w fr A1 cs.length c1 A2 ps.length c2 A3 hs.length c3 A4 rs.length c4).alloc (.cells #[.int .u8 y0, .int .u8 (p : Int), .int .u8 (t : Int), .int .u8 y3, .int .u8 y4, .int .u16 y5] 44))
  have hcb := CB.new (w.alloc (.cells #[.int .u16 fr, .slice A1 cs.length c1, .slice A2 ps.length c2, .slice A3 hs.length c3, .slice A4 rs.length c4] 28)) y0 (p : Int) (t : Int) y3 y4 y5
  rw [show (w.alloc (.cells #[.int .u16 fr, .slice A1 cs.length c1, .slice A2 ps.length c2, .slice A3 hs.length c3, .slice A4 rs.length c4] 28)).heap.size = w.heap.size + 1 by simp] at hcb
  have HCB := Lib.hid hcb
  simp only [planV, cv, List.length_append, List.length_cons, List.length_nil, Nat.zero_add] at HFEW HI1 HI2 ⊢
  dsimp only at HMO HNIL HEE
  simp only [Int.toNat_natCast] at HEE
  obtain ⟨k0, k1, k2, k3, k4⟩ := HPB.out
  clear hcb
  go_enter Try.func7, Try.ntmps7
  go_wp2_with fail
  with_reducible refine (HFEW.out _ (HP.out.keep HB0.out)).mono ?_
  rintro e w1 ⟨⟨q, rfl, hb⟩, hB⟩
  have HB1 := Lib.hid (below_two HB0.out hB)
  have HPB1 := Lib.hid (HPB.out.keep hB)
  have HCB1 := Lib.hid (HCB.out.keep hB)
  have HFB := Lib.hid hb
  clear hB hb k0 k1 k2 k3 k4
  cases q
  · go_wp2_with fail
    with_reducible refine (awake_any _).mono ?_
    rintro e w2 ⟨rfl, hB⟩
    have HB2 := Lib.hid (below_two HB1.out hB)
    clear hB
    go_wp2_with fail
    go_ret
    exact ⟨rfl, HB2.out⟩
  have hF := HFB.out rfl
  have h3 := hF.l3
  dsimp only at h3
  clear hF
  obtain ⟨k0, k1, k2, k3, k4⟩ := HPB1.out
  go_wp2_with fail
  with_reducible refine (HI1.out _ (HP.out.keep HB1.out)).mono ?_
  rintro e w2 ⟨D1, e1, rfl, hD, hB⟩
  have HB2 := Lib.hid (below_two HB1.out hB)
  have HPB2 := Lib.hid (HPB1.out.keep hB)
  have HCB2 := Lib.hid (HCB1.out.keep hB)
  have HD2 := Lib.hid hD
  have HP2 := Lib.hid (HP.out.keep (below_two HB1.out hB))
  clear hB hD k0 k1 k2 k3 k4
  obtain ⟨k0, k1, k2, k3, k4⟩ := HPB2.out
  go_wp2_with fail
  have HQ3 := Lib.hid (QBox.new w2 fr (.slice A1 cs.length c1) (.slice A2 ps.length c2) (.slice A3 hs.length c3) (.slice A4 rs.length c4))
  have HB3 := Lib.hid (below_alloc1 w2 (.cells #[.int .u16 fr, .slice A1 cs.length c1, .slice A2 ps.length c2, .slice A3 hs.length c3, .slice A4 rs.length c4] 28))
  have hs3 : (w2.alloc (.cells #[.int .u16 fr, .slice A1 cs.length c1, .slice A2 ps.length c2, .slice A3 hs.length c3, .slice A4 rs.length c4] 28)).heap.size = w2.heap.size + 1 := by simp
  have HPB3 := Lib.hid (HPB2.out.keep HB3.out)
  have HCB3 := Lib.hid (HCB2.out.keep HB3.out)
  have HCH3 := Lib.hid (HP2.out.keep HB3.out).chans
  generalize w2.alloc (.cells #[.int .u16 fr, .slice A1 cs.length c1, .slice A2 ps.length c2, .slice A3 hs.length c3, .slice A4 rs.length c4] 28) = W3 at *
  have HS3 := Lib.hid hs3
  clear k0 k1 k2 k3 k4 hs3
  obtain ⟨k0, k1, k2, k3, k4⟩ := HPB3.out
  obtain ⟨m0, m1, m2, m3, m4, m5⟩ := HCB3.out
  have ka := fun o => kept k3 (below_alloc1 W3 o)
  have kb := fun o o' => kept (kept k3 (below_alloc1 W3 o)) (below_alloc1 _ o')
  have ma0 := fun o => kept m0 (below_alloc1 W3 o)
  have ma1 := fun o => kept m1 (below_alloc1 W3 o)
  have ma2 := fun o => kept m2 (below_alloc1 W3 o)
  have ma3 := fun o => kept m3 (below_alloc1 W3 o)
  have ma4 := fun o => kept m4 (below_alloc1 W3 o)
  have ma5 := fun o => kept m5 (below_alloc1 W3 o)
  obtain ⟨q0, q1, q2, q3, q4⟩ := HQ3.out.cells
  have qf := HQ3.out.frozen (j := 3)
  go_cut [27] (fun _ wx => ∃ A6 d6, MoreW (fr, cs, ps, hs, rs) ⟨A1, c1, A2, c2, A3, c3, A4, c4⟩ (y0, (p : Int), (t : Int), y3, y4, y5) w2.heap.size A6 d6 w2 wx)
  case first =>
    go_region_law ((
      first
      | (refine step_append_chans rfl _ _ rfl W3.heap.size W3.heap.size rfl (by first | exact heap_alloc_at _ _ _ (by simp) | exact (Below.heap_alloc _ _ _ (by first | (simp; done) | (simp; omega))).trans (heap_alloc_at _ _ _ (by simp))) (Nat.le_refl _) A3 c3 hs.length hs rfl rfl (Arr.keep HCH3.out (by repeat (first | exact Below.refl _ _ | refine Below.drew ?_ | refine Below.alloc ?_ (by first | (simp; done) | (simp; omega)) _))) HNIL.out h3 (by first | (simp; done) | (simp; omega)) ?_
         intro A5 d5 w9 hown1 hgrow1
         have hB9 : Below W3.heap.size W3 w9 := Below.grown (by repeat (first | exact Below.refl _ _ | refine Below.drew ?_ | refine Below.alloc ?_ (by first | (simp; done) | (simp; omega)) _)) hgrow1 (by first | (simp; done) | (simp; omega)) (fun k hk => by have := Option.some.inj hk; omega)
         have HO9 := Lib.hid hown1
         have HB9 := Lib.hid hB9
         have HG9 := Lib.hid hgrow1
         have mb0 := kept m0 hB9
         have mb1 := kept m1 hB9
         have mb2 := kept m2 hB9
         have mb3 := kept m3 hB9
         have mb4 := kept m4 hB9
         have mb5 := kept m5 hB9
         clear hown1 hgrow1 hB9)
      | (refine step_append_chans rfl _ _ rfl W3.heap.size (W3.heap.size + 1) rfl (by first | exact heap_alloc_at _ _ _ (by simp) | exact (Below.heap_alloc _ _ _ (by first | (simp; done) | (simp; omega))).trans (heap_alloc_at _ _ _ (by simp))) (Nat.le_succ _) A3 c3 hs.length hs rfl rfl (Arr.keep HCH3.out (by repeat (first | exact Below.refl _ _ | refine Below.drew ?_ | refine Below.alloc ?_ (by first | (simp; done) | (simp; omega)) _))) HNIL.out h3 (by first | (simp; done) | (simp; omega)) ?_
         intro A5 d5 w9 hown1 hgrow1
         have hB9 : Below W3.heap.size W3 w9 := Below.grown (by repeat (first | exact Below.refl _ _ | refine Below.drew ?_ | refine Below.alloc ?_ (by first | (simp; done) | (simp; omega)) _)) hgrow1 (by first | (simp; done) | (simp; omega)) (fun k hk => by have := Option.some.inj hk; omega)
         have HO9 := Lib.hid hown1
         have HB9 := Lib.hid hB9
         have HG9 := Lib.hid hgrow1
         have mb0 := kept m0 hB9
         have mb1 := kept m1 hB9
         have mb2 := kept m2 hB9
         have mb3 := kept m3 hB9
         have mb4 := kept m4 hB9
         have mb5 := kept m5 hB9
         clear hown1 hgrow1 hB9)
      | (refine step_append_one rfl _ _ rfl W3.heap.size w9.heap.size A5 d5 hs.length hs rfl (by first | exact HO9.out | exact HO9.out.drew | exact HO9.out.alloc _ | exact (HO9.out.alloc _).drew) (y0, (p : Int), (t : Int), y3, y4, y5) rfl (by exact heap_alloc_at _ _ _ (by simp)) h3 (by have := HB9.out.size; first | exact this | (simp; omega)) ?_
         intro A6 d6 w10 hown2 hgrow2
         have hB10 : Below W3.heap.size W3 w10 := Below.grown (by repeat (first | exact HB9.out | refine Below.drew ?_ | refine Below.alloc ?_ (by have := HB9.out.size; first | exact this | (simp; exact this)) _)) hgrow2 (by have := HB9.out.size; first | exact this | (simp; omega)) (fun k hk => (World.ownsRow.lt HO9.out k hk).1)
         have HMW := Lib.hid (HMO.out w2.heap.size A6 d6 W3.heap.size w2 w10 HP2.out (Nat.le_refl _) (by have := HS3.out; omega) (below_two HB3.out hB10) (HQ3.out.keep hB10) hown2)
         obtain ⟨v0, v1, v2, v3, v4⟩ := (HQ3.out.keep hB10).cells
         have vf := (HQ3.out.keep hB10).frozen (j := 3)
         clear hown2 hgrow2 hB10)
      | (refine step_append_one rfl _ _ rfl W3.heap.size (W3.heap.size + 1) A5 d5 hs.length hs rfl (by first | exact HO9.out | exact HO9.out.drew | exact HO9.out.alloc _ | exact (HO9.out.alloc _).drew) (y0, (p : Int), (t : Int), y3, y4, y5) rfl (by exact (HG9.out.block _ (by first | (simp; done) | (simp; omega)) (by first | (simp; done) | (simp; omega))).trans (heap_alloc_at _ _ _ (by simp))) h3 (by have := HB9.out.size; first | exact this | (simp; omega)) ?_
         intro A6 d6 w10 hown2 hgrow2
         have hB10 : Below W3.heap.size W3 w10 := Below.grown (by repeat (first | exact HB9.out | refine Below.drew ?_ | refine Below.alloc ?_ (by have := HB9.out.size; first | exact this | (simp; exact this)) _)) hgrow2 (by have := HB9.out.size; first | exact this | (simp; omega)) (fun k hk => (World.ownsRow.lt HO9.out k hk).1)
         have HMW := Lib.hid (HMO.out w2.heap.size A6 d6 W3.heap.size w2 w10 HP2.out (Nat.le_refl _) (by have := HS3.out; omega) (below_two HB3.out hB10) (HQ3.out.keep hB10) hown2)
         obtain ⟨v0, v1, v2, v3, v4⟩ := (HQ3.out.keep hB10).cells
         have vf := (HQ3.out.keep hB10).frozen (j := 3)
         clear hown2 hgrow2 hB10)
      | (refine step_append_one rfl _ _ rfl W3.heap.size W3.heap.size A5 d5 hs.length hs rfl (by first | exact HO9.out | exact HO9.out.drew | exact HO9.out.alloc _ | exact (HO9.out.alloc _).drew) (y0, (p : Int), (t : Int), y3, y4, y5) rfl (by exact (HG9.out.block _ (by first | (simp; done) | (simp; omega)) (by first | (simp; done) | (simp; omega))).trans ((Below.heap_alloc _ _ _ (by first | (simp; done) | (simp; omega))).trans (heap_alloc_at _ _ _ (by simp)))) h3 (by have := HB9.out.size; first | exact this | (simp; omega)) ?_
         intro A6 d6 w10 hown2 hgrow2
         have hB10 : Below W3.heap.size W3 w10 := Below.grown (by repeat (first | exact HB9.out | refine Below.drew ?_ | refine Below.alloc ?_ (by have := HB9.out.size; first | exact this | (simp; exact this)) _)) hgrow2 (by have := HB9.out.size; first | exact this | (simp; omega)) (fun k hk => (World.ownsRow.lt HO9.out k hk).1)
         have HMW := Lib.hid (HMO.out w2.heap.size A6 d6 W3.heap.size w2 w10 HP2.out (Nat.le_refl _) (by have := HS3.out; omega) (below_two HB3.out hB10) (HQ3.out.keep hB10) hown2)
         obtain ⟨v0, v1, v2, v3, v4⟩ := (HQ3.out.keep hB10).cells
         have vf := (HQ3.out.keep hB10).frozen (j := 3)
         clear hown2 hgrow2 hB10)))
    all_goals
      go_wp2_with fail
      go_meet
      first
        | exact ⟨A6, d6, HMW.out⟩
        | exact ⟨A6, d6, HMW.out.drew⟩
  case rest =>
    obtain ⟨A6, d6, hmw⟩ := hcut
    have HMW := Lib.hid hmw
    obtain ⟨u0, u1, u2, u3, u4⟩ := hmw.box.cells
    have HPBx := Lib.hid (HPB2.out.keep hmw.bel)
    have HCBx := Lib.hid (HCB2.out.keep hmw.bel)
    have HDx := Lib.hid (Arr.keep HD2.out hmw.bel)
    dsimp only [List.length_append, List.length_cons, List.length_nil] at u0 u1 u2 u3 u4
    clear hmw k0 k1 k2 k3 k4 m0 m1 m2 m3 m4 m5 q0 q1 q2 q3 q4 qf ka kb ma0 ma1 ma2 ma3 ma4 ma5
    go_wp2_with fail
    with_reducible refine (HI2.out h3 _ _ _ HMW.out.at').mono ?_
    rintro e w5 ⟨D2, e2, rfl, hD, hB⟩
    have HB5 := Lib.hid (below_two (below_two HB2.out HMW.out.bel) hB)
    have HF5 := Lib.hid (Arr.keep HDx.out hB)
    have HH5 := Lib.hid hD
    have HCB5 := Lib.hid (HCBx.out.keep hB)
    clear hB hD u0 u1 u2 u3 u4
    go_wp2_with fail
    with_reducible refine (awake_any _).mono ?_
    rintro e w6 ⟨rfl, hB⟩
    have HB6 := Lib.hid (below_two HB5.out hB)
    have HF6 := Lib.hid (Arr.keep HF5.out hB)
    have HH6 := Lib.hid (Arr.keep HH5.out hB)
    have HCB6 := Lib.hid (HCB5.out.keep hB)
    have hnn := HNN.out
    clear hB
    go_wp2_with fail
    go_loopw [12, 13] (fun s i wr => MoRel n f h w6 s i wr) (fun _ i _ => n - (intOf i).toNat)
    case atStart => exact ⟨0, Nat.zero_le _, rfl, by rw [eqU_zero], Below.refl _ _⟩
    case round =>
      obtain ⟨k, hk, rfl, rfl, hB⟩ := hrel
      have HBX := Lib.hid hB
      by_cases hlt : k < n
      · obtain ⟨b1, o1, rfl⟩ := Arr.head HF6.out hlt
        obtain ⟨b2, o2, rfl⟩ := Arr.head HH6.out hlt
        have c0 := kept (Bools.cell HF6.out hlt) hB
        have d0 := kept (Bools.cell HH6.out hlt) hB
        have HMK := Lib.hid (HMM.out k hlt)
        have HSU := Lib.hid (fun e => eqU_succ (k := k) (f := f) (h := h) e)
        have HNO := Lib.hid (fun e => eqU_no (n := k + 1) (f := f) (h := h) (k := k) (Nat.lt_succ_self k) e)
        obtain ⟨u, hu⟩ : ∃ u, u = f k := ⟨_, rfl⟩
        obtain ⟨v, hv⟩ : ∃ v, v = h k := ⟨_, rfl⟩
        obtain ⟨s, hs'⟩ : ∃ s, s = eqU k f h := ⟨_, rfl⟩
        rw [← hu] at c0 HMK HSU HNO
        rw [← hv] at d0 HMK HSU HNO
        rw [← hs'] at HSU ⊢
        clear hB hu hv hs'
        cases u <;> cases v
        · cases s
          all_goals
            go_wp2_with fail
            go_quiet (fail)
            go_wp2_with fail
            go_roundw
            case rel => exact ⟨k + 1, by omega, by go_num, by rw [HSU.out (by trivial)], below_drewN HBX.out _⟩
            case measure => simp [intOf]; omega
        · cases s
          all_goals
            go_wp2_with fail
            go_quiet (fail)
            go_wp2_with fail
            go_roundw
            case rel => exact ⟨k + 1, by omega, by go_num, by rw [HNO.out (by simp)], below_drewN HBX.out _⟩
            case measure => simp [intOf]; omega
        · have := HMK.out rfl
          cases this
        · cases s
          all_goals
            go_wp2_with fail
            go_quiet (fail)
            go_wp2_with fail
            go_roundw
            case rel => exact ⟨k + 1, by omega, by go_num, by rw [HSU.out (by trivial)], below_drewN HBX.out _⟩
            case measure => simp [intOf]; omega
      · have hkn : k = n := by omega
        subst hkn
        obtain ⟨m0, m1, m2, m3, m4, m5⟩ := HCB6.out.keep hB
        have HFX := Lib.hid (Arr.keep HF6.out hB)
        clear hB
        go_wp2_with fail
        go_quiet (fail)
        have HFIN := Lib.hid (below_drewN (below_two HB6.out HBX.out) nq)
        rcases HER.out with rfl | rfl
        · by_cases hT : t < k ∧ f t = true
          · obtain ⟨hT1, hT2⟩ := hT
            obtain ⟨b1, o1, rfl⟩ := Arr.head HFX.out hT1
            have c0 := Bools.cell HFX.out hT1
            rw [hT2] at c0
            clear hT2
            go_wp2_with fail
            all_goals
              go_ret
              exact ⟨by first | rfl | (simp; done) | simp_all, HFIN.out⟩
          · have hT' : k ≤ t ∨ (t < k ∧ f t = false) := by
              rcases Nat.lt_or_ge t k with h1 | h1
              · refine .inr ⟨h1, ?_⟩
                cases hft : f t with
                | false => rfl
                | true => exact absurd ⟨h1, hft⟩ hT
              · exact .inl h1
            by_cases hF : y0 = 0 ∧ p < k ∧ f p = true
            · obtain ⟨rfl, hF1, hF2⟩ := hF
              obtain ⟨b1, o1, rfl⟩ := Arr.head HFX.out hF1
              have d0 := Bools.cell HFX.out hF1
              rw [hF2] at d0
              clear hT hF2
              rcases hT' with h1 | ⟨h1, h2⟩
              · skip
                go_wp2_with fail
                all_goals
                  go_ret
                  exact ⟨by first | rfl | (simp; done) | simp_all, HFIN.out⟩
              · have c0 := Bools.cell HFX.out h1
                rw [h2] at c0
                clear h2
                go_wp2_with fail
                all_goals
                  go_ret
                  exact ⟨by first | rfl | (simp; done) | simp_all, HFIN.out⟩
            · have he := eqU_yes (HEE.out rfl hT hF)
              have hF' : y0 ≠ 0 ∨ k ≤ p ∨ (p < k ∧ f p = false) := by
                by_cases hy : y0 = 0
                · rcases Nat.lt_or_ge p k with h1 | h1
                  · refine .inr (.inr ⟨h1, ?_⟩)
                    cases hft : f p with
                    | false => rfl
                    | true => exact absurd ⟨hy, h1, hft⟩ hF
                  · exact .inr (.inl h1)
                · exact .inl hy
              clear hT hF
              rcases hT' with h1 | ⟨h1, h2⟩
              · rcases hF' with h3 | h3 | ⟨h3, h4⟩
                · skip
                  go_wp2_with fail
                  all_goals
                    go_ret
                    exact ⟨by first | rfl | (simp; done) | simp_all, HFIN.out⟩
                · skip
                  go_wp2_with fail
                  all_goals
                    go_ret
                    exact ⟨by first | rfl | (simp; done) | simp_all, HFIN.out⟩
                · obtain ⟨b1, o1, rfl⟩ := Arr.head HFX.out h3
                  have d0 := Bools.cell HFX.out h3
                  rw [h4] at d0
                  clear h4
                  go_wp2_with fail
                  all_goals
                    go_ret
                    exact ⟨by first | rfl | (simp; done) | simp_all, HFIN.out⟩
              · obtain ⟨b1, o1, rfl⟩ := Arr.head HFX.out h1
                have c0 := Bools.cell HFX.out h1
                rw [h2] at c0
                clear h2
                rcases hF' with h3 | h3 | ⟨h3, h4⟩
                · skip
                  go_wp2_with fail
                  all_goals
                    go_ret
                    exact ⟨by first | rfl | (simp; done) | simp_all, HFIN.out⟩
                · skip
                  go_wp2_with fail
                  all_goals
                    go_ret
                    exact ⟨by first | rfl | (simp; done) | simp_all, HFIN.out⟩
                · have d0 := Bools.cell HFX.out h3
                  rw [h4] at d0
                  clear h4
                  go_wp2_with fail
                  all_goals
                    go_ret
                    exact ⟨by first | rfl | (simp; done) | simp_all, HFIN.out⟩
        · skip
          go_wp2_with fail
          all_goals
            go_ret
            exact ⟨by first | rfl | (simp; done) | simp_all, HFIN.out⟩

theorem path_range {N : Nat} {l : List ChanA} (hl : ∀ c ∈ l, WfChan c) {a b : Nat} (h : Path N l a b) : a = b ∨ a < N := by
  cases h with
  | refl => exact .inl rfl
  | step h1 _ => exact .inr (lnkB_lt h1 hl).1.1
theorem walk_more (P : PlanA) (L : PlanL) (c : ChanA) (x : Int) (w : World) (hP : PlanAt w P L) (hO : POk P L) (hnil : L.a3 = none → L.c3 = 0) (hc : WfChan c) :
    Calls Try.prog 7 #[planV P L, cv c, .int .i64 x] w fun e w' => e = .returned (.bool true) ∧ Below w.heap.size w w' := by
  by_cases hx : 0 ≤ x ∧ x < P.2.2.1.length
  · obtain ⟨t, rfl⟩ := Int.eq_ofNat_of_zero_le hx.1
    have ht : t < P.2.2.1.length := by omega
    refine more_core P L c t P.2.2.1.length 0 (fun i => pathB P.2.2.1.length P.2.2.2.1 i t) (fun i => pathB P.2.2.1.length (P.2.2.2.1 ++ [c]) i t) w hP hO hnil hc hO.l2 (fun W hW => into_yes P L t W hW hO.wf hO.l2 hO.l3 ht) (fun h3 A d W hW => ?_) (fun i _ h => ?_) (.inl rfl) (fun _ h1 h2 i hi => ?_)
    · exact into_yes (P.1, P.2.1, P.2.2.1, P.2.2.2.1 ++ [c], P.2.2.2.2) ⟨L.a1, L.c1, L.a2, L.c2, A, d, L.a4, L.c4⟩ t W hW (more_wf hO.wf hc) hO.l2 (by simp; omega) ht
    · rw [pathB_iff] at h ⊢
      exact h.more fun c hc => List.mem_append_left _ hc
    · rw [Bool.eq_iff_iff, pathB_iff, pathB_iff]
      obtain ⟨_, ⟨f0, _⟩, ⟨t0, _⟩, _⟩ := id hc
      refine ⟨fun h => h.more fun c hc => List.mem_append_left _ hc, fun h => path_more hc (fun hp => ?_) (fun h0 hp => ?_) h⟩
      · refine h1 ⟨?_, pathB_iff.2 hp⟩
        rcases path_range hO.wf.2.2.2.1 hp with e | e
        · rw [e]; exact ht
        · exact e
      · refine h2 ⟨h0, ?_, pathB_iff.2 hp⟩
        rcases path_range hO.wf.2.2.2.1 hp with e | e
        · rw [e]; exact ht
        · exact e
  · exact more_core P L c x 0 70 (fun _ => false) (fun _ => false) w hP hO hnil hc (by omega) (fun W _ => (into_no P L x W hO.l2 hx).mono fun _ _ ⟨e, hB⟩ => ⟨none, 0, e, Bools.nil, hB⟩) (fun _ A d W _ => (into_no (P.1, P.2.1, P.2.2.1, P.2.2.2.1 ++ [c], P.2.2.2.2) ⟨L.a1, L.c1, L.a2, L.c2, A, d, L.a4, L.c4⟩ x W hO.l2 hx).mono fun _ _ ⟨e, hB⟩ => ⟨none, 0, e, Bools.nil, hB⟩) (fun i hi => by omega) (.inr rfl) (fun h => by omega)
end Go.Proofs.Ytjiikhfeacgjjaa
