/-
  The law of being reset.
-/
import Derived.Test.YtkbafiepnnldeaaAnewP
namespace Go.Proofs.Ytkbafiepnnldeaa
open Go.RowKit

def TwoK (first : List Nat) (H : Nat) (w0 w : World) (a b : TbN) : Prop := ∃ v v' T, Two H w0 w a v T b v' (Tb.new first) ∧ T.first = first
def TwoS (first : List Nat) (H : Nat) (w0 w : World) (a b : TbN) : Prop := ∃ v v' T, Two H w0 w a v T b v' T ∧ T.first = first
set_option maxHeartbeats 8000000 in
set_option maxRecDepth 100000 in
theorem walk_anew (A : Option Addr) (c : Nat) (l : List Int) (A1 : Option Addr) (c1 : Nat) (cs : List CallA) (A2 : Option Addr) (c2 : Nat) (ds : List CallA) (w : World) (hpl : ∀ y ∈ l, 0 ≤ y ∧ y ≤ 255) (hpa : BytesAt w A l) (hln : l.length ≤ 140737488355328) (hA : CallsAt w A1 cs) (_ : cs.length ≤ 140737488355328) (hA2 : CallsAt w A2 ds) (_ : ds.length ≤ 140737488355328) :
    Calls Try.prog 7 #[.slice A l.length c, .slice A1 cs.length c1, .slice A2 ds.length c2] w fun e w' => e = .returned (.bool true) ∧ Below w.heap.size w w' := by
  have hu := u_of_bytes hpa hpl
  obtain ⟨first, hfirst⟩ : ∃ first, first = natsOf l := ⟨_, rfl⟩
  obtain ⟨n, hn⟩ : ∃ n, n = l.length := ⟨_, rfl⟩
  have hfn : first.length = n := by rw [hfirst, natsOf_len, hn]
  rw [← hfirst] at hu
  have hnew := Lib.hid (fun W (hB : Below w.heap.size w W) => new_any A c first W (hu.keep hB) (by omega))
  rw [hfn] at hnew
  have haw := Lib.hid (fun W => awake_any W)
  have HCS := Lib.hid hA
  have HDS := Lib.hid hA2
  have HFN := Lib.hid hfn
  have hnb : n ≤ 140737488355328 := by omega
  rw [← hn]
  clear hA hA2 hpl hpa hln hu hfirst hn hfn
  go_enter Try.func7, Try.ntmps7
  go_wp2_with fail
  with_reducible refine (hnew.out _ (Below.refl _ _)).mono ?_
  rintro e w1 hP
  rcases hP with ⟨hE, rfl, hB⟩ | ⟨hE, g, bi, ba, ci, v0, rfl, hT, hblk, hB⟩
  · have HB := Lib.hid hB
    have HE := Lib.hid hE
    obtain ⟨E, hEE⟩ : ∃ E, E = newE first := ⟨_, rfl⟩
    have HEE := Lib.hid hEE
    rw [← hEE] at hE ⊢
    clear hB hEE
    go_wp2_with fail
    with_reducible refine (hnew.out _ HB.out).mono ?_
    rintro e w2 hP
    rcases hP with ⟨_, rfl, hB2⟩ | ⟨h0, _⟩
    · have HB2 := Lib.hid (HB.out.trans (hB2.mono HB.out.size))
      rw [← HEE.out]
      clear hB2 hnew
      go_wp2_with fail
      with_reducible refine (haw.out _).mono ?_
      rintro e w3 ⟨rfl, hB3⟩
      have HB3 := Lib.hid (HB2.out.trans (hB3.mono HB2.out.size))
      clear hB3
      go_wp2_with fail
      with_reducible refine (haw.out _).mono ?_
      rintro e w4 ⟨rfl, hB4⟩
      have HB4 := Lib.hid (HB3.out.trans (hB4.mono HB3.out.size))
      clear hB4
      go_wp2_with fail
      go_ret
      exact ⟨by simp, HB4.out⟩
    · exact absurd h0 HE.out
  · have HT0 : Hid (TB w.heap.size w w1 g bi ba ci v0 (Tb.new first)) := ⟨hT, new_ok hE, hblk, hB, hB.size⟩
    have HE := Lib.hid hE
    clear hE hT hblk hB
    go_wp2_with fail
    with_reducible refine (hnew.out _ HT0.out.bel).mono ?_
    rintro e w2 hP
    rcases hP with ⟨hE, _⟩ | ⟨_, g', bi', ba', ci', v0', rfl, hT, hblk, hB⟩
    · exact absurd HE.out hE
    · have HTW0 : Hid (Two w.heap.size w w2 ⟨g, bi, ba, ci⟩ v0 (Tb.new first) ⟨g', bi', ba', ci'⟩ v0' (Tb.new first)) :=
        ⟨HT0.out.keep hB, ⟨hT, HT0.out.ok, fun k hk => Nat.le_trans HT0.out.sz (hblk k hk), HT0.out.bel.trans (hB.mono HT0.out.sz), Nat.le_trans HT0.out.sz hB.size⟩, fun k h1 h2 => by
          have h3 := HT0.out.tb.blk_lt h1
          have h4 := hblk k h2
          omega⟩
      clear hnew hT hblk hB HT0
      go_wp2_with fail
      with_reducible refine (haw.out _).mono ?_
      rintro e w3 ⟨rfl, hB3⟩
      have HK0 : Hid (TwoK first w.heap.size w w3 ⟨g, bi, ba, ci⟩ ⟨g', bi', ba', ci'⟩) := ⟨v0, v0', _, HTW0.out.keep hB3, rfl⟩
      clear HTW0 hB3 haw
      go_upto_block 0 with fail
      go_cut [11] (fun _ wx => Hid (TwoK first w.heap.size w wx ⟨g, bi, ba, ci⟩ ⟨g', bi', ba', ci'⟩))
      case first =>
        go_wp2_with fail
        go_loopw [11] (fun kv wr => ∃ k : Nat, kv = .int .i64 k ∧ k ≤ 40 ∧ Hid (TwoK first w.heap.size w wr ⟨g, bi, ba, ci⟩ ⟨g', bi', ba', ci'⟩)) (fun kv _ => 41 - (intOf kv).toNat)
        case atStart => exact ⟨0, rfl, Nat.zero_le _, HK0⟩
        case round =>
          obtain ⟨k, rfl, hk60, HK⟩ := hrel
          clear HK0
          by_cases hlt : k < cs.length ∧ k < 40
          · obtain ⟨hl1, hl2⟩ := hlt
            obtain ⟨bb, oo, y0, y1, y2, rfl, hcc⟩ := call_cells HCS.out hl1
            obtain ⟨v, v', T, hTB, hTf⟩ := HK.out
            obtain ⟨d0, d1, d2⟩ := hcc wr hTB.t.bel
            have HTB := Lib.hid hTB
            have HTF := Lib.hid hTf
            have i0 : (0 : Int) ≤ (k : Int) := Int.natCast_nonneg _
            have i1 : (k : Int) < (cs.length : Int) := by omega
            have i2 : (k : Int) < 40 := by omega
            have HCA := Lib.hid (fun W => call_any y0 y1 y2 W)
            unfold cV at HCA
            clear hcc HK hTB hTf
            go_wp2_with fail
            with_reducible refine (HCA.out _).mono ?_
            rintro e wa ⟨rfl, hBa⟩
            have HTA := Lib.hid (HTB.out.keep hBa)
            have HDO := Lib.hid (do_any (nk y0) y1 y2 wa HTA.out.t.tb HTA.out.t.ok (nk_range y0).1 (nk_range y0).2)
            unfold cV at HDO
            clear hBa HTB HCA d0 d1 d2
            go_wp2_with fail
            with_reducible refine HDO.out.mono ?_
            rintro e wb ⟨rfl, hP⟩
            obtain ⟨v2, hT2, _⟩ := HTA.out.step (step_ok HTA.out.t.ok _ _ _) hP
            have HK1 : Hid (TwoK first w.heap.size w wb ⟨g, bi, ba, ci⟩ ⟨g', bi', ba', ci'⟩) := ⟨v2, v', _, hT2, by rw [step_first]; exact HTF.out⟩
            obtain ⟨E, hE⟩ : ∃ E, E = T.stepE (nk y0) y1 y2 := ⟨_, rfl⟩
            rw [← hE]
            clear hP hT2 hE HTA HDO
            go_wp2_with fail
            go_roundw
            case rel => exact ⟨k + 1, by go_num, by omega, HK1⟩
            case measure => simp [intOf]; omega
          · by_cases hx2 : (k : Int) < (cs.length : Int)
            · have hx : ¬ (k : Int) < 40 := by omega
              go_wp2_with fail
              go_meet
              exact HK
            · go_wp2_with fail
              go_meet
              exact HK
      case rest =>
        have HK := Lib.hid hcut
        clear hcut HK0
        rename World => w4
        obtain ⟨v, v', T, hTB, hTf⟩ := HK.out.out
        have HTB := Lib.hid hTB
        have HTF := Lib.hid hTf
        have HRS := Lib.hid (reset_any w4 hTB.t.tb hTB.t.ok.len hTB.t.ok.most (fun x hx => Nat.le_trans (hTB.t.ok.fst x hx) (by decide)))
        clear hTB hTf HK
        go_wp2_with fail
        with_reducible refine HRS.out.mono ?_
        rintro e w5 ⟨rfl, hP⟩
        obtain ⟨v2, hT2, _⟩ := HTB.out.step (reset_ok HTB.out.t.ok) hP
        rw [reset_new, HTF.out] at hT2
        have HS0 : Hid (TwoS first w.heap.size w w5 ⟨g, bi, ba, ci⟩ ⟨g', bi', ba', ci'⟩) := ⟨v2, v', _, hT2, rfl⟩
        clear hP hT2 HTB HTF HRS
        go_wp2_with fail
        go_loopw [12] (fun kv wr => ∃ k : Nat, kv = .int .i64 k ∧ k ≤ 40 ∧ Hid (TwoS first w.heap.size w wr ⟨g, bi, ba, ci⟩ ⟨g', bi', ba', ci'⟩)) (fun kv _ => 41 - (intOf kv).toNat)
        case atStart => exact ⟨0, rfl, Nat.zero_le _, HS0⟩
        case round =>
          obtain ⟨k, rfl, hk60, HK⟩ := hrel
          clear HS0
          by_cases hlt : k < ds.length ∧ k < 40
          · obtain ⟨hl1, hl2⟩ := hlt
            obtain ⟨bb, oo, y0, y1, y2, rfl, hcc⟩ := call_cells HDS.out hl1
            obtain ⟨v, v', T, hTB, hTf⟩ := HK.out
            obtain ⟨d0, d1, d2⟩ := hcc wr hTB.t.bel
            have HTB := Lib.hid hTB
            have HTF := Lib.hid hTf
            have i0 : (0 : Int) ≤ (k : Int) := Int.natCast_nonneg _
            have i1 : (k : Int) < (ds.length : Int) := by omega
            have i2 : (k : Int) < 40 := by omega
            have HCA := Lib.hid (fun W => call_any y0 y1 y2 W)
            unfold cV at HCA
            clear hcc HK hTB hTf
            go_wp2_with fail
            with_reducible refine (HCA.out _).mono ?_
            rintro e wa ⟨rfl, hBa⟩
            obtain ⟨kk, hkk⟩ : ∃ kk, kk = nk y0 := ⟨_, rfl⟩
            rw [← hkk]
            have HKK : Hid (0 ≤ kk ∧ kk ≤ 8) := by rw [hkk]; exact nk_range y0
            obtain ⟨wc, hwc⟩ : ∃ wc, wc = wa.alloc (.cells #[nV kk, nV y1, nV y2] 36) := ⟨_, rfl⟩
            have hBc : Below wa.heap.size wa wc := by rw [hwc]; exact (Below.refl _ _).alloc (Nat.le_refl _) _
            obtain ⟨qb, hqb⟩ : ∃ qb, qb = wa.heap.size := ⟨_, rfl⟩
            have e0 : wc.cell? ⟨qb, 0, none⟩ = some (nV kk) := by rw [hwc]; exact al_new _ _ _ 0 _ hqb rfl
            have e1 : wc.cell? ⟨qb, 1, none⟩ = some (nV y1) := by rw [hwc]; exact al_new _ _ _ 1 _ hqb rfl
            have e2 : wc.cell? ⟨qb, 2, none⟩ = some (nV y2) := by rw [hwc]; exact al_new _ _ _ 2 _ hqb rfl
            have hTa := HTB.out.keep hBa
            have HTC := Lib.hid (hTa.keep hBc)
            have hqt : ∀ v3, Slid v v3 wa → True := fun _ _ => trivial
            have HFT : Hid (Far wc g bi ba v qb) := ⟨cell_lt e0, fun c => by have := hTa.t.tb.blk_lt c; omega⟩
            have HFU : Hid (Far wc g' bi' ba' v' qb) := ⟨cell_lt e0, fun c => by have := hTa.u.tb.blk_lt c; omega⟩
            clear hBa HTB HCA d0 d1 d2 hkk hBc hTa hqt
            have HWC := Lib.hid (And.intro hwc hqb)
            clear hwc hqb
            go_upto_region 14 with fail
            rw [← HWC.out.1, ← HWC.out.2]
            obtain ⟨E, hE⟩ : ∃ E, E = T.stepE kk y1 y2 := ⟨_, rfl⟩
            obtain ⟨T2, hT2⟩ : ∃ T2, T2 = T.step kk y1 y2 := ⟨_, rfl⟩
            have hok2 : TOk T2 := by rw [hT2]; exact step_ok HTC.out.t.ok _ _ _
            have hf2 : T2.first = first := by rw [hT2, step_first]; exact HTF.out
            have hql := q_len hok2
            have HD : Hid (∀ (N : TbN) v W, TbAt W N.g N.bi N.ba N.ci v T → Calls Try.prog 13 #[.pointer (some ⟨N.g, 0, none⟩), .agg #[nV kk, nV y1, nV y2]] W fun e w' => e = .returned (nV E) ∧ TbP N.g N.bi N.ba N.ci v T2 W w') := fun N v W h => by
              rw [hE, hT2]; exact do_any kk y1 y2 W h HTC.out.t.ok HKK.out.1 HKK.out.2
            have HOK2 := Lib.hid (And.intro hok2 (And.intro hf2 hql))
            have HD1 := Lib.hid (HD.out ⟨g, bi, ba, ci⟩ v wc.drew (HTC.out.keep (w' := wc.drew) ((Below.refl _ _).drew)).t.tb)
            dsimp only at HD1
            clear hE hT2 hok2 hf2 hql
            go_wp2_with fail
            go_region_law ((go_simp; first
              | (with_reducible refine HD1.out.mono ?_
                 rintro e w6 ⟨rfl, hP⟩
                 obtain ⟨v3, hT6, hf6⟩ := (HTC.out.keep (w' := wc.drew) ((Below.refl _ _).drew)).step HOK2.out.1 hP
                 have hb6 := hf6 qb HFT.out
                 have k0 : w6.cell? ⟨qb, 0, none⟩ = some (nV kk) := (World.cell?_of_block (w := wc.drew) hb6.1).trans e0
                 have k1 : w6.cell? ⟨qb, 1, none⟩ = some (nV y1) := (World.cell?_of_block (w := wc.drew) hb6.1).trans e1
                 have k2 : w6.cell? ⟨qb, 2, none⟩ = some (nV y2) := (World.cell?_of_block (w := wc.drew) hb6.1).trans e2
                 have HT6 := Lib.hid hT6
                 have HF6 : Hid (Far w6 g' bi' ba' v' qb) := ⟨hb6.2.1, HFU.out.2⟩
                 have HD2 := Lib.hid (HD.out ⟨g', bi', ba', ci'⟩ v' w6 hT6.u.tb)
                 dsimp only at HD2
                 clear hP hT6 hf6 hb6 HD1)
              | (with_reducible refine HD2.out.mono ?_
                 rintro e w7 ⟨rfl, hP⟩
                 obtain ⟨v4, hT7, hf7⟩ := HT6.out.swap.step HOK2.out.1 hP
                 have hb7 := hf7 qb HF6.out
                 have m0 : w7.cell? ⟨qb, 0, none⟩ = some (nV kk) := (World.cell?_of_block (w := w6) hb7.1).trans k0
                 have m1 : w7.cell? ⟨qb, 1, none⟩ = some (nV y1) := (World.cell?_of_block (w := w6) hb7.1).trans k1
                 have m2 : w7.cell? ⟨qb, 2, none⟩ = some (nV y2) := (World.cell?_of_block (w := w6) hb7.1).trans k2
                 have HT7 := Lib.hid hT7.swap
                 have HO1 := Lib.hid (order_any w7 hT7.u.tb (Nat.le_trans HOK2.out.2.2 (by decide)))
                 dsimp only at HO1
                 clear hP hT7 hf7 hb7 HD2)
              | (with_reducible refine HO1.out.mono ?_
                 rintro e w8 ⟨va, rfl, hN8, hB8, _⟩
                 obtain ⟨Aa, ca, rfl, _⟩ := hN8.len
                 have HT8 := Lib.hid (HT7.out.keep hB8)
                 have n1 := kept m1 hB8
                 have HN8 := Lib.hid hN8
                 have HO2 := Lib.hid (order_any w8 HT8.out.u.tb (Nat.le_trans HOK2.out.2.2 (by decide)))
                 dsimp only at HO2
                 clear hN8 hB8 HO1)
              | (with_reducible refine HO2.out.mono ?_
                 rintro e w9 ⟨vb, rfl, hN9, hB9, _⟩
                 obtain ⟨Ab, cb, rfl, _⟩ := hN9.len
                 have HT9 := Lib.hid (HT8.out.keep hB9)
                 have o1 := kept n1 hB9
                 have HSM := Lib.hid (same_any Aa Ab ca cb T2.q T2.q w9 (HN8.out.keep hB9).ints hN9.ints (Nat.le_trans HOK2.out.2.2 (by decide)))
                 clear hN9 hB9 HO2)
              | (with_reducible refine HSM.out.mono ?_
                 rintro e w10 ⟨he, hB10⟩
                 rw [decide_eq_true rfl] at he
                 obtain rfl := he
                 have HT10 := Lib.hid (HT9.out.keep hB10)
                 have p1 := kept o1 hB10
                 clear hB10 HSM)))
            all_goals go_wp2_with fail
            all_goals obtain ⟨p, hp⟩ : ∃ p, p = stateOf T2 y1 := ⟨_, rfl⟩
            all_goals have HST := Lib.hid (state_any y1 w10 HT10.out.t.tb)
            all_goals rw [← hp] at HST
            all_goals have HPP := Lib.hid hp
            all_goals unfold stV at HST
            all_goals dsimp only at HST
            all_goals clear hp
            all_goals with_reducible refine HST.out.mono ?_
            all_goals rintro e w11 ⟨rfl, hB11⟩
            all_goals have HT11 := Lib.hid (HT10.out.keep hB11)
            all_goals have r1 := kept p1 hB11
            all_goals clear hB11 HST
            all_goals go_wp2_with fail
            all_goals have HST := Lib.hid (state_any y1 w11 HT11.out.u.tb)
            all_goals rw [← HPP.out] at HST
            all_goals unfold stV at HST
            all_goals dsimp only at HST
            all_goals with_reducible refine HST.out.mono ?_
            all_goals rintro e w12 ⟨rfl, hB12⟩
            all_goals have HT12 : Hid (TwoS first w.heap.size w w12 ⟨g, bi, ba, ci⟩ ⟨g', bi', ba', ci'⟩) := ⟨v3, v4, T2, HT11.out.keep hB12, HOK2.out.2.1⟩
            all_goals clear hB12 HST
            all_goals go_wp2_with fail
            all_goals go_roundw
            all_goals first
              | exact ⟨k + 1, by go_num, by omega, HT12⟩
              | (simp [intOf]; omega)
          · have HBE : Hid (Below w.heap.size w wr) := by obtain ⟨_, _, _, h, _⟩ := HK.out; exact h.t.bel
            clear HK
            by_cases hx2 : (k : Int) < (ds.length : Int)
            · have hx : ¬ (k : Int) < 40 := by omega
              go_wp2_with fail
              go_ret
              exact ⟨rfl, HBE.out⟩
            · go_wp2_with fail
              go_ret
              exact ⟨rfl, HBE.out⟩
end Go.Proofs.Ytkbafiepnnldeaa
