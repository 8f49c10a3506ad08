/-
  The law of being apart.
-/
import Derived.Test.YtkbafiepnnldeaaApartP
namespace Go.Proofs.Ytkbafiepnnldeaa
open Go.RowKit

set_option maxHeartbeats 8000000 in
set_option maxRecDepth 100000 in
theorem walk_apart (A : Option Addr) (c : Nat) (l : List Int) (A1 : Option Addr) (c1 : Nat) (cs : List CallA) (z0 z1 z2 : Int) (w : World) (hpl : ∀ y ∈ l, 0 ≤ y ∧ y ≤ 255) (hpa : BytesAt w A l) (hln : l.length ≤ 140737488355328) (hA : CallsAt w A1 cs) (_ : cs.length ≤ 140737488355328) :
    Calls Try.prog 6 #[.slice A l.length c, .slice A1 cs.length c1, .agg #[nV z0, nV z1, nV z2]] w fun e w' => e = .returned (.bool true) ∧ Below w.heap.size w w' := by
  have hu := u_of_bytes hpa hpl
  obtain ⟨first, hfirst⟩ : ∃ first, first = natsOf l := ⟨_, rfl⟩
  obtain ⟨n, hn⟩ : ∃ n, n = l.length := ⟨_, rfl⟩
  have hfn : first.length = n := by rw [hfirst, natsOf_len, hn]
  rw [← hfirst] at hu
  have HUW := Lib.hid hu
  obtain ⟨w0, hw0⟩ : ∃ w0, w0 = w.alloc (.cells #[nV z0, nV z1, nV z2] 36) := ⟨_, rfl⟩
  have hB0 : Below w.heap.size w w0 := by rw [hw0]; exact (Below.refl _ _).alloc (Nat.le_refl _) _
  have q0 : w0.cell? ⟨w.heap.size, 0, none⟩ = some (nV z0) := by rw [hw0]; exact al_new _ _ _ 0 _ rfl rfl
  have q1 : w0.cell? ⟨w.heap.size, 1, none⟩ = some (nV z1) := by rw [hw0]; exact al_new _ _ _ 1 _ rfl rfl
  have q2 : w0.cell? ⟨w.heap.size, 2, none⟩ = some (nV z2) := by rw [hw0]; exact al_new _ _ _ 2 _ rfl rfl
  have q3 : ∀ j, w0.frozen? ⟨w.heap.size, j, none⟩ = false := fun j => by rw [hw0]; exact frozen_new _ _ _ _
  have hnew := Lib.hid (new_any A c first w0 (hu.keep hB0) (by omega))
  rw [hfn] at hnew
  replace hu := hu.keep hB0
  replace hA := Arr.keep hA hB0
  have HQ := Lib.hid (And.intro q0 (And.intro q1 (And.intro q2 (And.intro q3 (cell_lt q0)))))
  have HB0 := Lib.hid hB0
  obtain ⟨qb, hqb⟩ : ∃ qb, qb = w.heap.size := ⟨_, rfl⟩
  have HQB := Lib.hid hqb
  rw [← hqb] at HQ
  have HW0 := Lib.hid hw0
  rw [hw0] at hnew
  clear hB0 q0 q1 q2 q3 hw0
  have haw := Lib.hid (fun W => awake_any W)
  have HCS := Lib.hid hA
  have HFN := Lib.hid hfn
  have HUA := Lib.hid hu
  have hnb : n ≤ 140737488355328 := by omega
  rw [← hn]
  clear hA hpl hpa hln hu hfirst hn hfn hqb
  go_enter Try.func6, Try.ntmps6
  go_wp2_with fail
  with_reducible refine hnew.out.mono ?_
  rintro e w1 hP
  rw [← HW0.out] at hP
  rcases hP with ⟨hE, rfl, hB⟩ | ⟨hE, g, bi, ba, ci, v0, rfl, hT, hblk, hB⟩
  · have HB := Lib.hid hB
    obtain ⟨E, hEE⟩ : ∃ E, E = newE first := ⟨_, rfl⟩
    rw [← hEE] at hE ⊢
    clear hnew hB hEE
    go_wp2_with fail
    with_reducible refine (haw.out _).mono ?_
    rintro e w2 ⟨rfl, hB2⟩
    have HB2 := Lib.hid (HB.out.trans (hB2.mono HB.out.size))
    clear hB2
    go_wp2_with fail
    with_reducible refine (haw.out _).mono ?_
    rintro e w3 ⟨rfl, hB3⟩
    have HB3 := Lib.hid (HB2.out.trans (hB3.mono HB2.out.size))
    clear hB3
    go_wp2_with fail
    go_ret
    exact ⟨rfl, HB0.out.trans (HB3.out.mono HB0.out.size)⟩
  · have HT0 : Hid (TB w0.heap.size w0 w1 g bi ba ci v0 (Tb.new first)) := ⟨hT, new_ok hE, hblk, hB, hB.size⟩
    have hn16 : n ≤ 16 := by
      have := (new_ok hE).most
      have h2 : (Tb.new first).l.length = first.length := by show (first.map _).length = _; rw [List.length_map]
      rw [h2, HFN.out] at this
      exact this
    clear hnew hE hT hblk hB
    go_wp2_with fail
    with_reducible refine (haw.out _).mono ?_
    rintro e w2 ⟨rfl, hB2⟩
    have HK0 : Hid (TbK first w0.heap.size w0 w2 g bi ba ci) := ⟨v0, _, HT0.out.keep hB2, rfl⟩
    clear HT0 hB2 haw
    go_upto_block 0 with fail
    go_cut [9] (fun _ wx => Hid (TbK first w0.heap.size w0 wx g bi ba ci))
    case first =>
      go_wp2_with fail
      go_loopw [9] (fun kv wr => ∃ k : Nat, kv = .int .i64 k ∧ k ≤ 40 ∧ Hid (TbK first w0.heap.size w0 wr g bi ba ci)) (fun kv _ => 41 - (intOf kv).toNat)
      case atStart => exact ⟨0, rfl, Nat.zero_le _, HK0⟩
      case round =>
        obtain ⟨k, rfl, hk60, HK⟩ := hrel
        clear HK0
        by_cases hlt : k < cs.length ∧ k < 40
        · obtain ⟨hl1, hl2⟩ := hlt
          obtain ⟨bb, oo, y0, y1, y2, rfl, hcc⟩ := call_cells HCS.out hl1
          obtain ⟨v, T, hTB, hTf⟩ := HK.out
          obtain ⟨d0, d1, d2⟩ := hcc wr hTB.bel
          have HTB := Lib.hid hTB
          have HTF := Lib.hid hTf
          have i0 : (0 : Int) ≤ (k : Int) := Int.natCast_nonneg _
          have i1 : (k : Int) < (cs.length : Int) := by omega
          have i2 : (k : Int) < 40 := by omega
          have HCA := Lib.hid (fun W => call_any y0 y1 y2 W)
          unfold cV at HCA
          clear hcc HK hTB hTf
          go_wp2_with fail
          with_reducible refine (HCA.out _).mono ?_
          rintro e wa ⟨rfl, hBa⟩
          have HTA := Lib.hid (HTB.out.keep hBa)
          have HDO := Lib.hid (do_any (nk y0) y1 y2 wa HTA.out.tb HTA.out.ok (nk_range y0).1 (nk_range y0).2)
          unfold cV at HDO
          clear hBa HTB HCA d0 d1 d2
          go_wp2_with fail
          with_reducible refine HDO.out.mono ?_
          rintro e wb hP
          obtain ⟨rfl, v', hTB', hTF'⟩ := TbK.step HTA.out HTF.out hP
          have HK1 : Hid (TbK first w0.heap.size w0 wb g bi ba ci) := ⟨v', _, hTB', hTF'⟩
          obtain ⟨E, hE⟩ : ∃ E, E = T.stepE (nk y0) y1 y2 := ⟨_, rfl⟩
          rw [← hE]
          clear hP hTB' hTF' hE HTA HDO
          go_wp2_with fail
          go_roundw
          case rel => exact ⟨k + 1, by go_num, by omega, HK1⟩
          case measure => simp [intOf]; omega
        · by_cases hx2 : (k : Int) < (cs.length : Int)
          · have hx : ¬ (k : Int) < 40 := by omega
            go_wp2_with fail
            go_meet
            exact HK
          · go_wp2_with fail
            go_meet
            exact HK
    case rest =>
      have HK := Lib.hid hcut
      clear hcut HK0
      rename World => w3
      obtain ⟨v, T, hTB, hTf⟩ := HK.out.out
      have HTB := Lib.hid hTB
      have HTF := Lib.hid hTf
      have HTB0 := Lib.hid hTB
      have hln : T.l.length = n := by rw [hTB.len hTf, HFN.out]
      have HLN := Lib.hid hln
      have p0 := kept HQ.out.1 hTB.bel
      have p1 := kept HQ.out.2.1 hTB.bel
      have p2 := kept HQ.out.2.2.1 hTB.bel
      have pf : ∀ j, w3.frozen? ⟨qb, j, none⟩ = false := fun j => (hTB.bel.frozen (p := ⟨qb, j, none⟩) HQ.out.2.2.2.2).trans (HQ.out.2.2.2.1 j)
      have pf0 := pf 0
      have pf1 := pf 1
      have pf2 := pf 2
      have HCA := Lib.hid (fun W => call_any z0 z1 z2 W)
      unfold cV at HCA
      have hql : qb < w3.heap.size := cell_lt p0
      clear hTB hTf HK hln pf
      rw [← HQB.out]
      go_wp2_with fail
      with_reducible refine (HCA.out _).mono ?_
      rintro e w4 ⟨rfl, hB4⟩
      obtain ⟨kk, hkk⟩ : ∃ kk, kk = nk z0 := ⟨_, rfl⟩
      rw [← hkk]
      have HKK : Hid (0 ≤ kk ∧ kk ≤ 8) := by rw [hkk]; exact nk_range z0
      have r0 := kept p0 hB4
      have r1 := kept p1 hB4
      have r2 := kept p2 hB4
      have f0 : w4.frozen? ⟨qb, 0, none⟩ = false := (hB4.frozen (p := ⟨qb, 0, none⟩) hql).trans pf0
      have f1 : w4.frozen? ⟨qb, 1, none⟩ = false := (hB4.frozen (p := ⟨qb, 1, none⟩) hql).trans pf1
      have f2 : w4.frozen? ⟨qb, 2, none⟩ = false := (hB4.frozen (p := ⟨qb, 2, none⟩) hql).trans pf2
      obtain ⟨w5, hw5⟩ : ∃ w5, w5 = ((w4.setCell ⟨qb, 0, none⟩ (nV kk)).setCell ⟨qb, 1, none⟩ (nV z1)).setCell ⟨qb, 2, none⟩ (nV z2) := ⟨_, rfl⟩
      obtain ⟨s0, s1, s2, hC5⟩ := threeOf r0 r1 r2 hw5
      have HT5 := Lib.hid ((HTB.out.keep hB4).rebase hC5 HQ.out.2.2.2.2)
      have hB5 : Below w.heap.size w0 w5 := ((HTB.out.keep hB4).bel.mono HB0.out.size).trans (hC5.below (fun k hk => by rw [hk, HQB.out]; exact Nat.le_refl _) (Nat.le_trans HB0.out.size (HTB.out.keep hB4).sz))
      have HB5 := Lib.hid (HB0.out.trans hB5)
      clear hB4 p0 p1 p2 pf0 pf1 pf2 HTB hkk hC5 hql hB5 HCA
      have HQL := Lib.hid HQ.out.2.2.2.2
      go_upto_region 9 with fail
      rw [← hw5]
      have HS := Lib.hid (And.intro s0 (And.intro s1 s2))
      clear hw5 r0 r1 r2 f0 f1 f2 s0 s1 s2
      obtain ⟨w6, hw6⟩ : ∃ w6, w6 = ((w5.alloc (.cells (Array.replicate 16 (nV 0)) 55)).alloc (.cells (Array.replicate 16 (.bool false)) 53)).alloc (.cells (Array.replicate 16 (nV 0)) 56) := ⟨_, rfl⟩
      obtain ⟨hT6, hR6⟩ := rec_new HT5.out T.l hw6
      have hw6' : w6 = ((w5.alloc (.cells #[nV 0, nV 0, nV 0, nV 0, nV 0, nV 0, nV 0, nV 0, nV 0, nV 0, nV 0, nV 0, nV 0, nV 0, nV 0, nV 0] 55)).alloc (.cells #[.bool false, .bool false, .bool false, .bool false, .bool false, .bool false, .bool false, .bool false, .bool false, .bool false, .bool false, .bool false, .bool false, .bool false, .bool false, .bool false] 53)).alloc (.cells #[nV 0, nV 0, nV 0, nV 0, nV 0, nV 0, nV 0, nV 0, nV 0, nV 0, nV 0, nV 0, nV 0, nV 0, nV 0, nV 0] 56) := hw6
      obtain ⟨bs, hbs⟩ : ∃ b, b = w5.heap.size := ⟨_, rfl⟩
      obtain ⟨bh, hbh⟩ : ∃ b, b = w5.heap.size + 1 := ⟨_, rfl⟩
      obtain ⟨bp, hbp⟩ : ∃ b, b = w5.heap.size + 2 := ⟨_, rfl⟩
      rw [← hbh, ← hbp, ← hbs] at hR6
      have HT6 := Lib.hid hT6
      have HR6 := Lib.hid hR6
      clear hT6 hR6 HT5 hw6
      have hbp' : bp = w5.heap.size + 1 + 1 := by rw [hbp]
      have HBB := Lib.hid (And.intro hbs (And.intro hbh hbp'))
      clear hbs hbh hbp hbp'
      go_upto_region 12 with fail
      rw [← hw6', ← HBB.out.2.2, ← HBB.out.2.1, ← HBB.out.1]
      clear hw6'
      go_upto_block 2 with fail
      go_cut [13] (fun _ wx => Hid (TB w0.heap.size w5 wx g bi ba ci v T ∧ Rec w0.heap.size wx g bi ba v bs bh bp T.l n))
      case first =>
        go_wp2_with fail
        go_loopw [13] (fun xv wr => ∃ x : Nat, x ≤ n ∧ xv = .int .i64 x ∧ Hid (TB w0.heap.size w5 wr g bi ba ci v T ∧ Rec w0.heap.size wr g bi ba v bs bh bp T.l x)) (fun xv _ => n - (intOf xv).toNat)
        case atStart => exact ⟨0, Nat.zero_le _, rfl, HT6.out, HR6.out⟩
        case round =>
          rename World => wx
          obtain ⟨x, hx, rfl, HI⟩ := hrel
          by_cases hxn : x < n
          · have hxl : x < T.l.length := by rw [HLN.out]; exact hxn
            have HST := Lib.hid (state_any (x : Int) wx HI.1.tb)
            rw [state_nat hxl] at HST
            obtain ⟨q, hq⟩ : ∃ q, q = T.l.getD x Pr.nil := ⟨_, rfl⟩
            rw [← hq] at HST
            unfold stV at HST
            have HQQ := Lib.hid hq
            have j0 : (0 : Int) ≤ (x : Int) := Int.natCast_nonneg _
            have j1 : (x : Int) < (n : Int) := by omega
            have j2 : (x : Int) < 16 := by omega
            have HX16 : Hid (x < 16) := show x < 16 by omega
            clear hq hxl
            go_wp2_with fail
            with_reducible refine HST.out.mono ?_
            rintro e wy ⟨rfl, hBy⟩
            have hTy := HI.1.keep hBy
            have hRy := HI.2.below hBy
            have t0 := hRy.rs.cell (i := x) HX16.out
            have t1 := hRy.rh.cell (i := x) HX16.out
            have t2 := hRy.rp.cell (i := x) HX16.out
            rw [if_neg (Nat.lt_irrefl x)] at t0 t1 t2
            have g0 := hRy.rs.frozen x
            have g1 := hRy.rh.frozen x
            have g2 := hRy.rp.frozen x
            have m1 : ¬ bs = bh := hRy.n1
            have m2 : ¬ bs = bp := hRy.n2
            have m3 : ¬ bh = bp := hRy.n3
            have m4 : ¬ bh = bs := fun e => hRy.n1 e.symm
            have m5 : ¬ bp = bs := fun e => hRy.n2 e.symm
            have m6 : ¬ bp = bh := fun e => hRy.n3 e.symm
            have HM := Lib.hid (hRy.more hTy HQQ.out)
            clear hBy HST HI hTy hRy
            go_wp2_with fail
            go_roundw
            case rel => exact ⟨x + 1, by omega, by go_num, HM.out⟩
            case measure => simp [intOf]; omega
          · obtain rfl : x = n := by omega
            go_wp2_with fail
            go_meet
            exact HI
      case rest =>
        have HI := Lib.hid hcut
        clear hcut HT6 HR6
        rename World => w7
        have hbq : ∀ j, w7.cell? ⟨qb, j, none⟩ = w5.cell? ⟨qb, j, none⟩ := fun j => World.cell?_of_block (HI.out.1.bel.block qb HQL.out)
        have t0 : w7.cell? ⟨qb, 0, none⟩ = some (nV kk) := (hbq 0).trans HS.out.1
        have t1 : w7.cell? ⟨qb, 1, none⟩ = some (nV z1) := (hbq 1).trans HS.out.2.1
        have t2 : w7.cell? ⟨qb, 2, none⟩ = some (nV z2) := (hbq 2).trans HS.out.2.2
        have HRU := Lib.hid (running_any w7 HI.out.1.tb)
        obtain ⟨⟨hd, okb⟩, hhd⟩ : ∃ z, z = headOf T.q := ⟨_, rfl⟩
        rw [← hhd] at HRU
        have HHD := Lib.hid hhd
        have HDO := Lib.hid (do_any kk z1 z2 w7 HI.out.1.tb HI.out.1.ok HKK.out.1 HKK.out.2)
        unfold cV at HDO
        clear hhd hbq
        go_wp2_with fail
        with_reducible refine HRU.out.mono ?_
        rintro e wy ⟨rfl, hwy⟩
        subst hwy
        go_wp2_with fail
        with_reducible refine HDO.out.mono ?_
        rintro e w8 ⟨rfl, hP⟩
        obtain ⟨v2, hT8, _, hfar⟩ := HI.out.1.step (step_ok HI.out.1.ok kk z1 z2) hP
        have hR8 := HI.out.2.far hfar
        have HA1 := Lib.hid (fun (k : Nat) (h : ((k : Int) ≠ z1 ∧ kk ≠ 8) ∨ T.stepE kk z1 z2 ≠ 0) => step_apart (T := T) (pr := z2) h)
        have HA2 := Lib.hid (fun (h : T.stepE kk z1 z2 ≠ 0) => step_refused (T := T) h)
        have HA3 := Lib.hid (fun (k : Nat) (h : kk = 8) (hk : k < T.first.length) => (by rw [h]; exact step_reset (T := T) (i := z1) (pr := z2) hk : (T.step kk z1 z2).l.getD k Pr.nil = ⟨0, false, ((T.first.getD k 0 : Nat) : Int)⟩))
        have HE8 : Hid (kk = 8 → T.stepE kk z1 z2 = 0) := fun h => by unfold Tb.stepE; rw [if_pos h]
        have hl2 : (T.step kk z1 z2).l.length = n := by rw [step_len HI.out.1.ok, HLN.out]
        obtain ⟨T2, hT2⟩ : ∃ T2, T2 = T.step kk z1 z2 := ⟨_, rfl⟩
        obtain ⟨E, hE⟩ : ∃ E, E = T.stepE kk z1 z2 := ⟨_, rfl⟩
        rw [← hT2] at hT8 HA1 HA2 HA3 hl2
        rw [← hE] at HA1 HA2 HE8 ⊢
        have HT8 := Lib.hid hT8
        have HR8 := Lib.hid hR8
        have HL2 := Lib.hid hl2
        clear hP hT8 hR8 hfar hT2 hE hl2 HI HDO HRU t0 t1 t2
        go_upto_block 4 with fail
        go_cut [17] (fun _ wx => Hid (TB w0.heap.size w5 wx g bi ba ci v2 T2))
        case first =>
          go_wp2_with fail
          go_loopw [17] (fun xv wr => ∃ x : Nat, x ≤ n ∧ xv = .int .i64 x ∧ Hid (TB w0.heap.size w5 wr g bi ba ci v2 T2 ∧ Rec w0.heap.size wr g bi ba v2 bs bh bp T.l n)) (fun xv _ => n - (intOf xv).toNat)
          case atStart => exact ⟨0, Nat.zero_le _, rfl, HT8.out, HR8.out⟩
          case round =>
            rename World => wx
            obtain ⟨x, hx, rfl, HI⟩ := hrel
            by_cases hxn : x < n
            · have hxl : x < T2.l.length := by rw [HL2.out]; exact hxn
              have HST := Lib.hid (state_any (x : Int) wx HI.1.tb)
              rw [state_nat hxl] at HST
              obtain ⟨q, hq⟩ : ∃ q, q = T2.l.getD x Pr.nil := ⟨_, rfl⟩
              obtain ⟨p, hp⟩ : ∃ p, p = T.l.getD x Pr.nil := ⟨_, rfl⟩
              obtain ⟨fx, hfx⟩ : ∃ fx, fx = first.getD x 0 := ⟨_, rfl⟩
              rw [← hq] at HST
              have HQP : Hid (((x : Int) ≠ z1 ∧ kk ≠ 8) ∨ E ≠ 0 → q = p) := fun h => by rw [hq, hp]; exact HA1.out x h
              have HQR : Hid (kk = 8 → q = ⟨0, false, (fx : Int)⟩) := fun h => by rw [hq, hfx, ← HTF.out]; exact HA3.out x h (by rw [HTF.out, HFN.out]; exact hxn)
              have hff : fx ≤ 255 := by
                have h1 := HTF.out
                have h2 := fst_le HTB0.out.ok (x : Int)
                rw [fst_at, h1, ← hfx] at h2
                omega
              have HPX := Lib.hid hp
              have HFX := Lib.hid hfx
              have j0 : (0 : Int) ≤ (x : Int) := Int.natCast_nonneg _
              have j1 : (x : Int) < (n : Int) := by omega
              have j2 : (x : Int) < 16 := by omega
              have j3 : IntKind.i64.wrap (fx : Int) = (fx : Int) := by rw [IntKind.wrap_i64]; omega
              have HX16 : Hid (x < 16) := show x < 16 by omega
              obtain ⟨ub, uo, hub⟩ := UAt.head HUW.out (by rw [HFN.out]; omega)
              subst hub
              unfold stV at HST
              clear hq hp hfx hxl
              go_wp2_with fail
              with_reducible refine HST.out.mono ?_
              rintro e wy ⟨rfl, hBy⟩
              have HTY : Hid (TB w0.heap.size w5 wy g bi ba ci v2 T2 ∧ Rec w0.heap.size wy g bi ba v2 bs bh bp T.l n) := ⟨HI.1.keep hBy, HI.2.below hBy⟩
              have hbq : ∀ j, wy.cell? ⟨qb, j, none⟩ = w5.cell? ⟨qb, j, none⟩ := fun j => World.cell?_of_block (HTY.out.1.bel.block qb HQL.out)
              have t0 : wy.cell? ⟨qb, 0, none⟩ = some (nV kk) := (hbq 0).trans HS.out.1
              have t1 : wy.cell? ⟨qb, 1, none⟩ = some (nV z1) := (hbq 1).trans HS.out.2.1
              obtain ⟨a0, a1, a2⟩ := HTY.out.2.get hxn HX16.out
              rw [← HPX.out] at a0 a1 a2
              have u0 := (HUW.out.keep (HB5.out.trans (HTY.out.1.bel.mono (by rw [← HQB.out]; exact Nat.le_of_lt HQL.out)))).cell (i := x) (by rw [HFN.out]; exact hxn)
              rw [← HFX.out] at u0
              clear hBy HST HI hbq
              by_cases h8 : kk = 8
              · have hq := HQR.out h8
                have hE := HE8.out h8
                subst h8
                subst hE
                subst hq
                by_cases hxz : (x : Int) = z1
                · subst hxz
                  go_wp2_with fail
                  go_roundw
                  case rel => exact ⟨x + 1, by omega, by go_num, HTY.out⟩
                  case measure => simp [intOf]; omega
                · skip
                  go_wp2_with fail
                  go_roundw
                  case rel => exact ⟨x + 1, by omega, by go_num, HTY.out⟩
                  case measure => simp [intOf]; omega
              · by_cases hxz : (x : Int) = z1
                · by_cases hE : E = 0
                  · subst hE
                    subst hxz
                    go_wp2_with fail
                    go_roundw
                    case rel => exact ⟨x + 1, by omega, by go_num, HTY.out⟩
                    case measure => simp [intOf]; omega
                  · have hq := HQP.out (.inr hE)
                    subst hq
                    subst hxz
                    go_wp2_with fail
                    go_roundw
                    case rel => exact ⟨x + 1, by omega, by go_num, HTY.out⟩
                    case measure => simp [intOf]; omega
                · have hq := HQP.out (.inl ⟨hxz, h8⟩)
                  subst hq
                  go_wp2_with fail
                  go_roundw
                  case rel => exact ⟨x + 1, by omega, by go_num, HTY.out⟩
                  case measure => simp [intOf]; omega
            · obtain rfl : x = n := by omega
              go_wp2_with fail
              go_meet
              exact HI.1
        case rest =>
          have HT9 := Lib.hid hcut
          clear hcut
          rename World => w9
          have HRU := Lib.hid (running_any w9 HT9.out.out.tb)
          have HBE := Lib.hid (HB5.out.trans (HT9.out.out.bel.mono (by rw [← HQB.out]; exact Nat.le_of_lt HQL.out)))
          by_cases hE0 : E = 0
          · subst hE0
            obtain ⟨⟨hd2, okb2⟩, hhd2⟩ : ∃ z, z = headOf T2.q := ⟨_, rfl⟩
            rw [← hhd2] at HRU
            clear hhd2
            go_wp2_with fail
            with_reducible refine HRU.out.mono ?_
            rintro e wz ⟨rfl, hwz⟩
            subst hwz
            go_wp2_with fail
            go_ret
            exact ⟨rfl, HBE.out⟩
          · have hT22 := HA2.out hE0
            rw [hT22, ← HHD.out] at HRU
            clear hT22
            go_wp2_with fail
            with_reducible refine HRU.out.mono ?_
            rintro e wz ⟨rfl, hwz⟩
            subst hwz
            go_wp2_with fail
            go_ret
            exact ⟨by simp, HBE.out⟩
end Go.Proofs.Ytkbafiepnnldeaa
