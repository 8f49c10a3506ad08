/-
  The chapter's example answers as it says.
-/
import Derived.Test.YtnmobalgghggnaaDoorAwk
namespace Go.Proofs.YtnmobalgghggnaaDoor
open Go.RowKit

/-- What awake leaves. -/
def AwakeP (w : World) (e : Ending) (w' : World) : Prop := e = .returned (.bool true) ∧ Below w.heap.size w w'
set_option maxHeartbeats 8000000 in
set_option maxRecDepth 100000 in
theorem awake_any (w : World) (hG : GOk w) : Calls Tryd.prog 9 #[] w fun e w' => AwakeP w e w' := by
  have HG := Lib.hid hG
  have HWO := Lib.hid (fun W => rwords_any 2 5 W)
  rw [ex_words.1, ex_words.2.1] at HWO
  clear hG
  go_enter Tryd.func9, Tryd.ntmps9
  go_wp2_with fail
  with_reducible refine (HWO.out _).mono ?_
  rintro e w0 ⟨rfl, rfl⟩
  go_wp2_with fail
  with_reducible refine (new_one 8 (by omega) (by omega) 8 rfl _).mono ?_
  rintro e w1 ⟨g, b, rfl, hM1, hg1, hb1, hB1⟩
  have HM1 := Lib.hid hM1
  have HI1 := Lib.hid (And.intro hg1 hb1)
  have HB1 := Lib.hid hB1
  clear hM1 hg1 hb1 hB1
  go_wp2_with fail
  with_reducible refine (news_ok 0 2 5 2 5 2 2 _ exL _ rfl rfl (ex_strs w1) rfl (by omega) ex_words.2.2 (by omega) exL_good).mono ?_
  rintro e w2 ⟨B, LB, rfl, hT2, hs2, hl2, _, hB2⟩
  have hA2 : Below w1.heap.size w1 w2 := ((Below.refl _ _).alloc (Nat.le_refl _) _).trans (hB2.mono (by simp))
  have HT2 := Lib.hid hT2
  have HB2 := Lib.hid hA2
  have HS2 := Lib.hid (show w1.heap.size ≤ B ∧ w1.heap.size ≤ LB by simp at hs2 hl2; omega)
  clear hT2 hs2 hl2 hB2 hA2
  go_wp2_with fail
  with_reducible refine (newr_ok 0 2 5 1 2 5 1 w2 rfl rfl rfl ex_words.2.2 (by omega)).mono ?_
  rintro e w3 ⟨C, rfl, hU3, hs3, hB3⟩
  have HSY := Lib.hid (sysR_new HG.out HM1.out HI1.out HB1.out HT2.out HB2.out HS2.out hU3 hB3 hs3 exS_wf exR_wf (by omega) ((HM1.out.keep HB2.out).keep hB3) (Chg.refl w3) (fun i _ => by omega) (by omega))
  clear hU3 hs3 hB3
  go_wp2_with fail
  go_loopw [9] (fun i wr => ∃ k : Nat, k ≤ 5 ∧ i = .int .i64 k ∧ SysR w 8 g B C (exS k).1 (rv0 0 2 5 1) (exS k).2 (1000 + k) wr) (fun i _ => 5 - (intOf i).toNat)
  case atStart => exact ⟨0, by omega, rfl, HSY.out⟩
  case round =>
    obtain ⟨k, hk, rfl, hS⟩ := hrel
    have HS := Lib.hid hS
    clear hS
    by_cases hlt : k < 5
    · have HST := Lib.hid (run_s HS.out (by omega))
      have hph := exS_ph k hlt
      rw [hph] at HST
      have hk5 : (k : Int) < 5 := by omega
      clear hph
      go_wp2_with fail
      with_reducible refine HST.out.mono ?_
      rintro e w4 ⟨rfl, hS4⟩
      have HS4 := Lib.hid hS4
      clear hS4
      go_wp2_with fail
      go_roundw
      case rel => exact ⟨k + 1, by omega, by go_num, by rw [show (1000 : Int) + ((k + 1 : Nat) : Int) = 1000 + k + 1 by omega]; exact HS4.out⟩
      case measure => simp [intOf]; omega
    · obtain rfl : k = 5 := by omega
      go_wp2_with fail
      with_reducible refine (run_words HS.out).mono ?_
      rintro e w5 ⟨d5, rfl, hO5, hd5, hB5⟩
      have HS5 := Lib.hid (HS.out.keep hB5)
      have HO5 := Lib.hid hO5
      have HB5 := Lib.hid hB5
      have hd5 := Lib.hid hd5
      clear hO5 hB5
      have HSE := Lib.hid (run_sent HS5.out)
      rw [exS_sent] at HSE
      go_wp2_with fail
      with_reducible refine HSE.out.mono ?_
      rintro e w6 ⟨d6, rfl, hR6, hd6, hB6⟩
      have HO6 := Lib.hid (World.rowIs.of_block HO5.out (hB6.block _ (World.rowIs.lt HO5.out)))
      have HB56 := Lib.hid (below_two HB5.out hB6)
      obtain ⟨o, hK, ho⟩ := HS.out.seen
      have HK6 := Lib.hid (hK.later HB56.out)
      have HR6 := Lib.hid hR6
      have HD := Lib.hid (And.intro hd5.out (Nat.le_trans HB5.out.size hd6))
      have HOO := Lib.hid ho
      have HB06 := Lib.hid (HS.out.bel.trans (HB56.out.mono HS.out.bel.size))
      clear hB6 hR6 hd6 hK ho
      go_wp2_with fail
      go_loopw [12] (fun i wr2 => ∃ k : Nat, k ≤ 4 ∧ i = .int .i64 k ∧ SysK w6 o 8 g B C (exS 5).1 (exR k).1 (exR k).2 (1005 + k) wr2) (fun i _ => 4 - (intOf i).toNat)
      case atStart => exact ⟨0, by omega, rfl, HK6.out⟩
      case round =>
        obtain ⟨k, hk, rfl, hS⟩ := hrel
        have HSK := Lib.hid hS
        clear hS
        by_cases hlt : k < 4
        · have HST := Lib.hid (seen_r HSK.out (by omega))
          have hph := exR_ph k hlt
          rw [hph] at HST
          have hk4 : (k : Int) < 4 := by omega
          clear hph
          go_wp2_with fail
          with_reducible refine HST.out.mono ?_
          rintro e w7 ⟨rfl, hS7⟩
          have HS7 := Lib.hid hS7
          clear hS7
          go_wp2_with fail
          go_roundw
          case rel => exact ⟨k + 1, by omega, by go_num, by rw [show (1005 : Int) + ((k + 1 : Nat) : Int) = 1005 + k + 1 by omega]; exact HS7.out⟩
          case measure => simp [intOf]; omega
        · obtain rfl : k = 4 := by omega
          have HST := Lib.hid (seen_r HSK.out (by omega))
          rw [exR_end] at HST
          go_wp2_with fail
          with_reducible refine HST.out.mono ?_
          rintro e w7 ⟨rfl, hS7⟩
          have HS7 := Lib.hid (hS7.back HB06.out fun k hk => (HOO.out k hk).1)
          have hC := hS7.chg
          have hn5 : ¬ o d5 := fun h => by have := (HOO.out _ h).2; have := HD.out.1; omega
          have hn6 : ¬ o d6 := fun h => by have := (HOO.out _ h).2; have := HD.out.2; omega
          have HO7 := Lib.hid (World.rowIs.of_block HO6.out (hC.block _ (World.rowIs.lt HO6.out) hn5))
          have hr7 : RowL w7 d6 4 ([true].map Value.bool) := World.rowIs.of_block HR6.out (hC.block _ (World.rowIs.lt HR6.out) hn6)
          have HR7 := Lib.hid hr7
          clear hS7 hC hn5 hn6 hr7
          have HGO := Lib.hid (run_got HS7.out)
          rw [exR_got] at HGO
          go_wp2_with fail
          with_reducible refine HGO.out.mono ?_
          rintro e w8 ⟨d8, rfl, hR8, hd8, hB8⟩
          have hO8 : OwnU w8 d5 8 (exS 5).2 := World.rowIs.of_block HO7.out (hB8.block _ (World.rowIs.lt HO7.out))
          have c0 := hO8.cell (i := 0) (by omega)
          have c1 := hO8.cell (i := 1) (by omega)
          have c2 := hO8.cell (i := 2) (by omega)
          have c3 := hO8.cell (i := 3) (by omega)
          have c4 := hO8.cell (i := 4) (by omega)
          rw [exF0] at c0
          rw [exF1] at c1
          rw [exF2] at c2
          rw [exF3] at c3
          rw [exF4] at c4
          have s0 := RowL.cell (RowL.keep HR7.out hB8) (i := 0) (by decide)
          have g0 := RowL.cell hR8 (i := 0) (by decide)
          have s0 : w8.cell? ⟨d6, 0, none⟩ = some (.bool true) := s0
          have g0 : w8.cell? ⟨d8, 0, none⟩ = some (.string ⟨#[97, 98]⟩) := g0
          have HB8 := Lib.hid (HS7.out.keep hB8).bel
          clear hR8 hd8 hB8 hO8
          go_wp2_with fail
          go_ret
          exact ⟨rfl, HB8.out⟩
end Go.Proofs.YtnmobalgghggnaaDoor
