/-
  The law of those who are dropped or expire.
-/
import Derived.Test.YtfinleobgmdebaaLessP
import Derived.Test.YtfinleobgmdebaaWalkSums
namespace Go.Proofs.Ytfinleobgmdebaa
open Go.RowKit

def LdK (H : Nat) (w0 w : World) (s g b : Nat) (l : List Int) (k : Nat) : Prop := ∃ v S, SB H w0 w s g b v ⟨S, 0, 255⟩ ∧ Ld l k S
def RstK (H : Nat) (w0 w : World) (s g b : Nat) (l : List Int) (gone now : Int) (i : Nat) : Prop := ∃ v S, SB H w0 w s g b v ⟨S, 0, 255⟩ ∧ Rst l l.length gone now i S
/-- Behind the drop. -/
def MidK (H : Nat) (w0 w : World) (s g b : Nat) (l : List Int) (gone : Int) : Prop := ∃ v S, SB H w0 w s g b v ⟨S, 0, 255⟩ ∧ Ok S ∧ S.q = ((List.range l.length).filter fun (j : Nat) => !decide ((j : Int) = gone)).map (mkW l) ∧ S.n = 2 * l.length ∧ S.now = 0
theorem sig_one {S : Ln} {c m : Nat} (h : S.any = true) : (⟨S, c, m⟩ : Sm).sigE = (S.first, true, 0) ∧ (⟨S, c, m⟩ : Sm).sig = ⟨S.take, c, m⟩ := by
  unfold Sm.sigE Sm.sig
  exact ⟨if_pos h, if_pos h⟩
theorem sig_none {S : Ln} (h : S.any = false) : (⟨S, 0, 255⟩ : Sm).sigE = (0, false, 0) ∧ (⟨S, 0, 255⟩ : Sm).sig = ⟨S, 1, 255⟩ := by
  unfold Sm.sigE Sm.sig
  constructor
  · rw [if_neg (by show ¬ S.any = true; rw [h]; simp), if_neg (by show ¬ (0 : Nat) = 255; decide)]
  · rw [if_neg (by show ¬ S.any = true; rw [h]; simp), if_neg (by show ¬ (0 : Nat) = 255; decide)]
set_option maxHeartbeats 8000000 in
set_option maxRecDepth 100000 in
theorem walk_less (A : Option Addr) (c : Nat) (l : List Int) (d0 n0 : Int) (w : World) (hd : 0 ≤ d0 ∧ d0 ≤ 255) (hn : 0 ≤ n0 ∧ n0 ≤ 255) (hwf : ∀ y ∈ l, 0 ≤ y ∧ y ≤ 255) (hA : BytesAt w A l) (_ : l.length ≤ 140737488355328) :
    Calls Try.prog 6 #[.slice A l.length c, .int .u8 d0, .int .u8 n0] w fun e w' => e = .returned (.bool true) ∧ Below w.heap.size w w' := by
  have hnew := Lib.hid (fun W => show Calls Try.prog 7 #[nV 0, nV 255] W (fun e w' => NewP 0 255 W e w') from snew_ok 0 255 W (by omega) (by omega) (by omega))
  have haw := Lib.hid (fun W => awake_any W)
  have HCS := Lib.hid hA
  have hwl : ∀ i, 0 ≤ l.getD i 0 ∧ l.getD i 0 ≤ 255 := fun i => by
    rw [List.getD_eq_getElem?_getD]
    rcases Nat.lt_or_ge i l.length with h1 | h1
    · rw [List.getElem?_eq_getElem h1]; exact hwf _ (List.getElem_mem h1)
    · rw [List.getElem?_eq_none h1]; show 0 ≤ (0 : Int) ∧ (0 : Int) ≤ 255; omega
  have HWL := Lib.hid hwl
  clear hA hwf hwl
  go_enter Try.func6, Try.ntmps6
  go_wp2_with fail
  with_reducible refine (hnew.out _).mono ?_
  rintro e w1 ⟨s, g, b, rfl, hL, hk, hB⟩
  have L0 := Lib.hid (SB.new hL hk hB)
  clear hL hk hB hnew
  go_wp2_with fail
  with_reducible refine (haw.out _).mono ?_
  rintro e w2 ⟨rfl, hB2⟩
  by_cases h40 : 40 < l.length
  · have i1 : (40 : Int) < (l.length : Int) := by omega
    have HB := Lib.hid (L0.out.keep hB2)
    clear L0 hB2 h40
    go_wp2_with fail
    with_reducible refine (haw.out _).mono ?_
    rintro e w3 ⟨rfl, hB3⟩
    have HBB := Lib.hid (HB.out.keep hB3).bel
    clear hB3 HB
    go_wp2_with fail
    go_ret
    exact ⟨rfl, HBB.out⟩
  have h40' : l.length ≤ 40 := by omega
  have i40 : ¬ (40 : Int) < (l.length : Int) := by omega
  have HK0 : Hid (LdK w.heap.size w w2 s g b l 0) := ⟨_, _, L0.out.keep hB2, Ld.new l⟩
  clear L0 hB2 haw h40
  go_wp2_with fail
  go_loopw [9, 10, 11, 12] (fun kv _ _ _ wr => ∃ k : Nat, kv = .int .i64 k ∧ k ≤ l.length ∧ Hid (LdK w.heap.size w wr s g b l k)) (fun kv _ _ _ _ => 41 - (intOf kv).toNat)
  case atStart => exact ⟨0, rfl, Nat.zero_le _, HK0⟩
  case round =>
    obtain ⟨k, rfl, hkl, HK⟩ := hrel
    clear HK0
    have i0 : (0 : Int) ≤ (k : Int) := Int.natCast_nonneg _
    by_cases hl1 : k < l.length
    · obtain ⟨v, S, hSB, hC⟩ := HK.out
      obtain ⟨bb, oo, rfl, c0⟩ := (HCS.out.keep hSB.bel).get hl1
      have hyr := HWL.out k
      have hw := wait_ld (m := 255) hC (by omega) hyr
      have hst := hC.step (by omega) hyr
      have HC := Lib.hid (wait_few k 5 (U l k) (by unfold I64; omega) hSB (by have h1 := hC.n; have h2 := congrArg List.length hC.q; rw [List.length_map, List.length_range] at h2; exact ⟨by show S.q.length ≤ 900; omega, by show S.n ≤ 900; omega, by show 0 ≤ 255; omega⟩))
      have HX := Lib.hid (And.intro hSB (And.intro hw hst))
      have hU : U l k = if 0 < l.getD k 0 then l.getD k 0 else -1 := rfl
      have i1 : (k : Int) < (l.length : Int) := by omega
      have j1 : IntKind.i64.wrap ((k : Int) + 1) = (k : Int) + 1 := by rw [IntKind.wrap_i64]; omega
      obtain ⟨u, hu⟩ : ∃ u, u = U l k := ⟨_, rfl⟩
      obtain ⟨y, hy⟩ : ∃ y, y = l.getD k 0 := ⟨_, rfl⟩
      rw [← hu] at HC HX hU
      rw [← hy] at c0 hyr hU
      have e1 : IntKind.i64.wrap y = y := by rw [IntKind.wrap_i64]; omega
      have HU := Lib.hid hu
      clear hy hu hw hst hSB hC HK
      by_cases hy0 : 0 < y
      · rw [if_pos hy0] at hU
        subst hU
        go_wp2_with fail
        with_reducible refine HC.out.mono ?_
        rintro e w3 ⟨he, hP⟩
        obtain ⟨hSB, hw, hst⟩ := HX.out
        rw [hw.1] at he
        rw [hw.2] at hP
        obtain rfl := he
        obtain ⟨v', hS, _⟩ := hSB.step hP
        have HF : Hid (LdK w.heap.size w w3 s g b l (k + 1)) := ⟨v', _, hS, by rw [HU.out] at *; exact hst⟩
        clear HC HX hP hSB hw hst hS HU
        go_wp2_with fail
        go_roundw
        case rel => exact ⟨k + 1, by go_num, by omega, HF⟩
        case measure => first | (simp [intOf]; done) | (simp [intOf]; omega)
      · rw [if_neg hy0] at hU
        subst hU
        go_wp2_with fail
        with_reducible refine HC.out.mono ?_
        rintro e w3 ⟨he, hP⟩
        obtain ⟨hSB, hw, hst⟩ := HX.out
        rw [hw.1] at he
        rw [hw.2] at hP
        obtain rfl := he
        obtain ⟨v', hS, _⟩ := hSB.step hP
        have HF : Hid (LdK w.heap.size w w3 s g b l (k + 1)) := ⟨v', _, hS, hst⟩
        clear HC HX hP hSB hw hst hS HU
        go_wp2_with fail
        go_roundw
        case rel => exact ⟨k + 1, by go_num, by omega, HF⟩
        case measure => first | (simp [intOf]; done) | (simp [intOf]; omega)
    · obtain rfl : k = l.length := by omega
      clear hl1 hkl
      go_upto_if 73 with fail
      obtain ⟨n, hn'⟩ : ∃ n, n = l.length := ⟨_, rfl⟩
      have HN := Lib.hid hn'
      go_cut [13] (fun gv wx => ∃ gone : Int, gv = .int .i64 gone ∧ Hid (MidK w.heap.size w wx s g b l gone))
      case first =>
        by_cases hl0 : 0 < l.length
        · obtain ⟨v, S, hSB, hC⟩ := HK.out
          have i2 : (0 : Int) < (l.length : Int) := by omega
          obtain ⟨g0, hg0⟩ : ∃ g0 : Nat, (g0 : Int) = d0 % (l.length : Int) := ⟨(d0 % (l.length : Int)).toNat, by have := Int.emod_nonneg d0 (show ((l.length : Nat) : Int) ≠ 0 by omega); omega⟩
          have hgl : g0 < l.length := by have := Int.emod_lt_of_pos d0 i2; omega
          obtain ⟨hde, hd1, hd2, hd3, hd4⟩ := hC.drop h40' hgl
          have hlen := congrArg List.length hC.q
          rw [List.length_map, List.length_range] at hlen
          have HC := Lib.hid (drop_any (g0 : Int) (by unfold I64; omega) wr hSB.sm.ln (by show S.q.length ≤ 100000; omega))
          have k0 := hSB.sm.c0
          have HX := Lib.hid (And.intro hSB (And.intro hd1 (And.intro hd2 (And.intro hd3 hd4))))
          have HDE := Lib.hid hde
          clear hSB hC hde hd1 hd2 hd3 hd4 hlen HK hgl
          have HG := Lib.hid hg0
          clear hg0
          go_upto_region 16 with fail
          rw [← HG.out]
          clear HG
          go_wp2_with fail
          with_reducible refine HC.out.mono ?_
          rintro e w3 ⟨rfl, hP⟩
          rw [HDE.out]
          obtain ⟨hSB, hd1, hd2, hd3, hd4⟩ := HX.out
          obtain ⟨v', hS, _⟩ := hSB.step (hSB.sm.line hP)
          have HF : Hid (MidK w.heap.size w w3 s g b l (g0 : Int)) := ⟨v', _, hS, hd1, hd2, hd3, hd4⟩
          clear HC HX HDE hSB hd1 hd2 hd3 hd4 hS hP k0
          go_wp2_with fail
          all_goals go_meet
          all_goals exact ⟨g0, rfl, HF⟩
        · have HX : Hid (MidK w.heap.size w wr s g b l (-1)) := by
            obtain ⟨v, S, h1, h2⟩ := HK.out
            exact ⟨v, S, h1, h2.ok, h2.rest0, h2.n, h2.now⟩
          have hl1 : ¬ (0 : Int) < (l.length : Int) := by omega
          clear hl0 HK
          go_wp2_with fail
          all_goals go_meet
          all_goals exact ⟨-1, rfl, HX⟩
      case rest =>
        obtain ⟨gone, rfl, HM⟩ := hcut
        clear HK
        obtain ⟨v, S, hSB, hok, hq, hSn, hnow⟩ := HM.out
        obtain ⟨he, hr⟩ := rst_of hok hq hSn hnow HWL.out hn
        have hlen := congrArg List.length hq
        rw [List.length_map] at hlen
        have hlen2 := Nat.le_trans (Nat.le_of_eq hlen) (List.length_filter_le _ _)
        rw [List.length_range] at hlen2
        have e1 : IntKind.i64.wrap n0 = n0 := by rw [IntKind.wrap_i64]; omega
        have HC := Lib.hid (exp_any n0 wc hSB.sm.ln (by show S.q.length ≤ 1000; omega))
        have k0 := hSB.sm.c0
        have HX := Lib.hid (And.intro hSB hr)
        have HE := Lib.hid he
        clear hSB hok hq hSn hnow he hr hlen hlen2 HM
        go_wp2_with fail
        with_reducible refine HC.out.mono ?_
        rintro e w3 ⟨d, rfl, _, ⟨v1, h1, h2, h3⟩, _⟩
        rw [HE.out]
        obtain ⟨hSB, hr⟩ := HX.out
        obtain ⟨v', hS, _⟩ := hSB.step (hSB.sm.line (same_ln h1 h2 h3))
        have HR0 : Hid (RstK w.heap.size w w3 s g b l gone n0 0) := ⟨v', _, hS, hr⟩
        clear HC HX HE hSB hr hS h1 h2 h3 k0
        go_wp2_with fail
        go_loopw [16, 17, 18, 19] (fun jv _ _ _ wr => ∃ j : Nat, jv = .int .i64 j ∧ j ≤ l.length ∧ Hid (RstK w.heap.size w wr s g b l gone n0 j)) (fun jv _ _ _ _ => 41 - (intOf jv).toNat)
        case atStart => exact ⟨0, rfl, Nat.zero_le _, HR0⟩
        case round =>
          obtain ⟨j, rfl, hjl, HK⟩ := hrel
          clear HR0
          have i2 : (0 : Int) ≤ (j : Int) := Int.natCast_nonneg _
          by_cases hl1 : j < l.length
          · obtain ⟨v, S, hSB, hC⟩ := HK.out
            obtain ⟨bb, oo, rfl, c0⟩ := (HCS.out.keep hSB.bel).get hl1
            have hyr := HWL.out j
            obtain ⟨y, hy⟩ : ∃ y, y = l.getD j 0 := ⟨_, rfl⟩
            have hsk : skips l gone n0 j = (decide ((j : Int) = gone) || (decide (0 < y) && decide (y ≤ n0))) := by rw [hy]; rfl
            rw [← hy] at c0 hyr
            have i1 : (j : Int) < (l.length : Int) := by omega
            have j1 : IntKind.i64.wrap ((j : Int) + 1) = (j : Int) + 1 := by rw [IntKind.wrap_i64]; omega
            have HY := Lib.hid hy
            clear hy
            by_cases hg : (j : Int) = gone
            · have HF : Hid (RstK w.heap.size w wr s g b (l) gone n0 (j + 1)) := ⟨v, S, hSB, hC.skip hl1 (by rw [hsk, decide_eq_true hg]; rfl)⟩
              clear hsk hSB hC HK HY
              go_wp2_with fail
              go_roundw
              case rel => exact ⟨j + 1, by go_num, by omega, HF⟩
              case measure => first | (simp [intOf]; done) | (simp [intOf]; omega)
            · by_cases hyy : 0 < y ∧ y ≤ n0
              · obtain ⟨hy1, hy2⟩ := hyy
                have HF : Hid (RstK w.heap.size w wr s g b (l) gone n0 (j + 1)) := ⟨v, S, hSB, hC.skip hl1 (by rw [hsk, decide_eq_true hy1, decide_eq_true hy2, Bool.and_self, Bool.or_true])⟩
                clear hsk hSB hC HK HY
                go_wp2_with fail
                go_roundw
                case rel => exact ⟨j + 1, by go_num, by omega, HF⟩
                case measure => first | (simp [intOf]; done) | (simp [intOf]; omega)
              · have hsf : skips l gone n0 j = false := by
                  rw [hsk, decide_eq_false hg, Bool.false_or, ← Bool.decide_and, decide_eq_false hyy]
                obtain ⟨ha, hf, hnx⟩ := hC.take h40' hl1 hsf
                have hs := sig_one (c := 0) (m := 255) ha
                rw [hf] at hs
                have HC := Lib.hid (signal_few hSB (by have h1 := hC.n; have h2 := hC.len; exact ⟨by show S.q.length ≤ 900; omega, by show S.n ≤ 900; omega, by show 0 ≤ 255; omega⟩))
                have HX := Lib.hid (And.intro hSB (And.intro hs hnx))
                have hyq : 0 < y → ¬ y ≤ n0 := fun h h' => hyy ⟨h, h'⟩
                clear hsk hsf ha hf hs hnx hSB hC HK hyy HY
                go_wp2_with fail
                all_goals with_reducible refine HC.out.mono ?_
                all_goals rintro e w4 ⟨he, hP⟩
                all_goals obtain ⟨hSB, hs, hnx⟩ := HX.out
                all_goals rw [hs.1] at he
                all_goals rw [hs.2] at hP
                all_goals obtain rfl := he
                all_goals obtain ⟨v', hS, _⟩ := hSB.step hP
                all_goals have HF : Hid (RstK w.heap.size w w4 s g b l gone n0 (j + 1)) := ⟨v', _, hS, hnx⟩
                all_goals clear HC HX hSB hs hnx hP hS
                all_goals go_wp2_with fail
                all_goals go_roundw
                case rel => exact ⟨j + 1, by go_num, by omega, HF⟩
                case measure => first | (simp [intOf]; done) | (simp [intOf]; omega)
                case rel => exact ⟨j + 1, by go_num, by omega, HF⟩
                case measure => first | (simp [intOf]; done) | (simp [intOf]; omega)
          · obtain rfl : j = l.length := by omega
            obtain ⟨v, S, hSB, hC⟩ := HK.out
            obtain ⟨hs1, hs2⟩ := sig_none hC.none
            have HC := Lib.hid (signal_few hSB (by have h1 := hC.n; have h2 := hC.len; exact ⟨by show S.q.length ≤ 900; omega, by show S.n ≤ 900; omega, by show 0 ≤ 255; omega⟩))
            have HX := Lib.hid (And.intro hSB (And.intro hs1 hs2))
            clear hs1 hs2 hSB hC HK hl1
            go_wp2_with fail
            with_reducible refine HC.out.mono ?_
            rintro e w4 ⟨he, hP⟩
            obtain ⟨hSB, hs1, hs2⟩ := HX.out
            rw [hs1] at he
            rw [hs2] at hP
            obtain rfl := he
            obtain ⟨v', hS, _⟩ := hSB.step hP
            have HN := Lib.hid (show Calls Try.prog 17 #[.pointer (some ⟨s, 0, none⟩)] w4 (fun e w' => e = .returned (nV 1) ∧ w4 = w') from count_any w4 hS.sm)
            have HBB := Lib.hid hS.bel
            clear HC HX hSB hs1 hs2 hP hS
            go_wp2_with fail
            with_reducible refine HN.out.mono ?_
            rintro e w5 ⟨rfl, rfl⟩
            go_wp2_with fail
            go_ret
            exact ⟨rfl, HBB.out⟩
end Go.Proofs.Ytfinleobgmdebaa
