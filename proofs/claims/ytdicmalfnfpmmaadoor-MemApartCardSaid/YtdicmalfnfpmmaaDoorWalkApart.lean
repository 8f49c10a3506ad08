/-
  The walk of MemApart.
-/
import Derived.Test.YtdicmalfnfpmmaaDoorPlays
import Derived.Deep.RegionHeld3
namespace Go.Proofs.YtdicmalfnfpmmaaDoor
open Go.RowKit

theorem new_st (m : Nat) (w : World) (hG : GOk w) (hm : m ≤ 255) :
    Calls Tryd.prog 8 #[.int .i64 (1 + (m : Int))] w fun e w' => ∃ g b, e = .returned (.tuple #[.pointer (some ⟨g, 0, none⟩), .int .i64 0]) ∧ St w.heap.size w g b (m + 1) (fun _ => 0) 0 w' := by
  rw [show (1 + (m : Int)) = ((m + 1 : Nat) : Int) by omega]
  exact (new_yes (m + 1) w (by omega) (by omega)).mono fun _ _ ⟨g, b, e, hM, h1, h2, hB⟩ => ⟨g, b, e, St.new hG hM h1 h2 hB⟩
theorem St.does {B : Nat} {w0 : World} {g b n : Nat} {f : Nat → Int} {c : Int} {w w' : World} {K : Nat} {at' old v : Int} (h : St B w0 g b n f c w) (hM : MemAt w' g b n (stepF K at' old v n f) (stepC n at' c)) (hE : Else g b w w') : St B w0 g b n (stepF K at' old v n f) (stepC n at' c) w' := h.step hM hE
theorem XB.from {W w : World} {s : Nat} {K at' old v : Int} (h : XB W s K at' old v) (hB : Below W.heap.size W w) : XB w s K at' old v := h.keep hB
theorem step_far {K n : Nat} {at' old v : Int} {f : Nat → Int} {i : Nat} (h : stepF K at' old v n f i ≠ f i) : at' = i ∧ inN n at' = true := by
  unfold stepF at h
  by_cases e : inN n at' = true
  · rw [if_pos e] at h
    refine ⟨?_, e⟩
    unfold inN at e
    simp at e
    unfold setF at h
    split at h
    · omega
    · exact absurd rfl h
  · rw [if_neg e] at h
    exact absurd rfl h

set_option maxHeartbeats 8000000 in
set_option maxRecDepth 100000 in
theorem walk_apart (n : Int) (A : Option Addr) (cap : Nat) (l : List UseA) (x : UseA) (w : World) (hG : GOk w) (hn : 0 ≤ n ∧ n < 256) (hwf : ∀ y ∈ l, WfUse y) (hA : UsesAt w A l) (_ : l.length ≤ 140737488355328) (hx : WfUse x) :
    Calls Tryd.prog 4 #[.int .u8 n, .slice A l.length cap, .agg (xC x).toArray] w fun e w' => e = .returned (.bool true) ∧ Below w.heap.size w w' := by
  obtain ⟨m, rfl⟩ := Int.eq_ofNat_of_zero_le hn.1
  have hm : m ≤ 255 := by omega
  obtain ⟨x0, x1, x2, x3⟩ := x
  obtain ⟨_, ⟨w10, w11⟩, _, _⟩ := hx
  simp only [xC]
  have HWF := Lib.hid hwf
  have hB0 : Below w.heap.size w (w.alloc (.cells #[.int .i64 x0, .int .i64 x1, .int .u32 x2, .int .u32 x3] 35)) := (Below.refl _ _).alloc (Nat.le_refl _) _
  have HB0 := Lib.hid hB0
  have HG := Lib.hid (hG.keep hB0)
  have HA := Lib.hid (hA.wide hB0)
  have HXB := Lib.hid (XB.new w x0 x1 x2 x3)
  have HM := Lib.hid hm
  obtain ⟨W, hW⟩ : ∃ W, W = w.alloc (.cells #[.int .i64 x0, .int .i64 x1, .int .u32 x2, .int .u32 x3] 35) := ⟨_, rfl⟩
  rw [← hW] at HB0 HG HA HXB
  have HW := Lib.hid hW
  clear hG hA hwf hB0 hW hn
  go_enter Tryd.func4, Tryd.ntmps4
  go_wp2_with fail
  rw [← HW.out]
  with_reducible refine (new_st m _ HG.out HM.out).mono ?_
  rintro e w1 ⟨g, b, rfl, h⟩
  have H1 := Lib.hid h
  clear h
  go_wp2_with fail
  with_reducible refine (awake_any _ H1.out.gok).mono ?_
  rintro e w2 ⟨rfl, h⟩
  have H2 := Lib.hid (H1.out.keep h)
  clear h
  go_wp2_with fail
  go_loopw [9] (fun i wr => ∃ (j : Nat) (f : Nat → Int) (c : Int), j ≤ 40 ∧ i = .int .i64 j ∧ 0 ≤ c ∧ c ≤ j ∧ St W.heap.size W g b (m + 1) f c wr) (fun i _ => 40 - (intOf i).toNat)
  case atStart => exact ⟨0, _, _, by omega, rfl, Int.le_refl _, Int.le_refl _, H2.out⟩
  case round =>
    obtain ⟨j, f, c, hj, rfl, hc0, hcj, hst⟩ := hrel
    have HS := Lib.hid hst
    have HC := Lib.hid (show (0:Int) ≤ c ∧ c ≤ 1000 from ⟨hc0, by omega⟩)
    have HCJ := Lib.hid hcj
    by_cases hlt : j < 40 ∧ j < l.length
    · obtain ⟨h40, hlt⟩ := hlt
      obtain ⟨y, hy⟩ : ∃ y, y = l.getD j dX := ⟨_, rfl⟩
      obtain ⟨b0, o0, rfl⟩ := Arr.head HA.out hlt
      obtain ⟨z0, z1, z2, z3⟩ := UsesAt.cell (UsesAt.wide HA.out hst.bel) hlt hy
      obtain ⟨y0, y1, y2, y3⟩ := y
      dsimp only at z0 z1 z2 z3
      have HUS := Lib.hid (fun W => use_any y0 y1 y2 y3 W)
      have HDO := Lib.hid (fun W hG hM => does_any (kindN y0) y1 y2 y3 g b (m + 1) f c W (kindN_le y0) hG hM (by have := HM.out; omega) HC.out)
      have HSC := Lib.hid (stepC_rng (n := m + 1) (at' := y1) hc0 hcj)
      generalize kindN y0 = K at HUS HDO
      simp only [xV] at HUS HDO
      clear hy hst hc0 hcj
      go_wp2_with fail
      with_reducible refine (HUS.out _).mono ?_
      rintro e w4 ⟨rfl, hB⟩
      have HS4 := Lib.hid (HS.out.keep hB)
      clear hB z0 z1 z2 z3
      go_wp2_with fail
      with_reducible refine (HDO.out _ HS4.out.gok HS4.out.mem).mono ?_
      rintro e w5 ⟨rfl, hM, hE⟩
      have HS5 := Lib.hid (HS4.out.does hM hE)
      clear hM hE
      go_wp2_with fail
      go_roundw
      case rel => exact ⟨j + 1, _, _, by omega, by go_num, HSC.out.1, by have := HSC.out.2; omega, HS5.out⟩
      case measure => simp [intOf]; omega
    · have hex : (40 ≤ j ∧ j < l.length) ∨ (40 ≤ j ∧ l.length ≤ j) ∨ (j < 40 ∧ l.length ≤ j) := by omega
      have HUS := Lib.hid (fun W => use_any x0 x1 x2 x3 W)
      have HDO := Lib.hid (fun W hG hM => does_any (kindN x0) x1 x2 x3 g b (m + 1) f c W (kindN_le x0) hG hM (by have := HM.out; omega) HC.out)
      generalize kindN x0 = K at HUS HDO
      simp only [xV] at HUS HDO
      obtain ⟨er, her⟩ : ∃ er, er = errS (m + 1) x1 := ⟨_, rfl⟩
      rw [← her] at HDO
      have HER := Lib.hid her
      clear her
      clear hst hc0 hcj
      rcases hex with ⟨h40, hge⟩ | ⟨h40, hge⟩ | ⟨h40, hge⟩
      all_goals
        clear hlt
        go_wp2_with fail
        with_reducible refine (words_any g b (m + 1) f c _ HS.out.mem (by have := HM.out; omega)).mono ?_
        rintro e w3 ⟨d1, rfl, hO1, hd1, hB⟩
        have hs3 := HS.out.keep hB
        obtain ⟨z0, z1, z2, z3⟩ := HXB.out.keep hs3.bel
        have HS3 := Lib.hid hs3
        have hg1 : d1 ≠ g := by have := HS.out.mem.ltg; omega
        have hb1 : d1 ≠ b := by have := HS.out.mem.row.lt; omega
        have HD1 := Lib.hid (And.intro hg1 hb1)
        have HO1 := Lib.hid hO1
        clear hO1 hd1 hB hs3 hg1 hb1
        go_wp2_with fail
        with_reducible refine (HUS.out _).mono ?_
        rintro e w4 ⟨rfl, hB⟩
        have HS4 := Lib.hid (HS3.out.keep hB)
        have HO4 := Lib.hid (show OwnU w4 d1 (m + 1) f from HO1.out.of_block (hB.block _ HO1.out.lt))
        clear hB z0 z1 z2 z3
        go_wp2_with fail
        with_reducible refine (HDO.out _ HS4.out.gok HS4.out.mem).mono ?_
        rintro e w5 ⟨rfl, hM, hE⟩
        have HS5 := Lib.hid (HS4.out.does hM hE)
        have HO5 := Lib.hid (show OwnU w5 d1 (m + 1) f from HO4.out.of_block (hE.block _ HO4.out.lt HD1.out.1 HD1.out.2))
        clear hM hE
        go_wp2_with fail
        with_reducible refine (words_any g b (m + 1) _ _ _ HS5.out.mem (by have := HM.out; omega)).mono ?_
        rintro e w6 ⟨d2, rfl, hO2, hd2, hB⟩
        have HS6 := Lib.hid (HS5.out.keep hB)
        have HO6 := Lib.hid (show OwnU w6 d1 (m + 1) f from HO5.out.of_block (hB.block _ HO5.out.lt))
        have HQ6 := Lib.hid hO2
        clear hO2 hd2 hB
        have e1 : 1 + (m : Int) = ((m + 1 : Nat) : Int) := by omega
        go_wp2_with fail
        go_loopw [14] (fun i wx => ∃ k : Nat, k ≤ m + 1 ∧ i = .int .i64 k ∧ Below w6.heap.size w6 wx) (fun i _ => m + 1 - (intOf i).toNat)
        case atStart => exact ⟨0, by omega, rfl, Below.refl _ _⟩
        case round =>
          obtain ⟨k, hk, rfl, hB⟩ := hrel
          have HBX := Lib.hid hB
          obtain ⟨z0, z1, z2, z3⟩ := HXB.out.keep (HS6.out.bel.trans (hB.mono HS6.out.hB))
          by_cases hkm : k < m + 1
          · have p0 := kept (HO6.out.cell hkm) hB
            have p1 := kept (HQ6.out.cell hkm) hB
            obtain ⟨u, hu⟩ : ∃ u, u = f k := ⟨_, rfl⟩
            obtain ⟨v, hv⟩ : ∃ v, v = stepF K x1 x2 x3 (m + 1) f k := ⟨_, rfl⟩
            rw [← hu] at p0
            rw [← hv] at p1
            clear hB
            by_cases e : v = u
            · subst e
              clear hu hv
              go_wp2_with fail
              go_quiet (fail)
              go_wp2_with fail
              all_goals
                go_roundw
                case rel => exact ⟨k + 1, by omega, by go_num, below_drewN HBX.out _⟩
                case measure => simp [intOf]; omega
            · obtain ⟨hk1, hk2⟩ := step_far (K := K) (n := m + 1) (at' := x1) (old := x2) (v := x3) (f := f) (i := k) (by rw [← hu, ← hv]; exact e)
              have he0 : er = 0 := by rw [HER.out]; unfold errS; rw [if_pos hk2]
              clear hu hv hk2
              subst hk1 he0
              go_wp2_with fail
              go_quiet (fail)
              go_wp2_with fail
              all_goals
                go_roundw
                case rel => exact ⟨k + 1, by omega, by go_num, below_drewN HBX.out _⟩
                case measure => simp [intOf]; omega
          · clear hB
            have HFIN := Lib.hid (HB0.out.trans ((HS6.out.bel.trans (HBX.out.mono HS6.out.hB)).mono HB0.out.size))
            by_cases hin : inN (m + 1) x1 = true
            · have he0 : er = 0 := by rw [HER.out]; unfold errS; rw [if_pos hin]
              clear hin
              go_wp2_with fail
              all_goals
                go_ret
                exact ⟨by first | rfl | (simp; done) | (simp; omega), HFIN.out⟩
            · have he0 : er = 81 := by rw [HER.out]; unfold errS; rw [if_neg hin]
              have hr : x1 < 0 ∨ (m : Int) < x1 := by
                unfold inN at hin
                simp at hin
                omega
              clear hin
              rcases hr with hr | hr
              all_goals
                go_wp2_with fail
                all_goals
                  go_ret
                  exact ⟨by first | rfl | (simp; done) | (simp; omega), HFIN.out⟩
end Go.Proofs.YtdicmalfnfpmmaaDoor
