/-
  The walk of MemOwn.
-/
import Derived.Test.YtdicmalfnfpmmaaDoorPlays
namespace Go.Proofs.YtdicmalfnfpmmaaDoor
open Go.RowKit

theorem own_new (m : Nat) (w : World) (hG : GOk w) (hm : m ≤ 255) :
    Calls Tryd.prog 8 #[.int .i64 (1 + (m : Int))] w fun e w' => ∃ g b, e = .returned (.tuple #[.pointer (some ⟨g, 0, none⟩), .int .i64 0]) ∧ St w.heap.size w g b (m + 1) (fun _ => 0) 0 w' := by
  rw [show (1 + (m : Int)) = ((m + 1 : Nat) : Int) by omega]
  exact (new_yes (m + 1) w (by omega) (by omega)).mono fun _ _ ⟨g, b, e, hM, h1, h2, hB⟩ => ⟨g, b, e, St.new hG hM h1 h2 hB⟩
theorem own_set {w : World} {d n : Nat} {F : Nat → Int} (h : OwnU w d n F) (k : Nat) (v : Int) : OwnU (w.setCell ⟨d, k, none⟩ (.int .u32 v)) d n (fun i => if i = k then v else F i) :=
  (World.rowIs.set h k _).congr fun i _ => by dsimp only; split <;> rfl
/-- Behind a change of another memory. -/
theorem St.other {B : Nat} {w0 : World} {g b g2 b2 n : Nat} {f : Nat → Int} {c : Int} {w w' : World} (h : St B w0 g2 b2 n f c w) (hE : Else g b w w') (h1 : g2 ≠ g) (h2 : g2 ≠ b) (h3 : b2 ≠ g) (h4 : b2 ≠ b) (h5 : B ≤ g) (h6 : B ≤ b) : St B w0 g2 b2 n f c w' :=
  ⟨hE.mem h.mem h1 h2 h3 h4, h.bel.trans (hE.below h5 h6 h.hB), h.b6, h.gB, h.bB, Nat.le_trans h.hB hE.size, h.gok.else hE (Nat.le_trans h.b6 h5) (Nat.le_trans h.b6 h6)⟩
/-- Two memories of the call's own. -/
structure PO (W : World) (g b g2 b2 n : Nat) (f f2 : Nat → Int) (c c2 : Int) (w : World) : Prop where
  s1 : St W.heap.size W g b n f c w
  s2 : St W.heap.size W g2 b2 n f2 c2 w
  d1 : g2 ≠ g
  d2 : g2 ≠ b
  d3 : b2 ≠ g
  d4 : b2 ≠ b
theorem PO.keep {W : World} {g b g2 b2 n : Nat} {f f2 : Nat → Int} {c c2 : Int} {w w' : World} (h : PO W g b g2 b2 n f f2 c c2 w) (hB : Below w.heap.size w w') : PO W g b g2 b2 n f f2 c c2 w' :=
  ⟨h.s1.keep hB, h.s2.keep hB, h.d1, h.d2, h.d3, h.d4⟩
theorem PO.one {W : World} {g b g2 b2 n : Nat} {f f' f2 : Nat → Int} {c c' c2 : Int} {w w' : World} (h : PO W g b g2 b2 n f f2 c c2 w) (hM : MemAt w' g b n f' c') (hE : Else g b w w') : PO W g b g2 b2 n f' f2 c' c2 w' :=
  ⟨h.s1.step hM hE, h.s2.other hE h.d1 h.d2 h.d3 h.d4 h.s1.gB h.s1.bB, h.d1, h.d2, h.d3, h.d4⟩
theorem PO.two {W : World} {g b g2 b2 n : Nat} {f f2 f' : Nat → Int} {c c2 c' : Int} {w w' : World} (h : PO W g b g2 b2 n f f2 c c2 w) (hM : MemAt w' g2 b2 n f' c') (hE : Else g2 b2 w w') : PO W g b g2 b2 n f f' c c' w' :=
  ⟨h.s1.other hE (fun e => h.d1 e.symm) (fun e => h.d3 e.symm) (fun e => h.d2 e.symm) (fun e => h.d4 e.symm) h.s2.gB h.s2.bB, h.s2.step hM hE, h.d1, h.d2, h.d3, h.d4⟩

set_option maxHeartbeats 8000000 in
set_option maxRecDepth 100000 in
theorem walk_own (n : Int) (A : Option Addr) (cap : Nat) (l : List UseA) (w : World) (hG : GOk w) (hn : 0 ≤ n ∧ n < 256) (hwf : ∀ y ∈ l, WfUse y) (hA : UsesAt w A l) (_ : l.length ≤ 140737488355328) :
    Calls Tryd.prog 6 #[.int .u8 n, .slice A l.length cap] w fun e w' => e = .returned (.bool true) ∧ Below w.heap.size w w' := by
  obtain ⟨m, rfl⟩ := Int.eq_ofNat_of_zero_le hn.1
  have hm : m ≤ 255 := by omega
  have HWF := Lib.hid hwf
  have HG := Lib.hid hG
  have HA := Lib.hid hA
  have HM := Lib.hid hm
  have H4 := Lib.hid (show m + 1 ≤ 4096 by omega)
  clear hG hA hwf hn
  go_enter Tryd.func6, Tryd.ntmps6
  go_wp2_with fail
  with_reducible refine (own_new m _ HG.out HM.out).mono ?_
  rintro e w1 ⟨g, b, rfl, h⟩
  have H1 := Lib.hid h
  clear h
  go_wp2_with fail
  with_reducible refine (own_new m _ H1.out.gok HM.out).mono ?_
  rintro e w2 ⟨g2, b2, rfl, h⟩
  have h2 : PO w g b g2 b2 (m + 1) (fun _ => 0) (fun _ => 0) 0 0 w2 := by
    have h1 := H1.out
    have a1 := h1.mem.ltg
    have a2 := h1.mem.row.lt
    have a3 := h.gB
    have a4 := h.bB
    have a5 := h1.hB
    exact ⟨h1.keep h.bel, ⟨h.mem, h1.bel.trans (h.bel.mono h1.hB), h1.b6, by omega, by omega, (h1.keep h.bel).hB, h.gok⟩, by omega, by omega, by omega, by omega⟩
  have H2 := Lib.hid h2
  clear h h2
  go_wp2_with fail
  with_reducible refine (awake_any _ H2.out.s1.gok).mono ?_
  rintro e w3 ⟨rfl, h⟩
  have H3 := Lib.hid (H2.out.keep h)
  clear h
  go_wp2_with fail
  go_loopw [9] (fun i wr => ∃ (j : Nat) (f : Nat → Int) (c : Int), j ≤ 40 ∧ i = .int .i64 j ∧ 0 ≤ c ∧ c ≤ j ∧ PO w g b g2 b2 (m + 1) f f c c wr) (fun i _ => 40 - (intOf i).toNat)
  case atStart => exact ⟨0, _, _, by omega, rfl, Int.le_refl _, Int.le_refl _, H3.out⟩
  case round =>
    obtain ⟨j, f, c, hj, rfl, hc0, hcj, hst⟩ := hrel
    have HS := Lib.hid hst
    have HC := Lib.hid (show (0:Int) ≤ c ∧ c ≤ 1000 from ⟨hc0, by omega⟩)
    by_cases hlt : j < 40 ∧ j < l.length
    · obtain ⟨h40, hlt⟩ := hlt
      obtain ⟨y, hy⟩ : ∃ y, y = l.getD j dX := ⟨_, rfl⟩
      obtain ⟨b0, o0, rfl⟩ := Arr.head HA.out hlt
      obtain ⟨z0, z1, z2, z3⟩ := UsesAt.cell (UsesAt.wide HA.out hst.s1.bel) hlt hy
      have HZ := Lib.hid (fun w' (hb : Below w.heap.size w w') => UsesAt.cell (UsesAt.wide HA.out hb) hlt hy)
      obtain ⟨y0, y1, y2, y3⟩ := y
      dsimp only at z0 z1 z2 z3 HZ
      have HUS := Lib.hid (fun W => use_any y0 y1 y2 y3 W)
      have HDO := Lib.hid (fun g b W hG hM => does_any (kindN y0) y1 y2 y3 g b (m + 1) f c W (kindN_le y0) hG hM H4.out HC.out)
      have HSC := Lib.hid (stepC_rng (n := m + 1) (at' := y1) hc0 hcj)
      generalize kindN y0 = K at HUS HDO
      simp only [xV] at HUS HDO
      clear hy hst hc0 hcj
      go_wp2_with fail
      with_reducible refine (HUS.out _).mono ?_
      rintro e w4 ⟨rfl, hB⟩
      have HS4 := Lib.hid (HS.out.keep hB)
      clear hB z0 z1 z2 z3
      go_wp2_with fail
      with_reducible refine (HDO.out _ _ _ HS4.out.s1.gok HS4.out.s1.mem).mono ?_
      rintro e w5 ⟨rfl, hM, hE⟩
      have HS5 := Lib.hid (HS4.out.one hM hE)
      obtain ⟨z0, z1, z2, z3⟩ := HZ.out w5 HS5.out.s1.bel
      clear hM hE
      go_wp2_with fail
      with_reducible refine (HUS.out _).mono ?_
      rintro e w6 ⟨rfl, hB⟩
      have HS6 := Lib.hid (HS5.out.keep hB)
      clear hB z0 z1 z2 z3
      go_wp2_with fail
      with_reducible refine (HDO.out _ _ _ HS6.out.s2.gok HS6.out.s2.mem).mono ?_
      rintro e w7 ⟨rfl, hM, hE⟩
      have HS7 := Lib.hid (HS6.out.two hM hE)
      clear hM hE
      go_wp2_with fail
      with_reducible refine (words_any g b (m + 1) _ _ _ HS7.out.s1.mem H4.out).mono ?_
      rintro e w8 ⟨d, rfl, hO, hd, hB⟩
      have HO8 := Lib.hid hO
      have HD8 := Lib.hid hd
      have HB8 := Lib.hid hB
      clear hO hd hB
      go_wp2_with fail
      go_loopw [15] (fun i wx => ∃ (k : Nat) (F : Nat → Int), k ≤ m + 1 ∧ i = .int .i64 k ∧ Below w7.heap.size w7 wx ∧ OwnU wx d (m + 1) F) (fun i _ => m + 1 - (intOf i).toNat)
      case atStart => exact ⟨0, _, by omega, rfl, HB8.out, HO8.out⟩
      case round =>
        obtain ⟨k, F, hk, rfl, hB, hO⟩ := hrel
        have HBX := Lib.hid hB
        have HOX := Lib.hid hO
        by_cases hkm : k < m + 1
        · have p0 := hO.cell hkm
          have pf := hO.frozen k
          obtain ⟨u, hu⟩ : ∃ u, u = F k := ⟨_, rfl⟩
          rw [← hu] at p0
          clear hB hO hu
          go_wp2_with fail
          go_roundw
          case rel => exact ⟨k + 1, _, by omega, by go_num, HBX.out.setCell HD8.out _, own_set HOX.out k _⟩
          case measure => simp [intOf]; omega
        · have HP := Lib.hid (HS7.out.keep hB)
          clear hB hO
          go_wp2_with fail
          go_roundw
          case rel => exact ⟨j + 1, _, _, by omega, by go_num, HSC.out.1, by have := HSC.out.2; omega, HP.out⟩
          case measure => simp [intOf]; omega
    · have hex : (40 ≤ j ∧ j < l.length) ∨ (40 ≤ j ∧ l.length ≤ j) ∨ (j < 40 ∧ l.length ≤ j) := by omega
      clear hst hc0 hcj
      rcases hex with ⟨h40, hge⟩ | ⟨h40, hge⟩ | ⟨h40, hge⟩
      all_goals
        clear hlt
        go_wp2_with fail
        with_reducible refine (count_any g b (m + 1) _ _ _ HS.out.s1.mem).mono ?_
        rintro e w4 ⟨rfl, rfl⟩
        go_wp2_with fail
        with_reducible refine (count_any g2 b2 (m + 1) _ _ _ HS.out.s2.mem).mono ?_
        rintro e w4 ⟨rfl, rfl⟩
        go_wp2_with fail
        with_reducible refine (words_any g b (m + 1) _ _ _ HS.out.s1.mem H4.out).mono ?_
        rintro e w5 ⟨d, rfl, hO, hd, hB⟩
        have HS5 := Lib.hid (HS.out.keep hB)
        have HO5 := Lib.hid (Us.of_row hO)
        clear hO hd hB
        go_wp2_with fail
        with_reducible refine (words_any g2 b2 (m + 1) _ _ _ HS5.out.s2.mem H4.out).mono ?_
        rintro e w6 ⟨d2, rfl, hO, hd, hB⟩
        have HS6 := Lib.hid (HS5.out.keep hB)
        have HO6 := Lib.hid (HO5.out.keep hB)
        have HQ6 := Lib.hid (Us.of_row hO)
        clear hO hd hB
        go_wp2_with fail
        with_reducible refine (same_yes _ _ _ _ (m + 1) f _ HO6.out HQ6.out H4.out).mono ?_
        rintro e w7 ⟨rfl, hB⟩
        have HS7 := Lib.hid (HS6.out.keep hB)
        clear hB
        go_wp2_with fail
        go_ret
        exact ⟨rfl, HS7.out.s1.bel⟩
end Go.Proofs.YtdicmalfnfpmmaaDoor
