/-
  The law of all.
-/
import Derived.Test.YtndipldcpnglgaaAllP
namespace Go.Proofs.Ytndipldcpnglgaa
open Go.RowKit

theorem Few.clear {S : Ln} {u : Bool} (h : Few ⟨S, u⟩) : Few ⟨S.clear, u⟩ := ⟨Nat.zero_le _, h.2⟩
def CameK (H : Nat) (w0 w : World) (s g b : Nat) (l : List Int) (k : Nat) : Prop := ∃ v S, EB H w0 w s g b v ⟨S, false⟩ ∧ Came l k S
def AllK (H : Nat) (w0 w : World) (s g b : Nat) (v d : Value) (S : Ln) : Prop := EB H w0 w s g b v ⟨S.clear, true⟩ ∧ Nums w d S.nums
set_option maxHeartbeats 4000000 in
set_option maxRecDepth 100000 in
theorem walk_all (A : Option Addr) (c : Nat) (l : List Int) (w : World) (hwf : ∀ y ∈ l, 0 ≤ y ∧ y ≤ 255) (hA : BytesAt w A l) (_ : l.length ≤ 140737488355328) :
    Calls Try.prog 5 #[.slice A l.length c] w fun e w' => e = .returned (.bool true) ∧ Below w.heap.size w w' := by
  have hnew := Lib.hid (fun W => enew_any false W)
  have haw := Lib.hid (fun W => awake_any W)
  have HCS := Lib.hid hA
  have HWF := Lib.hid hwf
  clear hA hwf
  go_enter Try.func5, Try.ntmps5
  go_wp2_with fail
  with_reducible refine (hnew.out _).mono ?_
  rintro e w1 ⟨s, g, b, rfl, hL, hk, hB⟩
  have L0 := Lib.hid (EB.new hL hk hB)
  clear hL hk hB hnew
  go_wp2_with fail
  with_reducible refine (haw.out _).mono ?_
  rintro e w2 ⟨rfl, hB2⟩
  have HB2 := Lib.hid hB2
  by_cases hbig : 100 < l.length
  · have i9 : (100 : Int) < (l.length : Int) := by omega
    have HBB := Lib.hid (fun W (hB : Below w2.heap.size w2 W) => ((L0.out.keep hB2).keep hB).bel)
    clear L0 HB2 hB2
    go_wp2_with fail
    with_reducible refine (haw.out _).mono ?_
    rintro e w3 ⟨rfl, hB3⟩
    have HX := Lib.hid (HBB.out w3 hB3)
    clear hB3
    go_wp2_with fail
    go_ret
    exact ⟨rfl, HX.out⟩
  have HK0 : Hid (CameK w.heap.size w w2 s g b l 0) := ⟨_, _, L0.out.keep hB2, Came.new l⟩
  have i9 : ¬ (100 : Int) < (l.length : Int) := by omega
  have hl100 : l.length ≤ 100 := by omega
  clear L0 hB2 haw HB2 hbig
  go_upto_block 0 with fail
  go_cut [4, 5, 6] (fun _ _ _ wx => Hid (CameK w.heap.size w wx s g b l l.length))
  case first =>
    go_wp2_with fail
    go_loopw [4, 5, 6] (fun kv _ _ wr => ∃ k : Nat, kv = .int .i64 k ∧ k ≤ l.length ∧ Hid (CameK w.heap.size w wr s g b l k)) (fun kv _ _ _ => l.length + 1 - (intOf kv).toNat)
    case atStart => exact ⟨0, rfl, Nat.zero_le _, HK0⟩
    case round =>
      obtain ⟨k, rfl, hkl, HK⟩ := hrel
      clear HK0
      by_cases hl1 : k < l.length
      · obtain ⟨v, S, hSB, hC⟩ := HK.out
        obtain ⟨bb, oo, rfl, c0⟩ := (HCS.out.keep hSB.bel).get hl1
        obtain ⟨y, hy⟩ : ∃ y, y = l.getD k 0 := ⟨_, rfl⟩
        rw [← hy] at c0
        have hyr : 0 ≤ y ∧ y ≤ 255 := by
          rw [hy, List.getD_eq_getElem?_getD, List.getElem?_eq_getElem hl1]
          exact HWF.out _ (List.getElem_mem hl1)
        have hpr := pr_rng hyr
        obtain ⟨p, hp⟩ : ∃ p, p = pr y := ⟨_, rfl⟩
        have hpe : p = pr (l.getD k 0) := by rw [← hy]; exact hp
        rw [← hp] at hpr
        have e0 : bits BinOp.and IntKind.u8 y 63 = p := hp.symm
        have e1 : IntKind.i64.wrap p = p := by rw [IntKind.wrap_i64]; omega
        have hw := wait_came hC (by omega : k < 100) hpr
        have hst := hC.step (by omega : k < 100) hpr hpe
        have HC := Lib.hid (wait_few k p (-1) (by unfold I64; omega) hSB (hC.few (by omega) false))
        have HX := Lib.hid (And.intro hSB (And.intro hw hst))
        have i0 : (0 : Int) ≤ (k : Int) := Int.natCast_nonneg _
        have i1 : (k : Int) < (l.length : Int) := by omega
        have j1 : IntKind.i64.wrap ((k : Int) + 1) = (k : Int) + 1 := by rw [IntKind.wrap_i64]; omega
        have HPR := Lib.hid hpr
        clear hy hyr hp hpe hw hst hSB hC HK hpr
        go_wp2_with fail
        with_reducible refine HC.out.mono ?_
        rintro e w3 ⟨he, hP⟩
        obtain ⟨hSB, hw, hst⟩ := HX.out
        rw [hw.1] at he
        rw [hw.2] at hP
        obtain rfl := he
        obtain ⟨v', hS, _⟩ := hSB.step hP
        have HF : Hid (CameK w.heap.size w w3 s g b l (k + 1)) := ⟨v', _, hS, hst⟩
        clear HC HX hP hSB hw hst hS
        go_wp2_with fail
        go_roundw
        case rel => exact ⟨k + 1, by go_num, by omega, HF⟩
        case measure => first | (simp [intOf]; done) | (simp [intOf]; omega)
      · obtain rfl : k = l.length := by omega
        have HX := HK
        clear HK
        go_wp2_with fail
        all_goals go_meet
        all_goals exact HX
  case rest =>
    obtain ⟨v, S, hSB, hC⟩ := hcut
    have HC := Lib.hid (set_few hSB (hC.few hl100 false))
    have HS := Lib.hid hSB
    have HCM := Lib.hid hC
    have hnl : S.nums.length = l.length := by rw [nums_len, hC.len]
    have HNL := Lib.hid hnl
    clear hSB hC HK0 hnl
    go_wp2_with fail
    with_reducible refine HC.out.mono ?_
    rintro e w4 ⟨d, v4, rfl, hN4, h1, h2, h3, hfr⟩
    have hE4 := HS.out.step' h1 h2 h3
    obtain ⟨dA, dc, rfl, hdA⟩ := hN4.len
    have HA0 : Hid (AllK w.heap.size w w4 s g b v4 (.slice dA S.nums.length dc) S) := ⟨hE4, hN4⟩
    have HDA := Lib.hid hdA
    rw [HNL.out]
    rw [HNL.out] at HA0
    clear hN4 h1 h2 h3 hfr hE4 HS HC hdA
    go_wp2_with fail
    go_loopw [8, 9, 10, 11, 12] (fun jv _ _ _ _ wr => ∃ j : Nat, jv = .int .i64 j ∧ 1 ≤ j ∧ Hid (AllK w.heap.size w wr s g b v4 (.slice dA l.length dc) S)) (fun jv _ _ _ _ _ => l.length + 1 - (intOf jv).toNat)
    case atStart => exact ⟨1, rfl, Nat.le_refl _, HA0⟩
    case round =>
      obtain ⟨j, rfl, hj1, HK⟩ := hrel
      clear HA0
      by_cases hj : j < l.length
      · obtain ⟨x, y, ex, ey, hx, hy, hord⟩ := HCM.out.pair hj1 hj
        obtain ⟨hEB, hNR⟩ := HK.out
        obtain ⟨gd, rfl⟩ := HDA.out (by rw [HNL.out]; omega)
        have cx := hNR.at (i := j - 1) (by rw [HNL.out]; omega)
        have cy := hNR.at (i := j) (by rw [HNL.out]; omega)
        rw [ex] at cx
        rw [ey] at cy
        obtain ⟨q, hq⟩ : ∃ q, q = j - 1 := ⟨_, rfl⟩
        rw [← hq] at cx
        have j1 : IntKind.i64.wrap ((j : Int) - 1) = (q : Int) := by rw [IntKind.wrap_i64]; omega
        have j2 : IntKind.i64.wrap ((j : Int) + 1) = (j : Int) + 1 := by rw [IntKind.wrap_i64]; omega
        have i1 : (0 : Int) ≤ (q : Int) := Int.natCast_nonneg _
        have i2 : (q : Int) < (l.length : Int) := by omega
        have i3 : (0 : Int) ≤ (j : Int) := Int.natCast_nonneg _
        have i4 : (j : Int) < (l.length : Int) := by omega
        have x0 : (0 : Int) ≤ (x : Int) := Int.natCast_nonneg _
        have x1 : ¬ (x : Int) < 0 := by omega
        have x2 : ¬ (l.length : Int) ≤ (x : Int) := by omega
        have x3 : (x : Int) < (l.length : Int) := by omega
        have y0 : (0 : Int) ≤ (y : Int) := Int.natCast_nonneg _
        have y1 : ¬ (y : Int) < 0 := by omega
        have y2 : ¬ (l.length : Int) ≤ (y : Int) := by omega
        have y3 : (y : Int) < (l.length : Int) := by omega
        obtain ⟨bx, hbx⟩ : ∃ bx, bx = l.getD x 0 := ⟨_, rfl⟩
        obtain ⟨by', hby⟩ : ∃ by', by' = l.getD y 0 := ⟨_, rfl⟩
        obtain ⟨bb, oo, rfl, hcx, hcy⟩ : ∃ bb oo, A = some ⟨bb, oo, none⟩ ∧ (∀ W, Below w.heap.size w W → W.cell? ⟨bb, oo + x, none⟩ = some (.int .u8 bx)) ∧ ∀ W, Below w.heap.size w W → W.cell? ⟨bb, oo + y, none⟩ = some (.int .u8 by') := by
          obtain ⟨bb, oo, e⟩ := Arr.head HCS.out hx
          subst e
          exact ⟨bb, oo, rfl, fun W hW => by rw [hbx]; have h := (HCS.out.keep hW).get hx; obtain ⟨b2, o2, e2, h2⟩ := h; injection e2 with e2; injection e2 with e3 e4; rw [e3, e4]; exact h2,
            fun W hW => by rw [hby]; have h := (HCS.out.keep hW).get hy; obtain ⟨b2, o2, e2, h2⟩ := h; injection e2 with e2; injection e2 with e3 e4; rw [e3, e4]; exact h2⟩
        rw [← hbx, ← hby] at hord
        have p1 : bits BinOp.and IntKind.u8 bx 63 = pr bx := rfl
        have p2 : bits BinOp.and IntKind.u8 by' 63 = pr by' := rfl
        obtain ⟨px, hpx⟩ : ∃ px, px = pr bx := ⟨_, rfl⟩
        obtain ⟨py, hpy⟩ : ∃ py, py = pr by' := ⟨_, rfl⟩
        rw [← hpx, ← hpy] at hord
        rw [← hpx] at p1
        rw [← hpy] at p2
        have o1 : ¬ px < py := by omega
        have o2 : px = py → ¬ (y : Int) ≤ (x : Int) := fun e => by omega
        have HE := Lib.hid hEB
        have HN := Lib.hid hNR
        have HCX := Lib.hid (And.intro hcx hcy)
        clear hbx hby hpx hpy hord ex ey hq hEB hNR hcx hcy HK hx hy
        go_wp2_with fail
        go_quiet (fail)
        obtain ⟨w5, hw5⟩ : ∃ w5, w5 = wr.drewN nq := ⟨_, rfl⟩
        have hB5 : Below wr.heap.size wr w5 := by rw [hw5]; exact below_dn wr nq
        rw [← hw5]
        have HE5 := Lib.hid (HE.out.keep hB5)
        have HN5 := Lib.hid (HN.out.keep hB5)
        have e0 := HCX.out.1 w5 HE5.out.bel
        have e1 := HCX.out.2 w5 HE5.out.bel
        clear hw5 hB5 cx cy HE HN
        go_wp2_with fail
        go_quiet (fail)
        by_cases hpl : px = py
        · have o3 := o2 hpl
          subst hpl
          clear o2
          have HF := Lib.hid (show AllK w.heap.size w (w5.drewN nq) s g b v4 (.slice (some ⟨gd, 0, none⟩) l.length dc) S from ⟨HE5.out.keep (below_dn _ _), HN5.out.keep (below_dn _ _)⟩)
          clear HE5 HN5 e0 e1
          go_wp2_with fail
          go_roundw
          case rel => exact ⟨j + 1, by go_num, by omega, HF⟩
          case measure => first | (simp [intOf]; done) | (simp [intOf]; omega)
        · clear o2
          have HF := Lib.hid (show AllK w.heap.size w (w5.drewN nq) s g b v4 (.slice (some ⟨gd, 0, none⟩) l.length dc) S from ⟨HE5.out.keep (below_dn _ _), HN5.out.keep (below_dn _ _)⟩)
          clear HE5 HN5 e0 e1
          go_wp2_with fail
          go_roundw
          case rel => exact ⟨j + 1, by go_num, by omega, HF⟩
          case measure => first | (simp [intOf]; done) | (simp [intOf]; omega)
      · have HX : Hid (AllK w.heap.size w wr s g b v4 (.slice dA l.length dc) S) := HK
        have hex : ¬ (j : Int) < (l.length : Int) := by omega
        have k0 := HX.out.1.sm.c0
        have hml := meth_list g
        have HL := Lib.hid (list_any wr HX.out.1.sm.ln (by show ([] : List Wt).length ≤ 100000; simp))
        have HB := Lib.hid HX.out.1
        rw [show (Ln.clear S).nums = [] from rfl] at HL
        clear HK hj HX
        go_wp2_with fail
        with_reducible refine HL.out.mono ?_
        rintro e w5 ⟨vl, rfl, hN, hB5, _⟩
        obtain ⟨lA, lc, rfl, _⟩ := hN.len
        have HE5 := Lib.hid (HB.out.keep hB5)
        have HC := Lib.hid (set_few HE5.out (HCM.out.few hl100 true).clear)
        clear hN hB5 HL HB k0
        go_wp2_with fail
        with_reducible refine HC.out.mono ?_
        rintro e w6 ⟨d6, v6, rfl, hN6, h1, h2, h3, _⟩
        have HB6 := Lib.hid (HE5.out.step' h1 h2 h3).bel
        obtain ⟨sA, sc, rfl, _⟩ := hN6.len
        rw [show (Ln.clear S).nums.length = 0 from rfl]
        clear hN6 h1 h2 h3 HC HE5
        go_wp2_with fail
        go_ret
        exact ⟨rfl, HB6.out⟩
end Go.Proofs.Ytndipldcpnglgaa
