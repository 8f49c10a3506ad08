/-
  The law of the order.
-/
import Derived.Test.YtfinleobgmdebaaSordP
import Derived.Deep.CutBlock
namespace Go.Proofs.Ytfinleobgmdebaa
open Go.RowKit

def CameK (H : Nat) (w0 w : World) (s g b : Nat) (l : List Int) (k : Nat) : Prop := ∃ v S, SB H w0 w s g b v ⟨S, 0, 255⟩ ∧ Came l k S
def LeftK (H : Nat) (w0 w : World) (s g b : Nat) (l : List Int) (k j : Nat) (last at' : Int) : Prop := ∃ v S, SB H w0 w s g b v ⟨S, 0, 255⟩ ∧ Left' l k j last at' S
theorem sig_any {S : Ln} {c m : Nat} (h : S.any = true) : (⟨S, c, m⟩ : Sm).sigE = (S.first, true, 0) ∧ (⟨S, c, m⟩ : Sm).sig = ⟨S.take, c, m⟩ := by
  unfold Sm.sigE Sm.sig
  exact ⟨if_pos h, if_pos h⟩
set_option maxHeartbeats 4000000 in
set_option maxRecDepth 100000 in
theorem walk_sord (A : Option Addr) (c : Nat) (l : List Int) (n0 : Int) (w : World) (hn : 0 ≤ n0 ∧ n0 ≤ 255) (hwf : ∀ y ∈ l, 0 ≤ y ∧ y ≤ 255) (hA : BytesAt w A l) (_ : l.length ≤ 140737488355328) :
    Calls Try.prog 5 #[.slice A l.length c, .int .u8 n0] w fun e w' => e = .returned (.bool true) ∧ Below w.heap.size w w' := by
  have hnew := Lib.hid (fun W => show Calls Try.prog 7 #[nV 0, nV 255] W (fun e w' => NewP 0 255 W e w') from snew_ok 0 255 W (by omega) (by omega) (by omega))
  have haw := Lib.hid (fun W => awake_any W)
  have HCS := Lib.hid hA
  have HWF := Lib.hid hwf
  clear hA hwf
  go_enter Try.func5, Try.ntmps5
  go_wp2_with fail
  with_reducible refine (hnew.out _).mono ?_
  rintro e w1 ⟨s, g, b, rfl, hL, hk, hB⟩
  have L0 := Lib.hid (SB.new hL hk hB)
  clear hL hk hB hnew
  go_wp2_with fail
  with_reducible refine (haw.out _).mono ?_
  rintro e w2 ⟨rfl, hB2⟩
  have HK0 : Hid (CameK w.heap.size w w2 s g b l 0) := ⟨_, _, L0.out.keep hB2, Came.new l⟩
  clear L0 hB2 haw
  go_upto_block 0 with fail
  go_cut [7, 8, 9] (fun _ _ _ wx => ∃ k : Nat, k ≤ 80 ∧ k ≤ l.length ∧ (k < 80 → k = l.length) ∧ Hid (CameK w.heap.size w wx s g b l k))
  case first =>
    go_wp2_with fail
    go_loopw [7, 8, 9] (fun kv _ _ wr => ∃ k : Nat, kv = .int .i64 k ∧ k ≤ 80 ∧ k ≤ l.length ∧ Hid (CameK w.heap.size w wr s g b l k)) (fun kv _ _ _ => 81 - (intOf kv).toNat)
    case atStart => exact ⟨0, rfl, Nat.zero_le _, Nat.zero_le _, HK0⟩
    case round =>
      obtain ⟨k, rfl, hk80, hkl, HK⟩ := hrel
      clear HK0
      by_cases hlt : k < l.length ∧ k < 80
      · obtain ⟨hl1, hl2⟩ := hlt
        obtain ⟨v, S, hSB, hC⟩ := HK.out
        obtain ⟨bb, oo, rfl, c0⟩ := (HCS.out.keep hSB.bel).get hl1
        obtain ⟨y, hy⟩ : ∃ y, y = l.getD k 0 := ⟨_, rfl⟩
        rw [← hy] at c0
        have hyr : 0 ≤ y ∧ y ≤ 255 := by
          rw [hy, List.getD_eq_getElem?_getD, List.getElem?_eq_getElem hl1]
          exact HWF.out _ (List.getElem_mem hl1)
        have hpr := pr_rng hyr
        obtain ⟨p, hp⟩ : ∃ p, p = pr y := ⟨_, rfl⟩
        have hpe : p = pr (l.getD k 0) := by rw [← hy]; exact hp
        rw [← hp] at hpr
        have e0 : bits BinOp.and IntKind.u8 y 63 = p := hp.symm
        have e1 : IntKind.i64.wrap p = p := by rw [IntKind.wrap_i64]; omega
        have hw := wait_came (m := 255) hC hl2 hpr
        have hst := hC.step hl2 hpr hpe
        have HC := Lib.hid (wait_few k p (-1) (by unfold I64; omega) hSB (by have h1 := hC.n; have h2 := hC.len; exact ⟨by show S.q.length ≤ 900; omega, by show S.n ≤ 900; omega, by show 0 ≤ 255; omega⟩))
        have HX := Lib.hid (And.intro hSB (And.intro hw hst))
        have i0 : (0 : Int) ≤ (k : Int) := Int.natCast_nonneg _
        have i1 : (k : Int) < (l.length : Int) := by omega
        have i2 : (k : Int) < 80 := by omega
        have j1 : IntKind.i64.wrap ((k : Int) + 1) = (k : Int) + 1 := by rw [IntKind.wrap_i64]; omega
        have HPR := Lib.hid hpr
        clear hy hyr hp hpe hw hst hSB hC HK hpr
        go_wp2_with fail
        with_reducible refine HC.out.mono ?_
        rintro e w3 ⟨he, hP⟩
        obtain ⟨hSB, hw, hst⟩ := HX.out
        rw [hw.1] at he
        rw [hw.2] at hP
        obtain rfl := he
        obtain ⟨v', hS, _⟩ := hSB.step hP
        have HF : Hid (CameK w.heap.size w w3 s g b l (k + 1)) := ⟨v', _, hS, hst⟩
        clear HC HX hP hSB hw hst hS
        go_wp2_with fail
        go_roundw
        case rel => exact ⟨k + 1, by go_num, by omega, by omega, HF⟩
        case measure => first | (simp [intOf]; done) | (simp [intOf]; omega)
      · have HX : Hid (∃ k : Nat, k ≤ 80 ∧ k ≤ l.length ∧ (k < 80 → k = l.length) ∧ Hid (CameK w.heap.size w wr s g b l k)) := ⟨k, hk80, hkl, fun h => by omega, HK⟩
        have hex : k < 80 → ¬ (k : Int) < (l.length : Int) := fun h => by omega
        clear hlt HK
        go_wp2_with fail
        all_goals go_meet
        all_goals exact HX
  case rest =>
    obtain ⟨k, hk80, hkl, hke, HK⟩ := hcut
    clear HK0
    have HL0 : Hid (LeftK w.heap.size w wc s g b l k 0 64 (-1)) := by
      obtain ⟨v, S, h1, h2⟩ := HK.out
      exact ⟨v, S, h1, h2.left⟩
    clear HK
    go_wp2_with fail
    go_loopw [10, 11, 12, 13, 14, 15, 16] (fun lv av jv _ _ _ _ wr => ∃ (last at' : Int) (j : Nat), lv = .int .i64 last ∧ av = .int .i64 at' ∧ jv = .int .i64 j ∧ j ≤ k ∧ Hid (LeftK w.heap.size w wr s g b l k j last at')) (fun _ _ jv _ _ _ _ _ => k - (intOf jv).toNat)
    case atStart => exact ⟨64, -1, 0, rfl, rfl, rfl, Nat.zero_le _, HL0⟩
    case round =>
      obtain ⟨last, at', j, rfl, rfl, rfl, hjk, HK⟩ := hrel
      clear HL0
      have i0 : (0 : Int) ≤ (j : Int) := Int.natCast_nonneg _
      by_cases hlt : (j : Int) < n0 ∧ j < k
      · obtain ⟨hl1, hl2⟩ := hlt
        obtain ⟨v, S, hSB, hC⟩ := HK.out
        obtain ⟨i, hik, ha, hfst, hord, hnx⟩ := hC.step hl2
        have hil : i < l.length := by omega
        have hgetd : ∃ bb oo, A = some ⟨bb, oo, none⟩ ∧ ∀ W, Below w.heap.size w W → W.cell? ⟨bb, oo + i, none⟩ = some (.int .u8 (l.getD i 0)) := by
          obtain ⟨bb, oo, e, _⟩ := HCS.out.get hil
          refine ⟨bb, oo, e, fun W hW => ?_⟩
          obtain ⟨b2, o2, e2, h2⟩ := (HCS.out.keep hW).get hil
          rw [e] at e2
          injection e2 with e2
          injection e2 with e3 e4
          rw [e3, e4]
          exact h2
        obtain ⟨bb, oo, rfl, hcell⟩ := hgetd
        obtain ⟨y, hy⟩ : ∃ y, y = l.getD i 0 := ⟨_, rfl⟩
        have hyr : 0 ≤ y ∧ y ≤ 255 := by
          rw [hy, List.getD_eq_getElem?_getD, List.getElem?_eq_getElem hil]
          exact HWF.out _ (List.getElem_mem hil)
        rw [← hy] at hord hnx hcell
        obtain ⟨p, hp⟩ : ∃ p, p = pr y := ⟨_, rfl⟩
        have hpr := pr_rng hyr
        rw [← hp] at hord hnx hpr
        have e0 : bits BinOp.and IntKind.u8 y 63 = p := hp.symm
        have e1 : IntKind.i64.wrap p = p := by rw [IntKind.wrap_i64]; omega
        have hs := sig_any (c := 0) (m := 255) ha
        rw [hfst] at hs
        have HC := Lib.hid (signal_few hSB (by have h1 := hC.n; have h2 := hC.len; exact ⟨by show S.q.length ≤ 900; omega, by show S.n ≤ 900; omega, by show 0 ≤ 255; omega⟩))
        have HX := Lib.hid (And.intro hSB (And.intro hs hnx))
        have i1 : (j : Int) < (l.length : Int) := by omega
        have i2 : (j : Int) < 80 := by omega
        have i3 : ¬ ((i : Int) < 0) := by omega
        have i4 : (i : Int) < (l.length : Int) := by omega
        have i5 : (0 : Int) ≤ (i : Int) := by omega
        have i6 : ¬ last < p := by omega
        have i7 : p = last → ¬ (i : Int) ≤ at' := fun e => by omega
        have j1 : IntKind.i64.wrap ((j : Int) + 1) = (j : Int) + 1 := by rw [IntKind.wrap_i64]; omega
        have HPR := Lib.hid hpr
        have HOR := Lib.hid hord
        have HCL := Lib.hid hcell
        clear hy hyr hp hs hnx hSB hC HK hpr hord ha hfst hcell hke
        go_wp2_with fail
        with_reducible refine HC.out.mono ?_
        rintro e w3 ⟨he, hP⟩
        obtain ⟨hSB, hs, hnx⟩ := HX.out
        rw [hs.1] at he
        rw [hs.2] at hP
        obtain rfl := he
        obtain ⟨v', hS, _⟩ := hSB.step hP
        have c0 := HCL.out w3 hS.bel
        have HF : Hid (LeftK w.heap.size w w3 s g b l k (j + 1) p i) := ⟨v', _, hS, hnx⟩
        clear HC HX hP hSB hs hnx hS HCL
        by_cases hpl : p = last
        · have i8 := i7 hpl
          subst hpl
          clear i7
          go_wp2_with fail
          go_roundw
          case rel => exact ⟨p, i, j + 1, rfl, rfl, by go_num, by omega, HF⟩
          case measure => first | (simp [intOf]; done) | (simp [intOf]; omega)
        · have i8 : ¬ p = last := hpl
          clear i7
          go_wp2_with fail
          go_roundw
          case rel => exact ⟨p, i, j + 1, rfl, rfl, by go_num, by omega, HF⟩
          case measure => first | (simp [intOf]; done) | (simp [intOf]; omega)
      · have HX : Hid (Below w.heap.size w wr) := by
          obtain ⟨_, _, h1, _⟩ := HK.out
          exact h1.bel
        have hex1 : j < 80 → (j : Int) < n0 → ¬ (j : Int) < (l.length : Int) := fun h h' => by omega
        clear hlt HK
        go_wp2_with fail
        all_goals go_ret
        all_goals exact ⟨rfl, HX.out⟩
end Go.Proofs.Ytfinleobgmdebaa
