/-
  Whether windows of two lists overlap; whether a pair stands among some.
-/
import Derived.Test.YtmfelkdcoihkpaaDoorCont
namespace Go.Proofs.YtmfelkdcoihkpaaDoor
open Go.RowKit

theorem enters77 : Enters 77 := enters_of Tryd.func77 (by kernel_rfl) rfl
theorem enters78 : Enters 78 := enters_of Tryd.func78 (by kernel_rfl) rfl
set_option maxHeartbeats 1000000 in
theorem closure78 (b : Nat) (v x : WinA) (W : World) (hb : WB W b v) (hv : WfWin v) (hx : WfWin x) :
    Calls Tryd.prog 78 #[wv x, .pointer (some ⟨b, 0, none⟩)] W fun e w' => e = .returned (.bool (ovB v x)) ∧ Below W.heap.size W w' := by
  obtain ⟨v0, v1, v2, v3⟩ := v
  obtain ⟨x0, x1, x2, x3⟩ := x
  have G := fun W => overlap_any (v0, v1, v2, v3) (x0, x1, x2, x3) W hv hx
  simp only [wv] at G ⊢
  have HG := Lib.hid G
  obtain ⟨c0, c1, c2, c3⟩ := hb.alloc (.cells #[.int .u16 x0, .int .u16 x1, .int .u8 x2, .int .u8 x3] 39)
  dsimp only at c0 c1 c2 c3
  clear G hb
  go_enter Tryd.func78, Tryd.ntmps78
  go_wp2_with fail
  refine (HG.out _).mono ?_
  rintro e w1 ⟨rfl, hB⟩
  have HB := Lib.hid hB
  clear hB
  go_wp2_with fail
  go_ret
  exact ⟨rfl, below_two ((Below.refl _ _).alloc (Nat.le_refl _) _) HB.out⟩

set_option maxHeartbeats 1000000 in
theorem closure77 (b : Nat) (A : Option Addr) (c : Nat) (ws : List WinA) (v : WinA) (W : World) (hb : W.cell? ⟨b, 0, none⟩ = some (.slice A ws.length c)) (hA : WinsAt W A ws) (hv : WfWin v) (hws : ∀ x ∈ ws, WfWin x) (hn : ws.length ≤ 1000000000000000) :
    Calls Tryd.prog 77 #[wv v, .pointer (some ⟨b, 0, none⟩)] W fun e w' => e = .returned (.bool (ws.any fun x => ovB v x)) ∧ Below W.heap.size W w' := by
  obtain ⟨v0, v1, v2, v3⟩ := v
  have hB0 : Below W.heap.size W (W.alloc (.cells #[.int .u16 v0, .int .u16 v1, .int .u8 v2, .int .u8 v3] 39)) := (Below.refl _ _).alloc (Nat.le_refl _) _
  have G := contains_win 78 #[.pointer (some ⟨W.heap.size, 0, none⟩)] (fun x => ovB (v0, v1, v2, v3) x) A c ws _ (Arr.keep hA hB0) enters78 hn fun x W' hx hB' => closure78 W.heap.size (v0, v1, v2, v3) x W' ((WB.new W v0 v1 v2 v3).keep hB') hv (hws x hx)
  have c0 := kept hb hB0
  have HB0 := Lib.hid hB0
  simp only [wv] at G ⊢
  have HG := Lib.hid G
  obtain ⟨n, hn⟩ : ∃ n, n = ws.length := ⟨_, rfl⟩
  rw [← hn] at HG c0
  obtain ⟨q, hq⟩ : ∃ q, q = ws.any (fun x => ovB (v0, v1, v2, v3) x) := ⟨_, rfl⟩
  rw [← hq] at HG ⊢
  clear G hb hn hB0 hA hq hws
  go_enter Tryd.func77, Tryd.ntmps77
  go_wp2_with fail
  refine HG.out.mono ?_
  rintro e w1 ⟨rfl, hB⟩
  have HB := Lib.hid hB
  clear hB
  go_wp2_with fail
  go_ret
  exact ⟨rfl, below_two HB0.out HB.out⟩

set_option maxHeartbeats 1000000 in
theorem clash_any (A : Option Addr) (c : Nat) (vs : List WinA) (A2 : Option Addr) (c2 : Nat) (ws : List WinA) (W : World) (hA : WinsAt W A vs) (hA2 : WinsAt W A2 ws) (hv : ∀ x ∈ vs, WfWin x) (hw : ∀ x ∈ ws, WfWin x) (hn : vs.length ≤ 1000000000000000) (hn2 : ws.length ≤ 1000000000000000) :
    Calls Tryd.prog 68 #[.slice A vs.length c, .slice A2 ws.length c2] W fun e w' => e = .returned (.bool (clashB vs ws)) ∧ Below W.heap.size W w' := by
  have hB0 : Below W.heap.size W (W.alloc (.cells #[.slice A2 ws.length c2] 43)) := (Below.refl _ _).alloc (Nat.le_refl _) _
  have G := contains_win 77 #[.pointer (some ⟨W.heap.size, 0, none⟩)] (fun v => ws.any fun x => ovB v x) A c vs _ (Arr.keep hA hB0) enters77 hn fun x W' hx hB' => closure77 W.heap.size A2 c2 ws x W' (kept (by simp) hB') (Arr.keep (Arr.keep hA2 hB0) hB') (hv x hx) hw hn2
  have HB0 := Lib.hid hB0
  have HG := Lib.hid G
  obtain ⟨n, hn⟩ : ∃ n, n = ws.length := ⟨_, rfl⟩
  rw [← hn] at HG HB0 ⊢
  obtain ⟨n', hn'⟩ : ∃ n, n = vs.length := ⟨_, rfl⟩
  rw [← hn'] at HG ⊢
  have hq' : clashB vs ws = vs.any fun v => ws.any fun x => ovB v x := rfl
  rw [hq']
  obtain ⟨q, hq⟩ : ∃ q, q = vs.any fun v => ws.any fun x => ovB v x := ⟨_, rfl⟩
  rw [← hq] at HG ⊢
  clear G hn hn' hB0 hA hA2 hq hq' hv hw
  go_enter Tryd.func68, Tryd.ntmps68
  go_wp2_with fail
  refine HG.out.mono ?_
  rintro e w1 ⟨rfl, hB⟩
  have HB := Lib.hid hB
  clear hB
  go_wp2_with fail
  go_ret
  exact ⟨rfl, below_two HB0.out HB.out⟩

theorem eql45 (a0 a1 b0 b1 : Int) (w : World) : (binOp .eql 45 (.agg #[.int .u8 a0, .int .u8 a1]) (.agg #[.int .u8 b0, .int .u8 b1])).run Tryd.prog w = .ok (.bool (decide (((a0, a1) : PairA) = (b0, b1)))) w := by
  have hS : Tryd.prog.underlying 45 = some (.struct (Tryd.prog.fieldsOf 45)) := by kernel_rfl
  have hp : Tryd.prog.stoodInHeld 45 = false := by kernel_rfl
  have u2 := Tryd.underlying5
  rw [run_eql_struct, show (10000 : Nat) = 9999 + 1 from rfl, run_equalIn_agg w 9999 45 _ _ hS hp]
  simp only [Program.fieldsOf, Tryd.underlying45]
  go_simp
  by_cases h0 : a0 = b0 <;> by_cases h1 : a1 = b1 <;> simp [h0, h1]

def PIdxRel (w : World) (ws : List PairA) (x : PairA) (i : Value) (wr : World) : Prop :=
  ∃ k : Nat, k ≤ ws.length ∧ i = .int .i64 k ∧ (∀ j, j < k → ws.getD j dS ≠ x) ∧ Below w.heap.size w wr ∧ wr.cell? ⟨w.heap.size, 0, none⟩ = some (.int .u8 x.1) ∧ wr.cell? ⟨w.heap.size, 1, none⟩ = some (.int .u8 x.2)
theorem mem_no {l : List PairA} {x : PairA} (h : ∀ j, j < l.length → l.getD j dS ≠ x) : decide (x ∈ l) = false := by
  refine decide_eq_false fun hx => ?_
  obtain ⟨j, hj, rfl⟩ := List.getElem_of_mem hx
  refine h j hj ?_
  rw [List.getD_eq_getElem?_getD, List.getElem?_eq_getElem hj]; rfl

set_option maxHeartbeats 4000000 in
theorem index_pair (A : Option Addr) (c : Nat) (ws : List PairA) (x : PairA) (w : World) (hA : SemsAt w A ws) (hn : ws.length ≤ 1000000000000000) :
    Calls Tryd.prog 76 #[.slice A ws.length c, .agg #[.int .u8 x.1, .int .u8 x.2]] w fun e w' => IdxPost (decide (x ∈ ws)) w e w' := by
  obtain ⟨x0, x1⟩ := x
  have HA := Lib.hid hA
  clear hA
  obtain ⟨n, hnn⟩ : ∃ n, n = ws.length := ⟨_, rfl⟩
  rw [← hnn] at hn ⊢
  have HN := Lib.hid hnn
  obtain ⟨q, hq⟩ : ∃ q, q = decide ((x0, x1) ∈ ws) := ⟨_, rfl⟩
  rw [← hq]
  have HQ := Lib.hid hq
  clear hnn hq
  dsimp only
  have HB0 : Hid (Below w.heap.size w (w.alloc (.cells #[.int .u8 x0, .int .u8 x1] 45))) := (Below.refl _ _).alloc (Nat.le_refl _) _
  go_enter Tryd.func76, Tryd.ntmps76
  go_wp2_with fail
  go_loopw [8] (fun i wr => PIdxRel w ws (x0, x1) i wr) (fun i _ => n - (intOf i).toNat)
  case atStart => exact ⟨0, Nat.zero_le _, rfl, fun j hj => by omega, HB0.out, by simp, by simp⟩
  case round =>
    obtain ⟨k, hk, rfl, hj, hB, hb0, hb1⟩ := hrel
    rw [← HN.out] at hk
    dsimp only at hb0 hb1
    have HJ := Lib.hid hj
    have HB := Lib.hid hB
    by_cases hlt : k < n
    · have hlw : k < ws.length := by rw [← HN.out]; exact hlt
      obtain ⟨b, o, rfl⟩ := Arr.head HA.out hlw
      obtain ⟨⟨y0, y1⟩, hy⟩ : ∃ y, y = ws.getD k dS := ⟨_, rfl⟩
      have c0 := kept (Arr.at (j := 0) HA.out hlw rfl) hB
      have c1 := kept (Arr.at (j := 1) HA.out hlw rfl) hB
      simp only [← hy, Nat.add_zero] at c0 c1
      have he := eql45 x0 x1 y0 y1
      have p0 : (0 : Int) ≤ (k : Int) := Int.natCast_nonneg _
      have p1 : (k : Int) < (n : Int) := by omega
      have HY := Lib.hid hy
      clear hj hB hy hlw
      by_cases heq : ((x0, x1) : PairA) = (y0, y1)
      · have HE := Lib.hid heq
        have hd : decide (((x0, x1) : PairA) = (y0, y1)) = true := decide_eq_true heq
        simp only [hd] at he
        clear heq hd
        go_wp2_with fail
        go_quiet (fail)
        go_wp2_with fail
        go_ret
        refine ⟨k, rfl, ?_, below_drewN HB.out _⟩
        rw [HQ.out, decide_eq_true (show (x0, x1) ∈ ws by rw [HE.out, HY.out]; exact getD_mem dS (by rw [← HN.out]; exact hlt))]
        exact decide_eq_true (by omega)
      · have HE := Lib.hid heq
        have hd : decide (((x0, x1) : PairA) = (y0, y1)) = false := decide_eq_false heq
        simp only [hd] at he
        clear heq hd
        go_wp2_with fail
        go_quiet (fail)
        go_wp2_with fail
        go_roundw
        case rel => exact ⟨k + 1, by rw [← HN.out]; omega, by go_num, fun j hj => (by
          rcases Nat.lt_or_ge j k with h | h
          · exact HJ.out j h
          · obtain rfl : j = k := by omega
            rw [← HY.out]; exact fun e => HE.out e.symm), below_drewN HB.out _, by simpa using hb0, by simpa using hb1⟩
        case measure => simp [intOf]; omega
    · have hk' : k = n := by omega
      subst hk'
      clear hj hB
      go_wp2_with fail
      go_ret
      refine ⟨-1, rfl, ?_, HB.out⟩
      rw [HQ.out, mem_no (by rw [← HN.out]; exact HJ.out)]
      rfl

theorem contains_pair (A : Option Addr) (c : Nat) (ws : List PairA) (x : PairA) (w : World) (hA : SemsAt w A ws) (hn : ws.length ≤ 1000000000000000) :
    Calls Tryd.prog 67 #[.slice A ws.length c, .agg #[.int .u8 x.1, .int .u8 x.2]] w fun e w' => e = .returned (.bool (decide (x ∈ ws))) ∧ Below w.heap.size w w' := by
  have hB0 : Below w.heap.size w (w.alloc (.cells #[.int .u8 x.1, .int .u8 x.2] 45)) := (Below.refl _ _).alloc (Nat.le_refl _) _
  have HI := Lib.hid (index_pair A c ws x _ (Arr.keep hA hB0) hn)
  have HB0 := Lib.hid hB0
  obtain ⟨x0, x1⟩ := x
  dsimp only at HI HB0 ⊢
  clear hA hB0
  obtain ⟨n, hnn⟩ : ∃ n, n = ws.length := ⟨_, rfl⟩
  rw [← hnn] at HI ⊢
  obtain ⟨q, hq⟩ : ∃ q, q = decide ((x0, x1) ∈ ws) := ⟨_, rfl⟩
  rw [← hq] at HI ⊢
  clear hn hnn hq
  go_enter Tryd.func67, Tryd.ntmps67
  go_wp2_with fail
  refine HI.out.mono ?_
  rintro e w1 ⟨r, rfl, hr, hB⟩
  have HB := Lib.hid hB
  have HR := Lib.hid hr
  clear hB hr
  go_wp2_with fail
  go_ret
  exact ⟨ret_b HR.out, below_two HB0.out HB.out⟩
end Go.Proofs.YtmfelkdcoihkpaaDoor
