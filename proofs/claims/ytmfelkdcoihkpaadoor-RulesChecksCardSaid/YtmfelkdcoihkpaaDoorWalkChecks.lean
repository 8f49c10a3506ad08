/-
  The walk of RulesChecks.
-/
import Derived.Test.YtmfelkdcoihkpaaDoorWalkParts
import Derived.Test.YtmfelkdcoihkpaaDoorCbAll
namespace Go.Proofs.YtmfelkdcoihkpaaDoor
open Go.RowKit Go.Stop

set_option maxHeartbeats 16000000 in
set_option maxRecDepth 100000 in
theorem walk_checks (P : PlanA) (L : PlanL) (w : World) (hG : GOk w) (hP : PlanAt w P L) (hO : POk P L) :
    Calls Tryd.prog 3 #[planV P L] w fun e w' => e = .returned (.bool true) ∧ Below w.heap.size w w' := by
  have h0 := hG.lt
  have HGB := Lib.hid (fun W (hB : Below w.heap.size w W) => hG.below hB h0)
  have HAW := Lib.hid (fun W (hB : Below w.heap.size w W) => awake_any W (hG.below hB h0))
  have HF := Lib.hid (fun W (hB : Below w.heap.size w W) => few_any P L W (hP.keep hB) hO)
  have HC := Lib.hid (fun W (hB : Below w.heap.size w W) => check_any P L W (hP.keep hB) hO)
  have HRC := Lib.hid (fun W (hB : Below w.heap.size w W) => refCheck_any P L W (hP.keep hB) hO)
  have HWY := Lib.hid (fun (b : Nat) (v : Value) W (hT : TellsC b (checkS P) (.returned v) W) (hB : Below w.heap.size w W) => why_of (P := P) hT (hG.below hB h0))
  have hpv : planV P L = .agg #[.int .u16 P.1, .slice L.a1 P.2.1.length L.c1, .slice L.a2 P.2.2.1.length L.c2, .slice L.a3 P.2.2.2.1.length L.c3, .slice L.a4 P.2.2.2.2.length L.c4] := rfl
  rw [hpv] at HF HC HRC ⊢
  obtain ⟨⟨r1, r2⟩, hr⟩ : ∃ r, r = checkS P := ⟨_, rfl⟩
  rw [← hr] at HC HRC HWY
  have HB0 : Hid (Below w.heap.size w (w.alloc (.cells #[.int .u16 P.1, .slice L.a1 P.2.1.length L.c1, .slice L.a2 P.2.2.1.length L.c2, .slice L.a3 P.2.2.2.1.length L.c3, .slice L.a4 P.2.2.2.2.length L.c4] 28))) := (Below.refl _ _).alloc (Nat.le_refl _) _
  have HPB0 : Hid (PB (w.alloc (.cells #[.int .u16 P.1, .slice L.a1 P.2.1.length L.c1, .slice L.a2 P.2.2.1.length L.c2, .slice L.a3 P.2.2.2.1.length L.c3, .slice L.a4 P.2.2.2.2.length L.c4] 28)) w.heap.size P L) := PB.new w P.1 P.2.1 P.2.2.1 P.2.2.2.1 P.2.2.2.2 L.a1 L.c1 L.a2 L.c2 L.a3 L.c3 L.a4 L.c4
  clear hpv hG hP hO hr
  go_enter Tryd.func3, Tryd.ntmps3
  go_wp2_with fail
  refine (HF.out _ HB0.out).mono ?_
  rintro e w1 ⟨⟨bb, rfl⟩, hB⟩
  have HB1 := Lib.hid (below_two HB0.out hB)
  have HPB1 := Lib.hid (HPB0.out.keep hB)
  clear hB
  cases bb
  · go_wp2_with fail
    refine (HAW.out _ HB1.out).mono ?_
    rintro e w2 ⟨rfl, hB⟩
    have HB2 := Lib.hid hB
    clear hB
    go_wp2_with fail
    go_ret
    exact ⟨rfl, below_two HB1.out HB2.out⟩
  · obtain ⟨k0, k1, k2, k3, k4⟩ := HPB1.out
    go_wp2_with fail
    refine (HC.out _ HB1.out).mono ?_
    rintro e w3 ⟨hT, hB⟩
    obtain ⟨v, rfl⟩ := hT.val
    have HW := Lib.hid (HWY.out _ v _ hT (below_two HB1.out hB))
    have HB3 := Lib.hid (below_two HB1.out hB)
    have HPB3 := Lib.hid (HPB1.out.keep hB)
    clear hT hB k0 k1 k2 k3 k4
    go_wp2_with fail
    refine HW.out.mono ?_
    rintro e w4 ⟨rfl, hB⟩
    have HB4 := Lib.hid (below_two HB3.out hB)
    obtain ⟨k0, k1, k2, k3, k4⟩ := HPB3.out.keep hB
    clear hB
    go_wp2_with fail
    refine (HRC.out _ HB4.out).mono ?_
    rintro e w5 ⟨rfl, hB⟩
    have HB5 := Lib.hid (below_two HB4.out hB)
    clear hB k0 k1 k2 k3 k4
    go_wp2_with fail
    refine (HAW.out _ HB5.out).mono ?_
    rintro e w6 ⟨rfl, hB⟩
    have HB6 := Lib.hid (below_two HB5.out hB)
    clear hB
    go_wp2_with fail
    go_ret
    exact ⟨by simp, HB6.out⟩
end Go.Proofs.YtmfelkdcoihkpaaDoor
