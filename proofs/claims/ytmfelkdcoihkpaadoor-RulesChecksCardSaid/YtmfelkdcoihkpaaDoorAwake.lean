/-
  The chapter's examples: awake answers true, and changes nothing that was there.
-/
import Derived.Test.YtmfelkdcoihkpaaDoorEx
import Derived.Stop.IfaceNil
namespace Go.Proofs.YtmfelkdcoihkpaaDoor
open Go.RowKit Go.Stop

theorem checkS_zero {P : PlanA} (h : (checkS P).1 = 0) : checkS P = (0, 0) := checkS_ok (holds_of_ok h)
/-- Why over what Check has answered. -/
theorem why_of {base : Nat} {P : PlanA} {v : Value} {w : World} (h : TellsC base (checkS P) (.returned v) w) (hG : GOk w) :
    Calls Tryd.prog 11 #[v] w fun e w' => e = .returned (.tuple #[.int .i64 (checkS P).1, .int .i64 (checkS P).2]) ∧ Below w.heap.size w w' := by
  rcases h with ⟨h0, h1⟩ | ⟨h0, b, _, h1, c0, c1⟩
  · injection h1 with h1
    subst h1
    rw [checkS_zero h0]
    exact why_nil w
  · injection h1 with h1
    subst h1
    exact why_fail0 b 0 _ _ w hG c0 c1
theorem TellsC.val {base : Nat} {r : Int × Int} {e : Ending} {w : World} (h : TellsC base r e w) : ∃ v, e = .returned v := by
  rcases h with ⟨_, rfl⟩ | ⟨_, b, _, rfl, _⟩
  · exact ⟨_, rfl⟩
  · exact ⟨_, rfl⟩

def pA : PlanA := exP (0, 4, 0, 0) (2, 4, 0, 0)
def pB : PlanA := (10, [[(8, 3, 0, 0)]], [qA], [], [])
def pC : PlanA := exP (0, 4, 0, 1) (0, 4, 0, 1)
theorem pA_S : checkS pA = (47, 0) := by decide +kernel
theorem pB_S : checkS pB = (44, 0) := by decide +kernel
theorem pC_S : checkS pC = (0, 0) := by decide +kernel
theorem qA_wf : WfPart qA := by
  refine ⟨fun s hs => by simp [qA] at hs, ?_, fun z hz => ?_, ?_, ?_, ?_⟩
  · unfold byte; decide
  · simp [qA] at hz; subst hz; unfold byte; decide
  · unfold byte; decide
  · unfold byte; decide
  · unfold byte; decide
theorem ex_ok {x y : WinA} {b5 b7 : Nat} (hx : WfWin x) (hy : WfWin y) : POk (exP x y) (exL b5 b7) := by
  refine ⟨⟨by unfold wide exP; dsimp only; omega, fun ws hws v hv => ?_, fun q hq => ?_, fun c hc => ?_, fun r hr => ?_⟩, by simp [exP], by simp [exP], by simp [exP], by simp [exP], fun ws hws => ?_, fun q hq => ?_, by simp [exP, exL], by simp [exP]⟩
  · simp [exP] at hws
    rcases hws with rfl | rfl
    · simp at hv; subst hv; exact hx
    · simp at hv; subst hv; exact hy
  · simp [exP] at hq; subst hq; exact qA_wf
  · simp [exP] at hc
  · simp [exP] at hr
  · simp [exP] at hws
    rcases hws with rfl | rfl <;> simp
  · simp [exP] at hq; subst hq; simp [qA]
theorem pB_ok {a1 a2 : Option Addr} : POk pB ⟨a1, 1, a2, 1, none, 0, none, 0⟩ := by
  refine ⟨⟨by unfold wide; decide, fun ws hws v hv => ?_, fun q hq => ?_, fun c hc => ?_, fun r hr => ?_⟩, by simp [pB], by simp [pB], by simp [pB], by simp [pB], fun ws hws => ?_, fun q hq => ?_, by simp [pB], by simp [pB]⟩
  · simp [pB] at hws
    subst hws
    simp at hv
    subst hv
    refine ⟨?_, ?_, ?_, ?_⟩ <;> first | (unfold wide; decide) | (unfold byte; decide)
  · simp [pB] at hq; subst hq; exact qA_wf
  · simp [pB] at hc
  · simp [pB] at hr
  · simp [pB] at hws
    subst hws
    simp
  · simp [pB] at hq; subst hq; simp [qA]

set_option maxHeartbeats 8000000 in
set_option maxRecDepth 100000 in
theorem awake_any (w : World) (hG : GOk w) : Calls Tryd.prog 10 #[] w fun e w' => e = .returned (.bool true) ∧ Below w.heap.size w w' := by
  have h0 := hG.lt
  have HG := Lib.hid (fun W (hB : Below w.heap.size w W) => hG.below hB h0)
  clear hG
  go_enter Tryd.func10, Tryd.ntmps10
  go_wp2_with fail
  refine (example0 _).mono ?_
  rintro e w1 ⟨b5, b7, rfl, hP, hB⟩
  rw [show planV (exP (0, 4, 0, 0) (2, 4, 0, 0)) (exL b5 b7) = .agg #[.int .u16 10, .slice (some ⟨b5, 0, none⟩) 2 2, .slice (some ⟨b7, 0, none⟩) 1 1, .slice none 0 0, .slice none 0 0] from rfl]
  have hz : Below w1.heap.size w1 (w1.alloc (.cells #[.int .u16 10, .slice (some ⟨b5, 0, none⟩) 2 2, .slice (some ⟨b7, 0, none⟩) 1 1, .slice none 0 0, .slice none 0 0] 28)) := (Below.refl _ _).alloc (Nat.le_refl _) _
  have HP := Lib.hid (hP.keep hz)
  have HP1 := Lib.hid hP
  have HBW1 := Lib.hid hB
  have HB1 := Lib.hid (below_two hB hz)
  clear hP hB hz
  go_wp2_with fail
  have hck := check_any pA (exL b5 b7) _ HP.out (ex_ok (by refine ⟨?_, ?_, ?_, ?_⟩ <;> first | (unfold wide; decide) | (unfold byte; decide)) (by refine ⟨?_, ?_, ?_, ?_⟩ <;> first | (unfold wide; decide) | (unfold byte; decide)))
  rw [show planV pA (exL b5 b7) = .agg #[.int .u16 10, .slice (some ⟨b5, 0, none⟩) 2 2, .slice (some ⟨b7, 0, none⟩) 1 1, .slice none 0 0, .slice none 0 0] from rfl] at hck
  refine hck.mono ?_
  clear hck
  rintro e w2 ⟨hT, hB⟩
  obtain ⟨v, rfl⟩ := hT.val
  have hwy := why_of (P := pA) hT (HG.out _ (below_two HB1.out hB))
  rw [pA_S] at hwy
  have HWY := Lib.hid hwy
  have HB2 := Lib.hid (below_two HB1.out hB)
  have hf : w2.frozen? ⟨w1.heap.size, 1, none⟩ = false := by rw [hB.frozen (p := ⟨w1.heap.size, 1, none⟩) (by simp)]; simp
  have HF := Lib.hid hf
  have HU := Lib.hid (((Below.refl w1.heap.size w1).alloc (Nat.le_refl _) (.cells #[.int .u16 10, .slice (some ⟨b5, 0, none⟩) 2 2, .slice (some ⟨b7, 0, none⟩) 1 1, .slice none 0 0, .slice none 0 0] 28)).trans (hB.mono (by simp)))
  obtain ⟨k0, k1, k2, k3, k4⟩ := (PB.new w1 10 [[(0, 4, 0, 0)], [(2, 4, 0, 0)]] [qA] [] [] (some ⟨b5, 0, none⟩) 2 (some ⟨b7, 0, none⟩) 1 none 0 none 0).keep hB
  simp only [List.length_cons, List.length_nil, Nat.zero_add, Nat.reduceAdd] at k0 k1 k2 k3 k4
  have HK0 := Lib.hid k0
  have HK1 := Lib.hid k1
  have HK2 := Lib.hid k2
  have HK3 := Lib.hid k3
  have HK4 := Lib.hid k4
  clear hwy hT hB k0 k1 k2 k3 k4 hf
  go_wp2_with fail
  refine HWY.out.mono ?_
  rintro e w3 ⟨rfl, hB⟩
  have hx : Below w3.heap.size w3 ((w3.alloc (.cells #[.int .u16 8, .int .u16 3, .int .u8 0, .int .u8 0] 39)).alloc (.cells #[.slice (some ⟨w3.heap.size, 0, none⟩) 1 1] 43)) := ((Below.refl _ _).alloc (Nat.le_refl _) _).alloc (by simp) _
  have hlt : w1.heap.size < w2.heap.size := cell_lt HK1.out
  have hlt3 : w1.heap.size < w3.heap.size := Nat.lt_of_lt_of_le hlt hB.size
  have k0 := kept (kept HK0.out hB) hx
  have k1 := kept (kept HK1.out hB) hx
  have k2 := kept (kept HK2.out hB) hx
  have k3 := kept (kept HK3.out hB) hx
  have k4 := kept (kept HK4.out hB) hx
  have f1 : ((w3.alloc (.cells #[.int .u16 8, .int .u16 3, .int .u8 0, .int .u8 0] 39)).alloc (.cells #[.slice (some ⟨w3.heap.size, 0, none⟩) 1 1] 43)).frozen? ⟨w1.heap.size, 1, none⟩ = false := by
    rw [hx.frozen (p := ⟨w1.heap.size, 1, none⟩) hlt3, hB.frozen (p := ⟨w1.heap.size, 1, none⟩) hlt]; exact HF.out
  have HU3 := Lib.hid (HU.out.trans (hB.mono (Nat.le_of_lt hlt)))
  have HL3 := Lib.hid hlt3
  clear hB hx hlt hlt3
  go_wp2_with fail
  obtain ⟨W5, hW5⟩ : ∃ W5, W5 = ((w3.alloc (.cells #[.int .u16 8, .int .u16 3, .int .u8 0, .int .u8 0] 39)).alloc (.cells #[.slice (some ⟨w3.heap.size, 0, none⟩) 1 1] 43)).setCell ⟨w1.heap.size, 1, none⟩ (.slice (some ⟨w3.heap.size + 1, 0, none⟩) 1 1) := ⟨_, rfl⟩
  have hl3 := HL3.out
  have hU5 : Below w1.heap.size w1 W5 := by
    rw [hW5]
    exact (((HU3.out.alloc (by omega) _).alloc (by simp; omega) _)).setCell (Nat.le_refl _) _
  have hP5 : PlanAt W5 pB ⟨some ⟨w3.heap.size + 1, 0, none⟩, 1, some ⟨b7, 0, none⟩, 1, none, 0, none, 0⟩ := by
    have hp := (HP1.out.keep hU5).parts
    refine ⟨?_, hp, no_arr, no_arr⟩
    have hs : ∀ b o v, b ≠ w1.heap.size → ((w3.alloc (.cells #[.int .u16 8, .int .u16 3, .int .u8 0, .int .u8 0] 39)).alloc (.cells #[.slice (some ⟨w3.heap.size, 0, none⟩) 1 1] 43)).cell? ⟨b, o, none⟩ = some v → W5.cell? ⟨b, o, none⟩ = some v := fun b o v hne hc => by
      rw [hW5, World.cell?_setCell_other _ _ _ _ (fun e => hne (by injection e with e1 _ _; exact e1.symm))]
      exact hc
    have hwb := (WB.new w3 8 3 0 0).alloc (.cells #[.slice (some ⟨w3.heap.size, 0, none⟩) 1 1] 43)
    exact cores_one (hs _ _ _ (by omega) (by rw [World.cell?_alloc_at _ _ _ _ (by simp)]; rfl)) ⟨hs _ _ _ (by omega) hwb.1, hs _ _ _ (by omega) hwb.2.1, hs _ _ _ (by omega) hwb.2.2.1, hs _ _ _ (by omega) hwb.2.2.2⟩
  rw [← hW5]
  have HP5 := Lib.hid hP5
  have HB5 := Lib.hid (HBW1.out.trans (hU5.mono HBW1.out.size))
  clear hW5 hl3 hU5 hP5 k0 k1 k2 k3 k4 f1
  have hck := check_any pB _ _ HP5.out pB_ok
  rw [show planV pB ⟨some ⟨w3.heap.size + 1, 0, none⟩, 1, some ⟨b7, 0, none⟩, 1, none, 0, none, 0⟩ = .agg #[.int .u16 10, .slice (some ⟨w3.heap.size + 1, 0, none⟩) 1 1, .slice (some ⟨b7, 0, none⟩) 1 1, .slice none 0 0, .slice none 0 0] from rfl] at hck
  refine hck.mono ?_
  clear hck
  rintro e w6 ⟨hT, hB⟩
  obtain ⟨v2, rfl⟩ := hT.val
  have hwy := why_of (P := pB) hT (HG.out _ (below_two HB5.out hB))
  rw [pB_S] at hwy
  have HWY2 := Lib.hid hwy
  have HB6 := Lib.hid (below_two HB5.out hB)
  clear hwy hT hB
  go_wp2_with fail
  refine HWY2.out.mono ?_
  rintro e w7 ⟨rfl, hB⟩
  have HB7 := Lib.hid (below_two HB6.out hB)
  clear hB
  go_wp2_with fail
  refine (example1 _).mono ?_
  rintro e w8 ⟨d5, d7, rfl, hP, hB⟩
  rw [show planV (exP (0, 4, 0, 1) (0, 4, 0, 1)) (exL d5 d7) = .agg #[.int .u16 10, .slice (some ⟨d5, 0, none⟩) 2 2, .slice (some ⟨d7, 0, none⟩) 1 1, .slice none 0 0, .slice none 0 0] from rfl]
  have HP8 := Lib.hid hP
  have HB8 := Lib.hid (below_two HB7.out hB)
  clear hP hB
  go_wp2_with fail
  have hck := check_any pC (exL d5 d7) _ HP8.out (ex_ok (by refine ⟨?_, ?_, ?_, ?_⟩ <;> first | (unfold wide; decide) | (unfold byte; decide)) (by refine ⟨?_, ?_, ?_, ?_⟩ <;> first | (unfold wide; decide) | (unfold byte; decide)))
  rw [show planV pC (exL d5 d7) = .agg #[.int .u16 10, .slice (some ⟨d5, 0, none⟩) 2 2, .slice (some ⟨d7, 0, none⟩) 1 1, .slice none 0 0, .slice none 0 0] from rfl, pC_S] at hck
  refine hck.mono ?_
  clear hck
  rintro e w9 ⟨hT, hB⟩
  rcases hT with ⟨_, rfl⟩ | ⟨h, _⟩
  case inr => exact absurd rfl h
  have hnn := fun W => run_eql_nil_nil_at (P := Tryd.prog) (w := W) 35 (by kernel_rfl)
  have HB9 := Lib.hid (below_two HB8.out hB)
  clear hB
  go_wp2_with fail
  refine (overlap_any (0, 4, 0, 0) (3, 1, 0, 0) _ (by refine ⟨?_, ?_, ?_, ?_⟩ <;> first | (unfold wide; decide) | (unfold byte; decide)) (by refine ⟨?_, ?_, ?_, ?_⟩ <;> first | (unfold wide; decide) | (unfold byte; decide))).mono ?_
  rintro e w10 ⟨rfl, hB⟩
  rw [show ovB (0, 4, 0, 0) (3, 1, 0, 0) = true by decide]
  have HB10 := Lib.hid (below_two HB9.out hB)
  clear hB
  go_wp2_with fail
  refine (together_any (0, 4, 0, 0) (0, 4, 0, 0) _).mono ?_
  rintro e w11 ⟨rfl, hB⟩
  rw [show togB (0, 4, 0, 0) (0, 4, 0, 0) = false by decide]
  have HB11 := Lib.hid (below_two HB10.out hB)
  clear hB
  go_wp2_with fail
  go_ret
  exact ⟨rfl, HB11.out⟩
end Go.Proofs.YtmfelkdcoihkpaaDoor
