/-
  The chapter's example: awake answers true, and changes nothing that was there.
-/
import Derived.Test.YtjiikhfeacgjjaaExW
namespace Go.Proofs.Ytjiikhfeacgjjaa
open Go.RowKit

def eC2 : ChanA := (0, 2, 3, 0, 0, 0)
def exR : PlanA := (0, [], [dQ, dQ, dQ, dQ], [eC0, eC1, eC2], [(0, 3)])
theorem wfC {k f t : Int} (hk : byte k) (hf : byte f) (ht : byte t) : WfChan (k, f, t, 0, 0, 0) := ⟨hk, hf, ht, by unfold byte; dsimp only; omega, by unfold byte; dsimp only; omega, by unfold wide; dsimp only; omega⟩
theorem wf0 : WfChan eC0 := wfC (by unfold byte; decide) (by unfold byte; decide) (by unfold byte; decide)
theorem wf1 : WfChan eC1 := wfC (by unfold byte; decide) (by unfold byte; decide) (by unfold byte; decide)
theorem wf2 : WfChan eC2 := wfC (by unfold byte; decide) (by unfold byte; decide) (by unfold byte; decide)
theorem wfCs : ∀ c ∈ [eC0, eC1], WfChan c := by
  intro c hc
  simp at hc
  rcases hc with rfl | rfl
  · exact wf0
  · exact wf1
theorem wfRs : ∀ c ∈ [eC0, eC1, eC2], WfChan c := by
  intro c hc
  simp at hc
  rcases hc with rfl | rfl | rfl
  · exact wf0
  · exact wf1
  · exact wf2
theorem dQ_wf : WfPart dQ := by
  refine ⟨fun s hs => by simp [dQ] at hs, ?_, fun z hz => by simp [dQ] at hz, ?_, ?_, ?_⟩ <;> (unfold byte; decide)
theorem ex_wf : WfPlan exP := by
  refine ⟨by unfold wide; decide, fun ws hws => by simp [exP] at hws, fun q hq => ?_, wfCs, fun r hr => ?_⟩
  · simp [exP] at hq; subst hq; exact dQ_wf
  · simp [exP] at hr; subst hr; constructor <;> (unfold byte; decide)
theorem exr_wf : WfPlan exR := by
  refine ⟨by unfold wide; decide, fun ws hws => by simp [exR] at hws, fun q hq => ?_, wfRs, fun r hr => ?_⟩
  · simp [exR] at hq; subst hq; exact dQ_wf
  · simp [exR] at hr; subst hr; constructor <;> (unfold byte; decide)
theorem ex_few : Few exP := by
  refine ⟨by decide, by decide, by decide, by decide, fun ws hw => by simp [exP] at hw, fun q hq => ?_⟩
  simp [exP] at hq; subst hq; simp [dQ]
theorem p02 : pathB 4 [eC0, eC1] 0 2 = true := by rw [← rndK_path wfCs (by decide)]; decide
theorem p12 : pathB 4 [eC0, eC1] 1 2 = true := by rw [← rndK_path wfCs (by decide)]; decide
theorem p22 : pathB 4 [eC0, eC1] 2 2 = true := by rw [← rndK_path wfCs (by decide)]; decide
theorem p32 : pathB 4 [eC0, eC1] 3 2 = false := by rw [← rndK_path wfCs (by decide)]; decide
theorem p03 : pathB 4 [eC0, eC1] 0 3 = false := by rw [← rndK_path wfCs (by decide)]; decide
theorem p30 : pathB 4 [eC0, eC1] 3 0 = false := by rw [← rndK_path wfCs (by decide)]; decide
theorem p20 : pathB 4 [eC0, eC1] 2 0 = false := by rw [← rndK_path wfCs (by decide)]; decide
theorem p01 : pathB 4 [eC0, eC1] 0 1 = true := by rw [← rndK_path wfCs (by decide)]; decide
theorem p11 : pathB 4 [eC0, eC1] 1 1 = true := by rw [← rndK_path wfCs (by decide)]; decide
theorem p21 : pathB 4 [eC0, eC1] 2 1 = false := by rw [← rndK_path wfCs (by decide)]; decide
theorem r32 : pathB 4 [eC0, eC1, eC2] 3 2 = true := by rw [← rndK_path wfRs (by decide)]; decide
theorem near1 : near 4 [eC0, eC1] 1 = [eC0] := by
  unfold near
  rw [List.filter_cons, if_pos, List.filter_cons, if_neg, List.filter_nil]
  · rw [show eC1.2.2.1.toNat = 2 from rfl, p21]; decide
  · rw [show eC0.2.2.1.toNat = 1 from rfl, p11]; decide
theorem whTo : whL 4 (toB 1) [eC0, eC1] 2 = [0] := by decide
theorem whFrom : whL 4 (fromB 1) [eC0, eC1] 2 = [1] := by decide
theorem exc30 : excB 4 3 0 [(0, 3)] = true := by decide

theorem QBox.grown {w w' : World} {b : Nat} {fr : Int} {v1 v2 v3 v4 : Value} {row : Option Nat} (h : QBox w b fr v1 v2 v3 v4) (hg : w.grownBy w' row) (hn : row ≠ some b) : QBox w' b fr v1 v2 v3 v4 := (hg.block b h.lt (fun e => hn e.symm)).trans h
/-- Channels, and one more. -/
theorem more_at {w : World} {base : Nat} {A : Option Addr} {c : Nat} {l : List ChanA} (h : w.ownsRow base 44 6 (.slice A l.length c) l.length (l.flatMap chanV)) : ChansAt w A l := arr_flat (f := chanV) (d := dC) h (fun _ => rfl)
set_option maxHeartbeats 8000000 in
set_option maxRecDepth 100000 in
theorem awake_any (w : World) : Calls Try.prog 11 #[] w fun e w' => e = .returned (.bool true) ∧ Below w.heap.size w w' := by
  obtain ⟨i0, hi, hz0, hz1, hz2⟩ := info_parts info44
  have HI0 := Lib.hid hi
  have HZ0 := Lib.hid hz0
  have HZ1 := Lib.hid hz1
  have HZ2 := Lib.hid hz2
  clear hi hz0 hz1 hz2
  go_enter Try.func11, Try.ntmps11
  go_wp2_with fail
  refine (example_any _).mono ?_
  rintro e w1 ⟨⟨A1, c1, A2, c2, A3, c3, A4, c4⟩, rfl, hP, hB⟩
  obtain ⟨b3, o3, rfl⟩ := Arr.head hP.chans (i := 0) (by decide)
  have hpv : planV exP ⟨A1, c1, A2, c2, some ⟨b3, o3, none⟩, c3, A4, c4⟩ = .agg #[.int .u16 0, .slice A1 0 c1, .slice A2 4 c2, .slice (some ⟨b3, o3, none⟩) 2 c3, .slice A4 1 c4] := rfl
  rw [hpv]
  have hba : Below w1.heap.size w1 (w1.alloc (.cells #[.int .u16 0, .slice A1 0 c1, .slice A2 4 c2, .slice (some ⟨b3, o3, none⟩) 2 c3, .slice A4 1 c4] 28)) := (Below.refl _ _).alloc (Nat.le_refl _) _
  have HPB := Lib.hid (PBn.new w1 0 A1 0 c1 A2 4 c2 (some ⟨b3, o3, none⟩) 2 c3 A4 1 c4)
  have HP := Lib.hid (hP.keep hba)
  have HB0 := Lib.hid (below_two hB hba)
  have HIN := Lib.hid (fun t W hP ht => into_yes exP ⟨A1, c1, A2, c2, some ⟨b3, o3, none⟩, c3, A4, c4⟩ t W hP ex_wf (by decide) (by decide) ht)
  have HOU := Lib.hid (fun t W hP ht => out_yes exP ⟨A1, c1, A2, c2, some ⟨b3, o3, none⟩, c3, A4, c4⟩ t W hP ex_wf (by decide) (by decide) ht)
  have HAP := Lib.hid (fun a b W hP ha hb => apart_yes exP ⟨A1, c1, A2, c2, some ⟨b3, o3, none⟩, c3, A4, c4⟩ a b W hP ex_wf (by decide) (by decide) ha hb)
  have HEN := Lib.hid (fun z W hP => ends_any exP ⟨A1, c1, A2, c2, some ⟨b3, o3, none⟩, c3, A4, c4⟩ z W hP ex_wf (by decide) (by decide))
  have HWO := Lib.hid (fun t W hP ht => without_yes exP ⟨A1, c1, A2, c2, some ⟨b3, o3, none⟩, c3, A4, c4⟩ t W hP ex_wf ex_few ht)
  have HEX := Lib.hid (fun a b W hP => excludes_any exP ⟨A1, c1, A2, c2, some ⟨b3, o3, none⟩, c3, A4, c4⟩ a b W hP ex_wf (by decide) (by decide))
  rw [hpv] at HIN HOU HAP HEN HWO HEX
  clear hP hB hba hpv
  go_wp2_with fail
  refine (HIN.out 2 _ HP.out (by decide)).mono ?_
  rintro e w2 ⟨B1, d1, rfl, h1, hB⟩
  have HX1 := Lib.hid h1
  have HB2 := Lib.hid hB
  obtain ⟨k0, k1, k2, k3, k4⟩ := HPB.out.keep hB
  clear h1 hB
  go_wp2_with fail
  refine (HOU.out 0 _ (HP.out.keep HB2.out) (by decide)).mono ?_
  rintro e w3 ⟨B2, d2, rfl, h1, hB⟩
  have HX2 := Lib.hid h1
  have HB3 := Lib.hid (below_two HB2.out hB)
  have HX1 := Lib.hid (Arr.keep HX1.out hB)
  clear k0 k1 k2 k3 k4
  obtain ⟨k0, k1, k2, k3, k4⟩ := HPB.out.keep HB3.out
  clear h1 hB
  go_wp2_with fail
  refine (HAP.out 0 3 _ (HP.out.keep HB3.out) (by decide) (by decide)).mono ?_
  rintro e w4 ⟨rfl, hB⟩
  rw [show (!pathB exP.2.2.1.length exP.2.2.2.1 0 3 && !pathB exP.2.2.1.length exP.2.2.2.1 3 0) = true from by rw [show exP.2.2.1.length = 4 from rfl, show exP.2.2.2.1 = [eC0, eC1] from rfl, p03, p30]; rfl]
  have HX1 := Lib.hid (Arr.keep HX1.out hB)
  have HX2 := Lib.hid (Arr.keep HX2.out hB)
  have HB4 := Lib.hid (below_two HB3.out hB)
  clear k0 k1 k2 k3 k4
  obtain ⟨k0, k1, k2, k3, k4⟩ := HPB.out.keep HB4.out
  clear hB
  go_wp2_with fail
  refine (HAP.out 2 0 _ (HP.out.keep HB4.out) (by decide) (by decide)).mono ?_
  rintro e w5 ⟨rfl, hB⟩
  rw [show (!pathB exP.2.2.1.length exP.2.2.2.1 2 0 && !pathB exP.2.2.1.length exP.2.2.2.1 0 2) = false from by rw [show exP.2.2.1.length = 4 from rfl, show exP.2.2.2.1 = [eC0, eC1] from rfl, p20, p02]; rfl]
  have HX1 := Lib.hid (Arr.keep HX1.out hB)
  have HX2 := Lib.hid (Arr.keep HX2.out hB)
  have HB5 := Lib.hid (below_two HB4.out hB)
  clear k0 k1 k2 k3 k4
  obtain ⟨k0, k1, k2, k3, k4⟩ := HPB.out.keep HB5.out
  clear hB
  go_wp2_with fail
  refine (HEN.out 1 _ (HP.out.keep HB5.out)).mono ?_
  rintro e w6 ⟨B3, d3, B4, d4, rfl, h1, h2, hB⟩
  rw [show whL exP.2.2.1.length (toB 1) exP.2.2.2.1 exP.2.2.2.1.length = [0] from whTo] at h1 ⊢
  rw [show whL exP.2.2.1.length (fromB 1) exP.2.2.2.1 exP.2.2.2.1.length = [1] from whFrom] at h2 ⊢
  simp only [List.length_cons, List.length_nil, Nat.zero_add] at h1 h2 ⊢
  have HN1 := Lib.hid h1
  have HN2 := Lib.hid h2
  have HX1 := Lib.hid (Arr.keep HX1.out hB)
  have HX2 := Lib.hid (Arr.keep HX2.out hB)
  have HB6 := Lib.hid (below_two HB5.out hB)
  clear k0 k1 k2 k3 k4
  obtain ⟨k0, k1, k2, k3, k4⟩ := HPB.out.keep HB6.out
  clear hB h1 h2
  go_wp2_with fail
  refine (HWO.out 1 _ (HP.out.keep HB6.out) (by decide)).mono ?_
  rintro e w7 ⟨⟨E1, e1, E2, e2, E3, e3, E4, e4⟩, rfl, -, hB⟩
  rw [show planV (exP.1, exP.2.1, exP.2.2.1, near exP.2.2.1.length exP.2.2.2.1 1, exP.2.2.2.2) ⟨E1, e1, E2, e2, E3, e3, E4, e4⟩ = .agg #[.int .u16 0, .slice E1 0 e1, .slice E2 4 e2, .slice E3 1 e3, .slice E4 1 e4] from by
    rw [show near exP.2.2.1.length exP.2.2.2.1 1 = [eC0] from near1]; rfl]
  have HB7 := Lib.hid (below_two HB6.out hB)
  have HX1 := Lib.hid (Arr.keep HX1.out hB)
  have HX2 := Lib.hid (Arr.keep HX2.out hB)
  have HN1 := Lib.hid (Arr.keep HN1.out hB)
  have HN2 := Lib.hid (Arr.keep HN2.out hB)
  clear k0 k1 k2 k3 k4 hB
  obtain ⟨W8, hW8⟩ : ∃ W8, W8 = ((w7.alloc (.cells #[.int .u16 0, .slice E1 0 e1, .slice E2 4 e2, .slice E3 1 e3, .slice E4 1 e4] 28)).alloc (.cells #[.int .u16 0, .slice A1 0 c1, .slice A2 4 c2, .slice (some ⟨b3, o3, none⟩) 2 c3, .slice A4 1 c4] 28)).alloc (.cells #[] 44) := ⟨_, rfl⟩
  have hb8 : Below w7.heap.size w7 W8 := by rw [hW8]; exact (((Below.refl _ _).alloc (Nat.le_refl _) _).alloc (by simp) _).alloc (by simp; omega) _
  have hs8 : W8.heap.size = w7.heap.size + 1 + 1 + 1 := by rw [hW8]; simp
  have hq8 : QBox W8 w7.heap.size 0 (.slice E1 0 e1) (.slice E2 4 e2) (.slice E3 1 e3) (.slice E4 1 e4) := by
    rw [hW8]
    exact ((QBox.new w7 _ _ _ _ _).keep ((Below.refl _ _).alloc (Nat.le_refl _) _)).keep ((Below.refl _ _).alloc (Nat.le_refl _) _)
  have hsa : (w7.alloc (.cells #[.int .u16 0, .slice E1 0 e1, .slice E2 4 e2, .slice E3 1 e3, .slice E4 1 e4] 28)).heap.size = w7.heap.size + 1 := by simp
  have hsb : ((w7.alloc (.cells #[.int .u16 0, .slice E1 0 e1, .slice E2 4 e2, .slice E3 1 e3, .slice E4 1 e4] 28)).alloc (.cells #[.int .u16 0, .slice A1 0 c1, .slice A2 4 c2, .slice (some ⟨b3, o3, none⟩) 2 c3, .slice A4 1 c4] 28)).heap.size = w7.heap.size + 1 + 1 := by simp
  have hr8 : QBox W8 (w7.heap.size + 1) 0 (.slice A1 0 c1) (.slice A2 4 c2) (.slice (some ⟨b3, o3, none⟩) 2 c3) (.slice A4 1 c4) := by
    rw [hW8, ← hsa]
    exact (QBox.new _ _ _ _ _ _).keep ((Below.refl _ _).alloc (Nat.le_refl _) _)
  have ho8 : W8.ownsRow (w7.heap.size + 1 + 1) 44 6 (.slice (some ⟨w7.heap.size + 1 + 1, 0, none⟩) 0 0) 0 [] := by
    rw [hW8, ← hsb]
    exact World.ownsRow_lit _ #[] 0 (Nat.le_refl _) (by decide) rfl
  have hp8 := HP.out.keep (below_two HB7.out hb8)
  have hn8 : ∀ j u, ([eC0, eC1].flatMap chanV)[j]? = some u → W8.cell? ((⟨b3, o3, none⟩ : Addr).add j) = some u := arr_news (by omega : 0 < 6) (fun _ => rfl) hp8.chans
  have HOW8 := Lib.hid ho8
  have HNW8 := Lib.hid hn8
  have HQ8 := Lib.hid hq8
  have HR8 := Lib.hid hr8
  have HB8 := Lib.hid hb8
  have HS8 := Lib.hid hs8
  have HW8 := Lib.hid hW8
  have HPP := HPB.out.keep HB7.out
  obtain ⟨k0, k1, k2, k3, k4⟩ := id HPP
  have hz : W8.cell? ⟨w1.heap.size, 3, none⟩ = some (.slice (some ⟨b3, o3, none⟩) 2 c3) := kept k3 hb8
  rw [hW8] at hz
  obtain ⟨z0, z1, z2, z3, z4⟩ := HPP.keep ((Below.refl _ _).alloc (Nat.le_refl _) (.cells #[.int .u16 0, .slice E1 0 e1, .slice E2 4 e2, .slice E3 1 e3, .slice E4 1 e4] 28))
  clear hW8
  clear hb8 hs8 hq8 hsa hsb hr8 ho8 hp8 hn8
  go_wp2_with (at_builtin; (refine wpList_append_own _ rfl _ _ 25 rfl (w7.heap.size + 1 + 1) 44 i0 (.agg #[.int .u8 0, .int .u8 0, .int .u8 0, .int .u8 0, .int .u8 0, .int .u16 0]) 6 8 Try.underlying25 HI0.out HZ0.out HZ1.out HZ2.out rfl (by decide) _ 0 [] rfl (by rw [← HW8.out]; exact HOW8.out) ⟨b3, o3, none⟩ 2 c3 ([eC0, eC1].flatMap chanV) rfl rfl (by rw [← HW8.out]; exact HNW8.out) ?c2 (by decide) (by decide) (by rw [← HW8.out, HS8.out]; omega) ?_))
  case c2 => intro u hu; simp [chanV, eC0, eC1] at hu; rcases hu with rfl | rfl | rfl | rfl | rfl | rfl | rfl | rfl | rfl | rfl <;> rfl
  intro v1 w9 hown1 hgrow1 _
  rw [← HW8.out] at hgrow1
  have hs8 := HS8.out
  have hbw9 : Below w7.heap.size w7 w9 := HB8.out.grown hgrow1 HB8.out.size (fun k hk => by have : k = w7.heap.size + 1 + 1 := by simpa [Value.ownBlock] using hk.symm
                                                                                            omega)
  have hq9 := HQ8.out.grown hgrow1 (fun e => by simp [Value.ownBlock] at e <;> omega)
  have hr9 := HR8.out.grown hgrow1 (fun e => by simp [Value.ownBlock] at e <;> omega)
  obtain ⟨A5, d5, rfl⟩ := own_form hown1
  have hown1' : w9.ownsRow (w7.heap.size + 1 + 1) 44 6 (.slice A5 2 d5) 2 ([eC0, eC1].flatMap chanV) := by simpa using hown1
  have hs9 := hgrow1.size
  have hvb := World.ownsRow.lt hown1'
  have HOW9 := Lib.hid hown1'
  have HQ9 := Lib.hid hq9
  have HR9 := Lib.hid hr9
  have HBW9 := Lib.hid hbw9
  have HVB := Lib.hid hvb
  obtain ⟨q0, q1, q2, q3, q4⟩ := hr9.cells
  have hrf := hr9.frozen (j := 3)
  have hs9' : w7.heap.size + 1 + 1 + 1 ≤ w9.heap.size := by omega
  clear hown1 hown1' hgrow1 hbw9 hq9 hr9 hvb hs8 hs9 hz z0 z1 z2 z3 z4 k0 k1 k2 k3 k4
  go_wp2_with (at_builtin; (refine wpList_append_own _ rfl _ _ 25 rfl (w7.heap.size + 1 + 1) 44 i0 (.agg #[.int .u8 0, .int .u8 0, .int .u8 0, .int .u8 0, .int .u8 0, .int .u16 0]) 6 8 Try.underlying25 HI0.out HZ0.out HZ1.out HZ2.out rfl (by decide) _ 2 ([eC0, eC1].flatMap chanV) rfl (HOW9.out.alloc _) ⟨w9.heap.size, 0, none⟩ 1 1 (chanV eC2) rfl rfl ?c1 ?c2 (by decide) (by decide) ?c5 ?_))
  case c1 => exact World.news_of_block (heap_alloc_new w9 (.cells #[.int .u8 0, .int .u8 2, .int .u8 3, .int .u8 0, .int .u8 0, .int .u16 0] 44))
  case c2 => intro u hu; simp [chanV, eC2] at hu; rcases hu with rfl | rfl | rfl | rfl | rfl | rfl <;> rfl
  case c5 => simp; omega
  intro v2 w10 hown2 hgrow2 _
  obtain ⟨A6, d6, rfl⟩ := own_form hown2
  have hown2' : w10.ownsRow (w7.heap.size + 1 + 1) 44 6 (.slice A6 3 d6) 3 ([eC0, eC1, eC2].flatMap chanV) := by simpa using hown2
  have hal : Below w9.heap.size w9 (w9.alloc (.cells #[.int .u8 0, .int .u8 2, .int .u8 3, .int .u8 0, .int .u8 0, .int .u16 0] 44)) := (Below.refl _ _).alloc (Nat.le_refl _) _
  have hq10 := (HQ9.out.keep hal).grown hgrow2 (fun e => by have := (HVB.out _ e).1; omega)
  have hr10 := (HR9.out.keep hal).grown hgrow2 (fun e => by have := (HVB.out _ e).1; omega)
  have hb10 : Below w7.heap.size w7 w10 := (HBW9.out.alloc HBW9.out.size _).grown hgrow2 (by simp; omega) (fun k hk => by have := (HVB.out k hk).1; omega)
  have hs10 := hgrow2.size
  simp only [World.size_alloc] at hs10
  obtain ⟨W11, hW11⟩ : ∃ W11, W11 = w10.setCell ⟨w7.heap.size + 1, 3, none⟩ (.slice A6 3 d6) := ⟨_, rfl⟩
  have hr11 : QBox W11 (w7.heap.size + 1) 0 (.slice A1 0 c1) (.slice A2 4 c2) (.slice A6 3 d6) (.slice A4 1 c4) := by rw [hW11]; exact hr10.set3
  have hq11 : QBox W11 w7.heap.size 0 (.slice E1 0 e1) (.slice E2 4 e2) (.slice E3 1 e3) (.slice E4 1 e4) := by rw [hW11]; exact (Below.heap_setCell _ _ _ _ (by show w7.heap.size ≠ w7.heap.size + 1; omega)).trans hq10
  have hb11 : Below w7.heap.size w7 W11 := by rw [hW11]; exact hb10.setCell (Nat.le_succ _) _
  have ho11 : W11.ownsRow (w7.heap.size + 1 + 1) 44 6 (.slice A6 3 d6) 3 ([eC0, eC1, eC2].flatMap chanV) := own_keep hown2' fun g hg => by
    rw [hW11]; exact Below.heap_setCell _ _ _ _ (by have := (World.ownsRow.lt hown2' g hg).1; show g ≠ w7.heap.size + 1; omega)
  have hp11 := HP.out.keep (below_two HB7.out hb11)
  have hpr : PlanAt W11 exR ⟨A1, c1, A2, c2, A6, d6, A4, c4⟩ := ⟨hp11.cores, hp11.parts, more_at (l := [eC0, eC1, eC2]) ho11, hp11.pairs⟩
  have hin := into_yes exR ⟨A1, c1, A2, c2, A6, d6, A4, c4⟩ 2 W11 hpr exr_wf (by decide) (by decide) (by decide)
  rw [show planV exR ⟨A1, c1, A2, c2, A6, d6, A4, c4⟩ = .agg #[.int .u16 0, .slice A1 0 c1, .slice A2 4 c2, .slice A6 3 d6, .slice A4 1 c4] from rfl] at hin
  have HIN2 := Lib.hid hin
  have HQ11 := Lib.hid hq11
  have HB11 := Lib.hid (below_two HB7.out hb11)
  have HB711 := Lib.hid hb11
  have HW11 := Lib.hid hW11
  obtain ⟨j0, j1, j2, j3, j4⟩ := hr10.cells
  have jf := hr10.frozen (j := 3)
  obtain ⟨t0, t1, t2, t3, t4⟩ := hr11.cells
  rw [hW11] at t0 t1 t2 t3 t4
  clear hown2 hown2' hgrow2 hal hq10 hr10 hb10 hs10 hW11 hr11 hq11 hb11 ho11 hp11 hpr hin q0 q1 q2 q3 q4 hrf
  go_wp2_with fail
  rw [← HW11.out]
  refine HIN2.out.mono ?_
  rintro e w12 ⟨B5, d7, rfl, h1, hB⟩
  have hb12 := below_two HB11.out hB
  obtain ⟨k0, k1, k2, k3, k4⟩ := HPB.out.keep hb12
  have hq12 := HQ11.out.keep hB
  obtain ⟨-, -, u2, u3, -⟩ := hq12.cells
  have x1 := Arr.keep (Arr.keep HX1.out HB711.out) hB
  have x2 := Arr.keep (Arr.keep HX2.out HB711.out) hB
  have n1 := Arr.keep (Arr.keep HN1.out HB711.out) hB
  have n2 := Arr.keep (Arr.keep HN2.out HB711.out) hB
  obtain ⟨g1, o1, rfl⟩ := Arr.head x1 (i := 0) (by decide)
  obtain ⟨g2, o2, rfl⟩ := Arr.head x2 (i := 0) (by decide)
  obtain ⟨g3, o3', rfl⟩ := Arr.head n1 (i := 0) (by decide)
  obtain ⟨g4, o4, rfl⟩ := Arr.head n2 (i := 0) (by decide)
  obtain ⟨g5, o5, rfl⟩ := Arr.head h1 (i := 0) (by decide)
  have a0 := Bools.cell x1 (i := 0) (by decide)
  have a1 := Bools.cell x1 (i := 1) (by decide)
  have a2 := Bools.cell x1 (i := 2) (by decide)
  have a3 := Bools.cell x1 (i := 3) (by decide)
  have b2 := Bools.cell x2 (i := 2) (by decide)
  have b3' := Bools.cell x2 (i := 3) (by decide)
  have m1 := Nums.cell n1 (i := 0) (by decide)
  have m2 := Nums.cell n2 (i := 0) (by decide)
  have r3 := Bools.cell h1 (i := 3) (by decide)
  rw [show pathB exP.2.2.1.length exP.2.2.2.1 0 2 = true from p02] at a0
  rw [show pathB exP.2.2.1.length exP.2.2.2.1 1 2 = true from p12] at a1
  rw [show pathB exP.2.2.1.length exP.2.2.2.1 2 2 = true from p22] at a2
  rw [show pathB exP.2.2.1.length exP.2.2.2.1 3 2 = false from p32] at a3
  rw [show pathB exP.2.2.1.length exP.2.2.2.1 0 2 = true from p02] at b2
  rw [show pathB exP.2.2.1.length exP.2.2.2.1 0 3 = false from p03] at b3'
  rw [show pathB exR.2.2.1.length exR.2.2.2.1 3 2 = true from r32] at r3
  simp only [show exP.2.2.1.length = 4 from rfl, show exR.2.2.1.length = 4 from rfl, Nat.add_zero] at a0 a1 a2 a3 b2 b3' m1 m2 r3 ⊢
  have hex := HEX.out 3 0 w12 (HP.out.keep hb12)
  rw [show excB exP.2.2.1.length 3 0 exP.2.2.2.2 = true from exc30] at hex
  have HEXX := Lib.hid hex
  have HB12 := Lib.hid hb12
  have HR3 := Lib.hid r3
  clear hb12 hq12 x1 x2 n1 n2 h1 hB hex j0 j1 j2 j3 j4 jf t0 t1 t2 t3 t4
  simp at m1 m2
  go_wp2_with fail
  refine HEXX.out.mono ?_
  rintro e w13 ⟨rfl, hB⟩
  have r3' := kept HR3.out hB
  have HB13 := Lib.hid (below_two HB0.out (below_two HB12.out hB))
  clear hB
  go_wp2_with fail
  go_ret
  exact ⟨rfl, HB13.out⟩
end Go.Proofs.Ytjiikhfeacgjjaa
