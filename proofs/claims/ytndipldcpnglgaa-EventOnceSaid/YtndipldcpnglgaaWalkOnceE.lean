/-
  A piece of the walk.
-/
import Derived.Test.YtndipldcpnglgaaWalkOnceMain
namespace Go.Proofs.Ytndipldcpnglgaa
open Go.RowKit
set_option linter.all false in
set_option maxHeartbeats 4000000 in
set_option maxRecDepth 100000 in
theorem part_WalkOnce_E : part_WalkOnce.E := by
  set_option tactic.hygienic false in intro
  set_option tactic.hygienic false in intros
  have hmt := meth_exp g
  have hbd : Below wa.heap.size wa wa.drew := below_dn wa 1
  have HOD := Lib.hid (HO.out.keep hbd)
  have HC := Lib.hid (exp_any y3 wa.drew HOD.out.eb.sm.ln (Nat.le_trans HFW.out.1 (by omega)))
  have k0 := HO.out.eb.sm.c0
  have hgn := exp_gone HO.out.eb.sm.ln.ok HP.out y3
  obtain ⟨G, hG⟩ : ∃ G, G = (X.S.goneE y3).map fun a => (a.id.val : Int) := ⟨_, rfl⟩
  rw [← hG] at hgn
  have HGE := Lib.hid hG
  have HGN := Lib.hid hgn
  clear hG hbd hgn
  go_wp2_with fail
  go_region_law ((go_simp; (with_reducible refine (HC.out).mono ?_); (rintro e w3 ⟨d, rfl, hN, ⟨v1, h1, h2, h3⟩, hf⟩); (rw [← HGE.out] at hN); (obtain ⟨dA, dc, rfl, _⟩ := hN.len)))
  all_goals have hEv := HOD.out.eb.sm.line1 h1 h2 (.inl h3)
  all_goals have hS := HOD.out.made hEv (h2.mono fun k hk => .inr hk) (.inl h3) hN (fun x hx => (by
    obtain ⟨f1, f2⟩ := hf x hx
    refine ⟨f1, fun hb => ?_⟩
    have hs := HO.out.eb.sm.lts
    have hs2 : wa.drew.heap.size = wa.heap.size := rfl
    rcases hb with e | e
    · omega
    · exact f2 ((blk_own h3).1 e)))
  all_goals have HF : Hid (SwK w.heap.size w w3 s (.slice wA n wc0) (.slice dA G.length dc) (k + 1)) := ⟨g, b, v1, _, l, _, hS, HU.out.line (expire_len X.S y3).1 (expire_len X.S y3).2, HGN.out, (by have := HNL.out.2; omega)⟩
  all_goals clear hN h1 h2 h3 hf hEv hS HC k0 d0 d1 d2 d3
  all_goals go_wp2_with fail
  all_goals go_meet
  all_goals exact HF
end Go.Proofs.Ytndipldcpnglgaa
