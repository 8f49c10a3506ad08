/-
  A piece of the walk.
-/
import Derived.Test.YtndipldcpnglgaaWalkOnceMain
namespace Go.Proofs.Ytndipldcpnglgaa
open Go.RowKit
set_option linter.all false in
set_option maxHeartbeats 4000000 in
set_option maxRecDepth 100000 in
theorem part_WalkOnce_D : part_WalkOnce.D := by
  set_option tactic.hygienic false in intro
  set_option tactic.hygienic false in intros
  have hmt := meth_drop g
  have hbd : Below wa.heap.size wa wa.drew := below_dn wa 1
  have HOD := Lib.hid (HO.out.keep hbd)
  have HC := Lib.hid (drop_any y1 HW.out.2.1 wa.drew HOD.out.eb.sm.ln (Nat.le_trans HFW.out.1 (by omega)))
  have k0 := HO.out.eb.sm.c0
  obtain ⟨E, hE⟩ : ∃ E, E = X.S.dropE y1 := ⟨_, rfl⟩
  have HE := Lib.hid hE
  have hgn := drop_gone HO.out.eb.sm.ln.ok HP.out y1
  rw [← hE] at hgn
  have HGN := Lib.hid hgn
  clear hE hbd hgn
  go_wp2_with fail
  go_region_law ((go_simp; (with_reducible refine (HC.out).mono ?_); (rintro e w3 ⟨he, hP⟩); (rw [← HE.out] at he); (obtain rfl := he)))
  all_goals obtain ⟨v', hS⟩ := HOD.out.step (HOD.out.eb.sm.line hP)
  all_goals have hsame : w3.heap[p]? = wa.heap[p]? := (by
    obtain ⟨_, _, hf⟩ := HOD.out.eb.step (HOD.out.eb.sm.line hP)
    exact (hf p HPF.out).1)
  all_goals have d1' : w3.cell? ⟨p, 1, none⟩ = some (nV y1) := (by rw [World.cell?_of_block (w := wa) hsame]; exact d1)
  all_goals have hX := HU.out.line (drop_len X.S y1).1 (drop_len X.S y1).2
  all_goals have HS := Lib.hid hS
  all_goals have HX := Lib.hid hX
  all_goals have HN3 := Lib.hid hS.rc
  all_goals clear hP hS hX hsame HC k0 d0 d1 d2 d3
  all_goals by_cases hE0 : E = 0
  all_goals try
    (have hE1 : E = 0 := hE0
     clear hE0
     subst hE1
     have hgl : ([] : List Int).length ≤ 100000 := by simp
     have HG : ∀ g' cap' w4, Nums w4 (.slice (some ⟨g', 0, none⟩) (([] : List Int).length + 1) cap') ([] ++ [y1]) → Chg (fun x => (Value.slice (some ⟨q, 0, none⟩) 0 0).ownBlock = some x) w3 w4 → ((Value.slice (some ⟨q, 0, none⟩) 0 0).ownBlock = some g' ∨ w3.heap.size ≤ g') → Hid (SwK w.heap.size w w4 s (.slice wA n wc0) (.slice (some ⟨g', 0, none⟩) 1 cap') (k + 1)) := fun g' cap' w4 hN4 hC4 hO4 => by
       have h1 := HS.out.swap.grow hN4 hC4 fun x e => by
         have e : some g' = some x := e
         injection e with e
         subst e
         exact hO4
       have h2 := h1.swap
       have h3 := HGN.out
       rw [if_pos rfl] at h3
       exact ⟨g, b, v', _, l, _, h2, HX.out, h3, by have := HNL.out.2; omega⟩
     have HHG := Lib.hid HG
     clear HG
     go_wp2_with (at_builtin; refine wpList_app (z := y1) rfl _ _ rfl HN3.out hgl rfl rfl ?_; intro g' cap' w4 hN4 hC4 hO4)
     have HF := HHG.out g' cap' w4 hN4 hC4 hO4
     clear hN4 hC4 hO4
     go_meet
     exact HF)
  all_goals
    (have HF : Hid (SwK w.heap.size w w3 s (.slice wA n wc0) (.slice (some ⟨q, 0, none⟩) 0 0) (k + 1)) := by
       have h3 := HGN.out
       rw [if_neg hE0] at h3
       exact ⟨g, b, v', _, l, _, HS.out, HX.out, h3, by have := HNL.out.2; omega⟩
     clear HS HX
     go_wp2_with fail
     go_meet
     exact HF)
end Go.Proofs.Ytndipldcpnglgaa
