/-
  A piece of the walk.
-/
import Derived.Test.YtndipldcpnglgaaWalkOnceMain
namespace Go.Proofs.Ytndipldcpnglgaa
open Go.RowKit
set_option linter.all false in
set_option maxHeartbeats 4000000 in
set_option maxRecDepth 100000 in
theorem part_WalkOnce_A : part_WalkOnce.A := by
  set_option tactic.hygienic false in intro
  set_option tactic.hygienic false in intros
  have HC := Lib.hid (wait_few y1 y2 y3 HW.out.2.1 HO.out.eb HFW.out)
  go_wp2_with fail
  with_reducible refine HC.out.mono ?_
  rintro e w3 ⟨he, hP⟩
  obtain ⟨v', hS⟩ := HO.out.step hP
  have hX := HU.out.wait y1 y2 y3
  obtain ⟨hn1, hn2⟩ := wait_nums (X := X) y1 y2 y3
  have hsame : w3.heap[p]? = wa.heap[p]? := by
    obtain ⟨_, _, hf⟩ := HO.out.eb.step hP
    exact (hf p HPF.out).1
  have d1' : w3.cell? ⟨p, 1, none⟩ = some (nV y1) := by rw [World.cell?_of_block (w := wa) hsame]; exact d1
  have d3' : w3.cell? ⟨p, 3, none⟩ = some (nV y3) := by rw [World.cell?_of_block (w := wa) hsame]; exact d3
  obtain ⟨⟨ok, E⟩, hE⟩ : ∃ z, z = X.waitE y1 y2 y3 := ⟨_, rfl⟩
  rw [← hE] at he hn1 hn2
  obtain rfl := he
  have HS := Lib.hid hS
  have HX := Lib.hid hX
  clear HC hP hS hX hE hsame d0 d1 d2 d3
  by_cases hy : ok = false ∧ E = 0 ∧ y3 ≠ 0
  · have hpm := hn1 hy
    obtain ⟨rfl, rfl, hy3⟩ := hy
    have hml : l.length ≤ 100000 := by have := HNL.out.2; omega
    have HN3 := Lib.hid HS.out.ra
    have HG : ∀ g' cap' w4, Nums w4 (.slice (some ⟨g', 0, none⟩) (l.length + 1) cap') (l ++ [y1]) → Chg (fun x => (Value.slice wA n wc0).ownBlock = some x) w3 w4 → ((Value.slice wA n wc0).ownBlock = some g' ∨ w3.heap.size ≤ g') → Hid (SwK w.heap.size w w4 s (.slice (some ⟨g', 0, none⟩) (l.length + 1) cap') (.slice (some ⟨q, 0, none⟩) 0 0) (k + 1)) := fun g' cap' w4 hN4 hC4 hO4 => by
      have h1 := HS.out.rot.grow hN4 hC4 fun x e => by
        have e : some g' = some x := e
        injection e with e
        subst e
        exact hO4
      exact sw_none h1.rot.rot HX.out ((List.perm_append_comm.trans ((List.Perm.refl [y1]).append HP.out)).trans hpm.symm)
    have HHG := Lib.hid HG
    have i3 : ¬ y3 = 0 := hy3
    clear hn1 hn2 hpm HG hy3
    go_wp2_with (at_builtin; refine wpList_app (z := y1) rfl _ _ rfl HN3.out hml rfl rfl ?_; intro g' cap' w4 hN4 hC4 hO4)
    have HF := HHG.out g' cap' w4 hN4 hC4 hO4
    clear hN4 hC4 hO4
    all_goals go_meet
    all_goals exact HF
  · have hpm := hn2 hy
    have HF : Hid (SwK w.heap.size w w3 s (.slice wA n wc0) (.slice (some ⟨q, 0, none⟩) 0 0) (k + 1)) := sw_none HS.out HX.out (by rw [hpm]; exact HP.out)
    clear hn1 hn2 hpm HS HX
    cases ok with
    | true =>
      clear hy
      go_wp2_with fail
      all_goals go_meet
      all_goals exact HF
    | false =>
      by_cases hE0 : E = 0
      · subst hE0
        have hy3 : y3 = 0 := by
          by_cases h : y3 = 0
          · exact h
          · exact absurd ⟨rfl, rfl, h⟩ hy
        subst hy3
        clear hy
        go_wp2_with fail
        all_goals go_meet
        all_goals exact HF
      · clear hy
        go_wp2_with fail
        all_goals go_meet
        all_goals exact HF
end Go.Proofs.Ytndipldcpnglgaa
