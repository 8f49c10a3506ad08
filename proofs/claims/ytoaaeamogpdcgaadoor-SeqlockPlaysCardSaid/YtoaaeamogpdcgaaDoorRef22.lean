/-
  The document's answer: how many versions are written.
-/
import Derived.Test.YtoaaeamogpdcgaaDoorRefN
namespace Go.Proofs.YtoaaeamogpdcgaaDoor
open Go.RowKit

theorem ends_next (n q : Nat) : (q + 1) / (n + 2) = q / (n + 2) + (if eS n q = true then 1 else 0) := by
  unfold eS
  have h := Nat.div_add_mod q (n + 2)
  have hl := Nat.mod_lt q (show 0 < n + 2 by omega)
  obtain ⟨a, ha⟩ : ∃ a, a = q / (n + 2) := ⟨_, rfl⟩
  obtain ⟨r, hr⟩ : ∃ r, r = q % (n + 2) := ⟨_, rfl⟩
  rw [← ha, ← hr] at h
  rw [← hr] at hl
  rw [← ha, ← hr]
  by_cases e : r = n + 1
  · rw [if_pos (by rw [e]; exact beq_self_eq_true _), show q + 1 = (n + 2) * (a + 1) by rw [Nat.mul_add]; omega]
    exact Nat.mul_div_cancel_left _ (by omega)
  · rw [if_neg (by rw [beq_false_of_ne e]; decide), show q + 1 = (n + 2) * a + (r + 1) by omega, Nat.mul_add_div (by omega), Nat.div_eq_of_lt (by omega)]
set_option maxHeartbeats 4000000 in
set_option maxRecDepth 100000 in
theorem dwritten_any (d : Dw) (fA fV : Nat → Int) (fD : Nat → Bool) (n : Nat) (w : World) (hO : DwOk w d fA fV fD (eS n)) (hd : d.did ≤ d.M) (hM : d.M ≤ 1000000) :
    Calls Tryd.prog 22 #[dwV d] w fun e w' => e = .returned (.int .i64 (d.did / (n + 2) : Nat)) ∧ Below w.heap.size w w' := by
  obtain ⟨pA, cA, pV, cV, pD, cD, pE, cE, M, did, done⟩ := d
  have hd : did ≤ M := hd
  have hM : M ≤ 1000000 := hM
  have HE : Hid (∀ i, i < M → ∃ b o, pE = some ⟨b, o, none⟩ ∧ w.cell? ⟨b, o + i, none⟩ = some (.bool (eS n i))) := Lib.hid hO.e
  show Calls Tryd.prog 22 _ w fun e w' => e = .returned (.int .i64 (did / (n + 2) : Nat)) ∧ Below w.heap.size w w'
  simp only [dwV]
  clear hO
  obtain ⟨W, hW⟩ : ∃ W, W = w.alloc (.cells #[.slice pA M cA, .slice pV M cV, .slice pD M cD, .slice pE M cE, .int .i64 did, .bool done] 40) := ⟨_, rfl⟩
  have c3 : W.cell? ⟨w.heap.size, 3, none⟩ = some (.slice pE M cE) := by rw [hW]; exact al_new _ _ _ 3 _ rfl rfl
  have c4 : W.cell? ⟨w.heap.size, 4, none⟩ = some (.int .i64 did) := by rw [hW]; exact al_new _ _ _ 4 _ rfl rfl
  have HB : Hid (Below w.heap.size w W) := Lib.hid (by rw [hW]; exact (Below.refl _ _).alloc (Nat.le_refl _) _)
  go_enter Tryd.func22, Tryd.ntmps22
  go_wp2_with fail
  go_loopw [3, 4] (fun nv i wr => ∃ q : Nat, q ≤ did ∧ nv = .int .i64 (q / (n + 2) : Nat) ∧ i = .int .i64 q ∧ wr = W) (fun _ i _ => did - (intOf i).toNat)
  case atStart => exact ⟨0, Nat.zero_le _, by rw [Nat.zero_div]; rfl, rfl, by rw [hW]⟩
  case round =>
    obtain ⟨q, hq, rfl, rfl, rfl⟩ := hrel
    by_cases hlt : q < did
    · have hl : (q : Int) < did := by omega
      have h0 : (0 : Int) ≤ q := by omega
      have h1 : (q : Int) < M := by omega
      obtain ⟨b, o, rfl, hc⟩ := HE.out q (by omega)
      have hcw := kept hc HB.out
      have hen := ends_next n q
      obtain ⟨k, hk⟩ : ∃ k, k = q / (n + 2) := ⟨_, rfl⟩
      have hkq : k ≤ q := by rw [hk]; exact Nat.div_le_self _ _
      rw [← hk] at hen ⊢
      obtain ⟨z, hz⟩ : ∃ z, z = eS n q := ⟨_, rfl⟩
      rw [← hz] at hcw hen
      have HEN := Lib.hid hen
      clear hc hen hz hk hW
      cases z with
      | true =>
        go_wp2_with fail
        go_roundw
        case rel => exact ⟨q + 1, by omega, by rw [HEN.out]; go_num, by go_num, trivial⟩
        case measure => simp [intOf]; omega
      | false =>
        go_wp2_with fail
        go_roundw
        case rel => exact ⟨q + 1, by omega, by rw [HEN.out]; rfl, by go_num, trivial⟩
        case measure => simp [intOf]; omega
    · have hqe : q = did := by omega
      subst hqe
      have hl : ¬ ((q : Int) < q) := by omega
      clear hW
      go_wp2_with fail
      go_ret
      exact ⟨rfl, HB.out⟩
end Go.Proofs.YtoaaeamogpdcgaaDoor
