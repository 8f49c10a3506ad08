/-
  PlanEncodes, walked: what is encoded are the document's bytes.
-/
import Derived.Test.YtkgkjkghdllkhaaDoorWalkOne
import Derived.Test.YtkgkjkghdllkhaaDoorFew
import Derived.Test.YtkgkjkghdllkhaaDoorBytW
namespace Go.Proofs.YtkgkjkghdllkhaaDoor
open Go.RowKit

theorem flat_sum {α : Type} (e : α → List Int) (l : List α) (d : α) : ∀ k, k ≤ l.length → ((l.take k).flatMap e).length = sumN (fun j => (e (l.getD j d)).length) k := by
  intro k
  induction k with
  | zero => intro _; rfl
  | succ k ih =>
    intro hk
    rw [take_succ_flat e l k d (by omega), List.length_append, ih (by omega)]
    rfl
theorem sum_le (f g : Nat → Nat) (a b : Nat) (h : ∀ j, f j ≤ a + b * g j) : ∀ k, sumN f k ≤ a * k + b * sumN g k := by
  intro k
  induction k with
  | zero => simp [sumN]
  | succ k ih =>
    show sumN f k + f k ≤ a * (k + 1) + b * (sumN g k + g k)
    have := h k
    rw [Nat.mul_add, Nat.mul_add]
    omega
theorem small_of {P : PlanA} (h : allN P ≤ 2000) : Small P := by
  unfold allN at h
  show (enc P).length ≤ 1000000
  have e1 : (P.2.1.flatMap encCore).length ≤ 2 * P.2.1.length + 6 * sumN (fun j => (P.2.1.getD j []).length) P.2.1.length := by
    have := flat_sum encCore P.2.1 [] P.2.1.length (Nat.le_refl _)
    rw [List.take_length] at this
    rw [this]
    refine sum_le _ _ 2 6 (fun j => ?_) _
    unfold encCore
    rw [List.length_append, flat_len encWin 6 (fun x => rfl)]
    show 2 + _ ≤ _
    omega
  have e2 : (P.2.2.1.flatMap encPart).length ≤ 7 * P.2.2.1.length + 2 * sumN (fun j => (P.2.2.1.getD j dQ).1.length + (P.2.2.1.getD j dQ).2.2.1.length) P.2.2.1.length := by
    have := flat_sum encPart P.2.2.1 dQ P.2.2.1.length (Nat.le_refl _)
    rw [List.take_length] at this
    rw [this]
    refine sum_le _ _ 7 2 (fun j => ?_) _
    unfold encPart
    simp only [List.length_append, flat_len encSem 2 (fun x => rfl), List.length_cons, List.length_nil]
    omega
  have e3 : (P.2.2.2.1.flatMap encChan).length = 7 * P.2.2.2.1.length := flat_len encChan 7 (fun x => rfl) _
  have e4 : (P.2.2.2.2.flatMap encPair).length = 2 * P.2.2.2.2.length := flat_len encPair 2 (fun x => rfl) _
  have e0 : (encHead P).length = 10 := rfl
  unfold enc
  rw [List.length_append, List.length_append, List.length_append, List.length_append, e0, e3, e4]
  omega

/-- A plan in a block of its own. -/
structure PF (W : World) (b : Nat) (P : PlanA) (L : PlanL) : Prop where
  k0 : W.cell? ⟨b, 0, none⟩ = some (.int .u16 P.1)
  k1 : W.cell? ⟨b, 1, none⟩ = some (.slice L.a1 P.2.1.length L.c1)
  k2 : W.cell? ⟨b, 2, none⟩ = some (.slice L.a2 P.2.2.1.length L.c2)
  k3 : W.cell? ⟨b, 3, none⟩ = some (.slice L.a3 P.2.2.2.1.length L.c3)
  k4 : W.cell? ⟨b, 4, none⟩ = some (.slice L.a4 P.2.2.2.2.length L.c4)
theorem PF.keep {W W' : World} {b : Nat} {P : PlanA} {L : PlanL} (h : PF W b P L) (hB : Below W.heap.size W W') : PF W' b P L :=
  ⟨kept' h.k0 hB, kept' h.k1 hB, kept' h.k2 hB, kept' h.k3 hB, kept' h.k4 hB⟩

set_option maxHeartbeats 8000000 in
set_option maxRecDepth 100000 in
theorem walk_encodes (P : PlanA) (L : PlanL) (w : World) (hG : GOk w) (hP : PlanAt w P L) (hW : WfPlan P) (h1 : P.2.1.length ≤ 140737488355328) (h2 : P.2.2.1.length ≤ 140737488355328) (h3 : P.2.2.2.1.length ≤ 140737488355328) (h4 : P.2.2.2.2.length ≤ 140737488355328)
    (h5 : ∀ ws ∈ P.2.1, ws.length ≤ 140737488355328) (h6 : ∀ q ∈ P.2.2.1, q.1.length ≤ 140737488355328 ∧ q.2.2.1.length ≤ 140737488355328) :
    Calls Tryd.prog 3 #[planV P L] w fun e w' => e = .returned (.bool true) ∧ Below w.heap.size w w' := by
  have h0 := hG.lt
  have HGO := Lib.hid (fun W (hB : Below w.heap.size w W) => hG.below hB h0)
  have HAW := Lib.hid (fun W (hB : Below w.heap.size w W) => awake_any W (hG.below hB h0))
  have HF := Lib.hid (fun W (hB : Below w.heap.size w W) => few_any P L W (hP.keep hB) h1 h2 h3 h4 h5 h6)
  have HEY := Lib.hid (fun W (hB : Below w.heap.size w W) hs hf => enc_yes P L W (hP.keep hB) hs hf hW)
  have HEN := Lib.hid (fun W (hB : Below w.heap.size w W) hs hf => enc_no P L W (hP.keep hB) hs hf)
  have HBT := Lib.hid (fun W (hB : Below w.heap.size w W) (hs : Small P) => bytes_any P L W (hP.keep hB) hW hs (lens_le hs).1 (lens_le hs).2.1 (lens_le hs).2.2.1 (lens_le hs).2.2.2.1 (fun ws hw => ((lens_le hs).2.2.2.2.1 ws hw).2) (lens_le hs).2.2.2.2.2)
  have HW := Lib.hid hW
  have hpv : ∀ L : PlanL, planV P L = .agg #[.int .u16 P.1, .slice L.a1 P.2.1.length L.c1, .slice L.a2 P.2.2.1.length L.c2, .slice L.a3 P.2.2.2.1.length L.c3, .slice L.a4 P.2.2.2.2.length L.c4] := fun _ => rfl
  simp only [hpv] at HF HEY HEN HBT ⊢
  have HB0 := Lib.hid (below_al w (.cells #[.int .u16 P.1, .slice L.a1 P.2.1.length L.c1, .slice L.a2 P.2.2.1.length L.c2, .slice L.a3 P.2.2.2.1.length L.c3, .slice L.a4 P.2.2.2.2.length L.c4] 28))
  have hpb : PF (w.alloc (.cells #[.int .u16 P.1, .slice L.a1 P.2.1.length L.c1, .slice L.a2 P.2.2.1.length L.c2, .slice L.a3 P.2.2.2.1.length L.c3, .slice L.a4 P.2.2.2.2.length L.c4] 28)) w.heap.size P L := ⟨by simp, by simp, by simp, by simp, by simp⟩
  have HPB0 := Lib.hid hpb
  have hen := fun W => run_eql_nil_nil_at (P := Tryd.prog) W 33 (by kernel_rfl)
  clear hpv hpb hP hG hW h5 h6
  go_enter Tryd.func3, Tryd.ntmps3
  go_wp2_with fail
  refine (HF.out _ HB0.out).mono ?_
  rintro e w1 ⟨hB, bb, rfl, hall⟩
  have HB1 := Lib.hid (below_two' HB0.out hB)
  have HPB1 := Lib.hid (HPB0.out.keep hB)
  have HALL := Lib.hid hall
  clear hB hall
  cases bb
  · go_wp2_with fail
    refine (HAW.out _ HB1.out).mono ?_
    rintro e w2 ⟨rfl, hB⟩
    have HB2 := Lib.hid hB
    clear hB
    go_wp2_with fail
    go_ret
    exact ⟨rfl, below_two' HB1.out HB2.out⟩
  · have hs := small_of (HALL.out rfl)
    have HSM := Lib.hid hs
    obtain ⟨k0, k1, k2, k3, k4⟩ := HPB1.out
    by_cases hf : fitAt P = -1
    · have HFT := Lib.hid hf
      have HE := Lib.hid (HEY.out _ HB1.out hs hf)
      clear hs hf
      go_wp2_with fail
      clear k0 k1 k2 k3 k4
      refine HE.out.mono ?_
      rintro e w2 ⟨v, rfl, hO, hB⟩
      have hft := fits_of HFT.out
      have hbyt := enc_byte HW.out hft
      have hel : (enc P).length ≤ 1000000 := HSM.out
      have hpos : 0 < (enc P).length := by
        have : (encHead P).length = 10 := rfl
        unfold enc
        simp only [List.length_append]
        omega
      obtain ⟨g, cg, hv, -, hby, hsz⟩ := Own.bytes hO hpos hbyt
      subst hv
      have HB2 := Lib.hid (below_two' HB1.out hB)
      have HPB2 := Lib.hid (HPB1.out.keep hB)
      have HBT2 := Lib.hid (HBT.out w2 (below_two' HB1.out hB) HSM.out)
      obtain ⟨s, hse⟩ : ∃ s, s = bytesL (enc P) := ⟨_, rfl⟩
      obtain ⟨n, hn⟩ : ∃ n, n = (enc P).length := ⟨_, rfl⟩
      have HBY := Lib.hid hby
      rw [← hse] at HBY hsz
      rw [← hn] at hsz hel hpos ⊢
      subst hsz
      have HSE := Lib.hid hse
      clear hO hB hby hse hn hft hbyt
      obtain ⟨k0, k1, k2, k3, k4⟩ := HPB2.out
      go_wp2_with fail
      clear k0 k1 k2 k3 k4
      refine HBT2.out.mono ?_
      rintro e w3 ⟨hor, hB⟩
      obtain rfl : e = .returned (.tuple #[.string s, .int .i64 0, .bool true]) := by
        rcases hor with ⟨_, h⟩ | ⟨h, _⟩
        · rw [h, HSE.out]; rfl
        · exact absurd HFT.out h
      have HB3 := Lib.hid (below_two' HB2.out hB)
      have HY3 := Lib.hid (show Lib.Bytes w3 g 0 s from fun i hi => (hB.cell (p := ⟨g, 0 + i, none⟩) (cell_lt' (HBY.out i hi))).trans (HBY.out i hi))
      clear hor hB
      go_wp2_with fail
      refine (why_nil _).mono ?_
      rintro e w4 ⟨rfl, hB⟩
      have HB4 := Lib.hid (below_two' HB3.out hB)
      have HY4 := Lib.hid (show Lib.Bytes w4 g 0 s from fun i hi => (hB.cell (p := ⟨g, 0 + i, none⟩) (cell_lt' (HY3.out i hi))).trans (HY3.out i hi))
      clear hB
      go_wp2_with fail
      refine (HAW.out _ HB4.out).mono ?_
      rintro e w5 ⟨rfl, hB⟩
      have HB5 := Lib.hid (below_two' HB4.out hB)
      have hy5 : Lib.Bytes w5 g 0 s := fun i hi => (hB.cell (p := ⟨g, 0 + i, none⟩) (cell_lt' (HY4.out i hi))).trans (HY4.out i hi)
      have hcb := Lib.run_convert_whole (P := Tryd.prog) w5 31 5 9 Tryd.underlying31 Tryd.underlying5 Tryd.underlying9 g 0 s hy5 cg
      clear hB hy5
      go_wp2_with fail
      go_ret
      exact ⟨by first | rfl | simp, HB5.out⟩
    · have HE := Lib.hid (HEN.out _ HB1.out hs hf)
      have HFT := Lib.hid hf
      clear hs hf
      go_wp2_with fail
      clear k0 k1 k2 k3 k4
      refine HE.out.mono ?_
      rintro e w2 ⟨f, rfl, hc0, hc1, hB⟩
      have HB2 := Lib.hid (below_two' HB1.out hB)
      have HPB2 := Lib.hid (HPB1.out.keep hB)
      have HBT2 := Lib.hid (HBT.out w2 (below_two' HB1.out hB) HSM.out)
      obtain ⟨n, hn⟩ : ∃ n, n = fitAt P := ⟨_, rfl⟩
      rw [← hn] at hc0
      have HC0 := Lib.hid hc0
      have HC1 := Lib.hid hc1
      have HN := Lib.hid hn
      clear hB hc0 hc1 hn
      obtain ⟨k0, k1, k2, k3, k4⟩ := HPB2.out
      go_wp2_with fail
      clear k0 k1 k2 k3 k4
      refine HBT2.out.mono ?_
      rintro e w3 ⟨hor, hB⟩
      obtain rfl : e = .returned (.tuple #[.string ⟨#[]⟩, .int .i64 n, .bool false]) := by
        rcases hor with ⟨h, _⟩ | ⟨_, h⟩
        · exact absurd h HFT.out
        · rw [h, HN.out]
      have HB3 := Lib.hid (below_two' HB2.out hB)
      have HW3 := Lib.hid (why_fail0 f 0 31 n w3 (HGO.out _ (below_two' HB2.out hB)) (kept' HC0.out hB) (kept' HC1.out hB))
      clear hor hB
      go_wp2_with fail
      refine HW3.out.mono ?_
      rintro e w4 ⟨rfl, hB⟩
      have HB4 := Lib.hid (below_two' HB3.out hB)
      clear hB
      go_wp2_with fail
      refine (HAW.out _ HB4.out).mono ?_
      rintro e w5 ⟨rfl, hB⟩
      have HB5 := Lib.hid (below_two' HB4.out hB)
      clear hB
      go_wp2_with fail
      go_ret
      exact ⟨by first | rfl | simp, HB5.out⟩
end Go.Proofs.YtkgkjkghdllkhaaDoor
