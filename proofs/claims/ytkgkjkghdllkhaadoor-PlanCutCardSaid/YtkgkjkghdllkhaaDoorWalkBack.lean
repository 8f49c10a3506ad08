/-
  PlanBack, walked: what was encoded is decoded again.
-/
import Derived.Test.YtkgkjkghdllkhaaDoorWalkOne
import Derived.Test.YtkgkjkghdllkhaaDoorFew
import Derived.Test.YtkgkjkghdllkhaaDoorSpecB
import Derived.Test.YtkgkjkghdllkhaaDoorSameE
namespace Go.Proofs.YtkgkjkghdllkhaaDoor
open Go.RowKit

theorem flat_sum {α : Type} (e : α → List Int) (l : List α) (d : α) : ∀ k, k ≤ l.length → ((l.take k).flatMap e).length = sumN (fun j => (e (l.getD j d)).length) k := by
  intro k
  induction k with
  | zero => intro _; rfl
  | succ k ih =>
    intro hk
    rw [take_succ_flat e l k d (by omega), List.length_append, ih (by omega)]
    rfl
theorem sum_le (f g : Nat → Nat) (a b : Nat) (h : ∀ j, f j ≤ a + b * g j) : ∀ k, sumN f k ≤ a * k + b * sumN g k := by
  intro k
  induction k with
  | zero => simp [sumN]
  | succ k ih =>
    show sumN f k + f k ≤ a * (k + 1) + b * (sumN g k + g k)
    have := h k
    rw [Nat.mul_add, Nat.mul_add]
    omega
theorem small_of {P : PlanA} (h : allN P ≤ 2000) : Small P := by
  unfold allN at h
  show (enc P).length ≤ 1000000
  have e1 : (P.2.1.flatMap encCore).length ≤ 2 * P.2.1.length + 6 * sumN (fun j => (P.2.1.getD j []).length) P.2.1.length := by
    have := flat_sum encCore P.2.1 [] P.2.1.length (Nat.le_refl _)
    rw [List.take_length] at this
    rw [this]
    refine sum_le _ _ 2 6 (fun j => ?_) _
    unfold encCore
    rw [List.length_append, flat_len encWin 6 (fun x => rfl)]
    show 2 + _ ≤ _
    omega
  have e2 : (P.2.2.1.flatMap encPart).length ≤ 7 * P.2.2.1.length + 2 * sumN (fun j => (P.2.2.1.getD j dQ).1.length + (P.2.2.1.getD j dQ).2.2.1.length) P.2.2.1.length := by
    have := flat_sum encPart P.2.2.1 dQ P.2.2.1.length (Nat.le_refl _)
    rw [List.take_length] at this
    rw [this]
    refine sum_le _ _ 7 2 (fun j => ?_) _
    unfold encPart
    simp only [List.length_append, flat_len encSem 2 (fun x => rfl), List.length_cons, List.length_nil]
    omega
  have e3 : (P.2.2.2.1.flatMap encChan).length = 7 * P.2.2.2.1.length := flat_len encChan 7 (fun x => rfl) _
  have e4 : (P.2.2.2.2.flatMap encPair).length = 2 * P.2.2.2.2.length := flat_len encPair 2 (fun x => rfl) _
  have e0 : (encHead P).length = 10 := rfl
  unfold enc
  rw [List.length_append, List.length_append, List.length_append, List.length_append, e0, e3, e4]
  omega

set_option maxHeartbeats 8000000 in
set_option maxRecDepth 100000 in
theorem walk_back (P : PlanA) (L : PlanL) (w : World) (hG : GOk w) (hP : PlanAt w P L) (hW : WfPlan P) (h1 : P.2.1.length ≤ 140737488355328) (h2 : P.2.2.1.length ≤ 140737488355328) (h3 : P.2.2.2.1.length ≤ 140737488355328) (h4 : P.2.2.2.2.length ≤ 140737488355328)
    (h5 : ∀ ws ∈ P.2.1, ws.length ≤ 140737488355328) (h6 : ∀ q ∈ P.2.2.1, q.1.length ≤ 140737488355328 ∧ q.2.2.1.length ≤ 140737488355328) :
    Calls Tryd.prog 5 #[planV P L] w fun e w' => e = .returned (.bool true) ∧ Below w.heap.size w w' := by
  have h0 := hG.lt
  have HAW := Lib.hid (fun W (hB : Below w.heap.size w W) => awake_any W (hG.below hB h0))
  have HF := Lib.hid (fun W (hB : Below w.heap.size w W) => few_any P L W (hP.keep hB) h1 h2 h3 h4 h5 h6)
  have HEY := Lib.hid (fun W (hB : Below w.heap.size w W) hs hf => enc_yes P L W (hP.keep hB) hs hf hW)
  have HEN := Lib.hid (fun W (hB : Below w.heap.size w W) hs hf => enc_no P L W (hP.keep hB) hs hf)
  have HSE := Lib.hid (fun W (hB : Below w.heap.size w W) M hM => same_eq P L M W (hP.keep hB) hM h1 h2 h3 h4 h5 h6)
  have HW := Lib.hid hW
  have hpv : ∀ L : PlanL, planV P L = .agg #[.int .u16 P.1, .slice L.a1 P.2.1.length L.c1, .slice L.a2 P.2.2.1.length L.c2, .slice L.a3 P.2.2.2.1.length L.c3, .slice L.a4 P.2.2.2.2.length L.c4] := fun _ => rfl
  simp only [hpv] at HF HEY HEN HSE ⊢
  have HPV := Lib.hid hpv
  have hB0 : Below w.heap.size w (w.alloc (.cells #[.int .u16 P.1, .slice L.a1 P.2.1.length L.c1, .slice L.a2 P.2.2.1.length L.c2, .slice L.a3 P.2.2.2.1.length L.c3, .slice L.a4 P.2.2.2.2.length L.c4] 28)) := (Below.refl _ _).alloc (Nat.le_refl _) _
  have hpb : PB (w.alloc (.cells #[.int .u16 P.1, .slice L.a1 P.2.1.length L.c1, .slice L.a2 P.2.2.1.length L.c2, .slice L.a3 P.2.2.2.1.length L.c3, .slice L.a4 P.2.2.2.2.length L.c4] 28)) w.heap.size P L := ⟨by simp, by simp, by simp, by simp, by simp⟩
  have HB0 := Lib.hid hB0
  have HPB0 := Lib.hid hpb
  have hni := fun x W => run_neq_iface_nil (P := Tryd.prog) W 33 (by kernel_rfl) 71 x
  have hnn := fun W => run_neq_nil_nil_at (P := Tryd.prog) W 33 (by kernel_rfl)
  have hen := fun W => run_eql_nil_nil_at (P := Tryd.prog) W 33 (by kernel_rfl)
  clear hpv hB0 hpb hP hG hW h5 h6
  go_enter Tryd.func5, Tryd.ntmps5
  go_wp2_with fail
  refine (HF.out _ HB0.out).mono ?_
  rintro e w1 ⟨hB, bb, rfl, hall⟩
  have HB1 := Lib.hid (below_two HB0.out hB)
  have HPB1 := Lib.hid (HPB0.out.keep hB)
  have HALL := Lib.hid hall
  clear hB hall
  cases bb
  · go_wp2_with fail
    refine (HAW.out _ HB1.out).mono ?_
    rintro e w2 ⟨rfl, hB⟩
    have HB2 := Lib.hid hB
    clear hB
    go_wp2_with fail
    go_ret
    exact ⟨rfl, below_two HB1.out HB2.out⟩
  · have hs := small_of (HALL.out rfl)
    have HSM := Lib.hid hs
    obtain ⟨k0, k1, k2, k3, k4⟩ := HPB1.out
    by_cases hf : fitAt P = -1
    · have HFT := Lib.hid hf
      have HE := Lib.hid (HEY.out _ HB1.out hs hf)
      clear hs hf
      go_wp2_with fail
      clear k0 k1 k2 k3 k4
      refine HE.out.mono ?_
      rintro e w2 ⟨v, rfl, hO, hB⟩
      have hft := fits_of HFT.out
      have hbyt := enc_byte HW.out hft
      have hel : (enc P).length ≤ 1000000 := HSM.out
      have hpos : 0 < (enc P).length := by
        have : (enc P).length = 4 + (encRest P).length := by rw [enc_rest, List.length_append]; rfl
        omega
      obtain ⟨g, cg, hv, -, hby, hsz⟩ := Own.bytes hO hpos hbyt
      subst hv
      have HB2 := Lib.hid (below_two HB1.out hB)
      have HPB2 := Lib.hid (HPB1.out.keep hB)
      have HBY := Lib.hid (fun W (hb : Below w2.heap.size w2 W) => fun i hi => (hb.cell (p := ⟨g, 0 + i, none⟩) (cell_lt' (hby i hi))).trans (hby i hi))
      obtain ⟨hd1, hd2⟩ := dec_back HW.out hft hbyt
      obtain ⟨s, hse⟩ : ∃ s, s = bytesL (enc P) := ⟨_, rfl⟩
      obtain ⟨n, hn⟩ : ∃ n, n = (enc P).length := ⟨_, rfl⟩
      rw [← hse] at hd1 hd2 hsz HBY
      rw [← hn] at hsz hel hpos ⊢
      subst hsz
      have HDD : Hid (∀ W, Below w2.heap.size w2 W → Calls Tryd.prog 15 #[.slice (some ⟨g, 0, none⟩) s.size cg] W fun e w' => DecOk s W e w') := fun W hb =>
        decode_ok ⟨g, 0, none⟩ cg s W (fun i hi => by rw [add_lit]; exact HBY.out W hb i hi) (by omega) hd1
      have HD2 := Lib.hid hd2
      clear hO hB hby hd1 hd2 hse hn hft hbyt
      go_wp2_with fail
      refine (HAW.out _ HB2.out).mono ?_
      rintro e w3 ⟨rfl, hB⟩
      have HB3 := Lib.hid (below_two HB2.out hB)
      have HPB3 := Lib.hid (HPB2.out.keep hB)
      have HDD3 := Lib.hid (HDD.out _ hB)
      clear hB
      go_wp2_with fail
      refine HDD3.out.mono ?_
      rintro e w4 ⟨M, rfl, hPM, hB⟩
      rw [HD2.out] at hPM ⊢
      rw [HPV.out M]
      have hx : Below w4.heap.size w4 (w4.alloc (.cells #[.int .u16 P.1, .slice M.a1 P.2.1.length M.c1, .slice M.a2 P.2.2.1.length M.c2, .slice M.a3 P.2.2.2.1.length M.c3, .slice M.a4 P.2.2.2.2.length M.c4] 28)) := (Below.refl _ _).alloc (Nat.le_refl _) _
      have hB4 := below_two (below_two HB3.out hB) hx
      have HB4 := Lib.hid hB4
      obtain ⟨k0, k1, k2, k3, k4⟩ := (HPB3.out.keep hB).keep hx
      have HS4 := Lib.hid (HSE.out _ hB4 M (hPM.keep hx))
      clear hPM hB hx hB4
      go_wp2_with fail
      refine HS4.out.mono ?_
      rintro e w5 ⟨rfl, hB⟩
      have HB5 := Lib.hid hB
      clear hB
      go_wp2_with fail
      go_ret
      exact ⟨rfl, below_two HB4.out HB5.out⟩
    · have HE := Lib.hid (HEN.out _ HB1.out hs hf)
      clear hs hf
      go_wp2_with fail
      clear k0 k1 k2 k3 k4
      refine HE.out.mono ?_
      rintro e w2 ⟨f, rfl, -, -, hB⟩
      have HB2 := Lib.hid (below_two HB1.out hB)
      clear hB
      go_wp2_with fail
      refine (HAW.out _ HB2.out).mono ?_
      rintro e w3 ⟨rfl, hB⟩
      have HB3 := Lib.hid (below_two HB2.out hB)
      clear hB
      go_wp2_with fail
      refine (HAW.out _ HB3.out).mono ?_
      rintro e w4 ⟨rfl, hB⟩
      have HB4 := Lib.hid hB
      clear hB
      go_wp2_with fail
      go_ret
      exact ⟨rfl, below_two HB3.out HB4.out⟩
end Go.Proofs.YtkgkjkghdllkhaaDoor
