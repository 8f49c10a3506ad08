/-
  The rules as closures: windows' places, and windows beside one another.
-/
import Derived.Test.YtmfelkdcoihkpaaDoorRules
namespace Go.Proofs.YtmfelkdcoihkpaaDoor
open Go.RowKit

set_option maxHeartbeats 1000000 in
theorem closure43 (b : Nat) (P : PlanA) (L : PlanL) (c i : Nat) (W : World) (hb : PB W b P L) (hP : PlanAt W P L) (hO : POk P L) (hc : c < P.2.1.length) (hi : i < (P.2.1.getD c []).length) (h8 : P.2.1.length ≤ 8) (h256 : ∀ ws ∈ P.2.1, ws.length ≤ 256) (h64 : P.2.2.1.length ≤ 64) :
    Calls Tryd.prog 43 #[.int .i64 c, .int .i64 i, .pointer (some ⟨b, 0, none⟩)] W fun e w' => e = .returned (.int .i64 (placedE P (c, i))) ∧ Below W.heap.size W w' := by
  have HP := Lib.hid (placed_any P L c i W hP hO.wf hc hi h8 (h256 _ (getD_mem [] hc)) h64)
  obtain ⟨z, hz⟩ : ∃ z, z = placedE P (c, i) := ⟨_, rfl⟩
  rw [← hz] at HP ⊢
  obtain ⟨fr, cs, ps, hs, rs⟩ := P
  obtain ⟨A1, c1, A2, c2, A3, c3, A4, c4⟩ := L
  obtain ⟨k0, k1, k2, k3, k4⟩ := hb
  simp only [planV] at HP
  dsimp only at k0 k1 k2 k3 k4
  clear hz hP hO hi h256
  go_enter Tryd.func43, Tryd.ntmps43
  go_wp2_with fail
  refine HP.out.mono ?_
  rintro e w1 ⟨rfl, hB⟩
  have HB := Lib.hid hB
  clear hB
  go_wp2_with fail
  go_ret
  exact ⟨rfl, HB.out⟩

set_option maxHeartbeats 1000000 in
theorem rule4 (b : Nat) (P : PlanA) (L : PlanL) (W : World) (hb : PB W b P L) (hP : PlanAt W P L) (hO : POk P L) (h8 : P.2.1.length ≤ 8) (h256 : ∀ ws ∈ P.2.1, ws.length ≤ 256) (h64 : P.2.2.1.length ≤ 64) :
    Rule 41 #[.pointer (some ⟨b, 0, none⟩)] (orderR P) W := by
  unfold Rule
  have HE := Lib.hid (eachWindow_any 43 #[.pointer (some ⟨b, 0, none⟩)] (placedE P) P L W hP enters43 h8 h256 fun c i W' hc hi hB => closure43 b P L c i W' (hb.keep hB) (hP.keep hB) hO hc hi h8 h256 h64)
  obtain ⟨r, hr⟩ : ∃ r, r = orderR P := ⟨_, rfl⟩
  have hr' : firstP (placedE P) placeN (places P.2.1) = r := by rw [hr]; rfl
  rw [hr'] at HE
  rw [← hr]
  obtain ⟨fr, cs, ps, hs, rs⟩ := P
  obtain ⟨A1, c1, A2, c2, A3, c3, A4, c4⟩ := L
  obtain ⟨k0, k1, k2, k3, k4⟩ := hb
  simp only [planV] at HE
  dsimp only at k0 k1 k2 k3 k4
  clear hP hO h256 hr hr'
  go_enter Tryd.func41, Tryd.ntmps41
  go_wp2_with fail
  refine HE.out.mono ?_
  rintro e w1 ⟨hT, hB⟩
  obtain ⟨v, rfl⟩ := hT.val
  have HT := Lib.hid hT
  have HB := Lib.hid hB
  clear hB hT
  go_wp2_with fail
  go_ret
  exact ⟨HT.out, HB.out⟩

theorem CoresAt.drop {W : World} {b o : Nat} {cs : List (List WinA)} (h : CoresAt W (some ⟨b, o, none⟩) cs) (c : Nat) : CoresAt W (some ⟨b, o + c, none⟩) (cs.drop c) := by
  obtain ⟨Pf, q1, q2⟩ := h
  refine ⟨fun i => Pf (c + i), fun i hi => ?_, fun i hi => ?_⟩
  · rw [List.length_drop] at hi
    refine ⟨b, o + c, rfl, fun j u hu => ?_⟩
    dsimp only at hu
    rw [drop_getD] at hu
    have := Arr.at (i := c + i) (j := j) (u := u) q1 (by omega) hu
    rw [show o + c + i * 1 + j = o + (c + i) * 1 + j by omega]
    exact this
  · rw [List.length_drop] at hi
    dsimp only
    rw [drop_getD]
    exact q2 (c + i) (by omega)
theorem beside_drop (P : PlanA) (c i : Nat) : besideS (P.2.1.drop c) i = besideE P (c, i) := by
  unfold besideS besideE winAt
  rw [drop_getD, List.drop_drop]
  rfl

set_option maxHeartbeats 1000000 in
theorem closure46 (b : Nat) (P : PlanA) (L : PlanL) (c i : Nat) (W : World) (hb : PB W b P L) (hP : PlanAt W P L) (hO : POk P L) (hc : c < P.2.1.length) (hi : i < (P.2.1.getD c []).length) (h8 : P.2.1.length ≤ 8) (h256 : ∀ ws ∈ P.2.1, ws.length ≤ 256) :
    Calls Tryd.prog 46 #[.int .i64 c, .int .i64 i, .pointer (some ⟨b, 0, none⟩)] W fun e w' => e = .returned (.int .i64 (besideE P (c, i))) ∧ Below W.heap.size W w' := by
  rw [← beside_drop]
  obtain ⟨Pf, q1, _⟩ := hP.cores
  obtain ⟨b1, o1, hA⟩ := Arr.head q1 hc
  have hlen : (P.2.1.drop c).length = P.2.1.length - c := List.length_drop
  have hCd := hP.cores
  rw [hA] at hCd
  have HP := Lib.hid (beside_any (some ⟨b1, o1 + c, none⟩) (L.c1 - c) (P.2.1.drop c) i W (hCd.drop c) (fun ws hw x hx => hO.wf.2.1 ws (List.mem_of_mem_drop hw) x hx) (by rw [hlen]; omega) (by rw [hlen]; omega) (by rw [hlen]; have := hO.k1; omega)
    (fun ws hw => h256 ws (List.mem_of_mem_drop hw)) (by rw [drop_getD]; exact hi))
  obtain ⟨z, hz⟩ : ∃ z, z = besideS (P.2.1.drop c) i := ⟨_, rfl⟩
  rw [← hz] at HP ⊢
  rw [hlen] at HP
  obtain ⟨-, k1, -, -, -⟩ := hb
  rw [hA] at k1
  have hk := hO.k1
  obtain ⟨n, hn⟩ : ∃ n, n = P.2.1.length := ⟨_, rfl⟩
  obtain ⟨cp, hcp⟩ : ∃ n, n = L.c1 := ⟨_, rfl⟩
  rw [← hn, ← hcp] at HP k1 hk
  rw [← hn] at hc
  clear hz hP hO hi h256 hn hcp q1 hA hlen hCd
  go_enter Tryd.func46, Tryd.ntmps46
  go_wp2_with fail
  refine HP.out.mono ?_
  rintro e w1 ⟨rfl, hB⟩
  have HB := Lib.hid hB
  clear hB
  go_wp2_with fail
  go_ret
  exact ⟨rfl, HB.out⟩

set_option maxHeartbeats 1000000 in
theorem rule5 (b : Nat) (P : PlanA) (L : PlanL) (W : World) (hb : PB W b P L) (hP : PlanAt W P L) (hO : POk P L) (h8 : P.2.1.length ≤ 8) (h256 : ∀ ws ∈ P.2.1, ws.length ≤ 256) :
    Rule 45 #[.pointer (some ⟨b, 0, none⟩)] (gangR P) W := by
  unfold Rule
  have HE := Lib.hid (eachWindow_any 46 #[.pointer (some ⟨b, 0, none⟩)] (besideE P) P L W hP enters46 h8 h256 fun c i W' hc hi hB => closure46 b P L c i W' (hb.keep hB) (hP.keep hB) hO hc hi h8 h256)
  obtain ⟨r, hr⟩ : ∃ r, r = gangR P := ⟨_, rfl⟩
  have hr' : firstP (besideE P) placeN (places P.2.1) = r := by rw [hr]; rfl
  rw [hr'] at HE
  rw [← hr]
  obtain ⟨fr, cs, ps, hs, rs⟩ := P
  obtain ⟨A1, c1, A2, c2, A3, c3, A4, c4⟩ := L
  obtain ⟨k0, k1, k2, k3, k4⟩ := hb
  simp only [planV] at HE
  dsimp only at k0 k1 k2 k3 k4
  clear hP hO h256 hr hr'
  go_enter Tryd.func45, Tryd.ntmps45
  go_wp2_with fail
  refine HE.out.mono ?_
  rintro e w1 ⟨hT, hB⟩
  obtain ⟨v, rfl⟩ := hT.val
  have HT := Lib.hid hT
  have HB := Lib.hid hB
  clear hB hT
  go_wp2_with fail
  go_ret
  exact ⟨HT.out, HB.out⟩
end Go.Proofs.YtmfelkdcoihkpaaDoor
