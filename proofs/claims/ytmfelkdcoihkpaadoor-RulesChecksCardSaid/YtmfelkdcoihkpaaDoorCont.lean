/-
  slices.ContainsFunc over windows and semaphores.
-/
import Derived.Test.YtmfelkdcoihkpaaDoorEachW
namespace Go.Proofs.YtmfelkdcoihkpaaDoor
open Go.RowKit

theorem any_at {α : Type} {l : List α} {p : α → Bool} {k : Nat} (d : α) (hk : k < l.length) (h : p (l.getD k d) = true) : l.any p = true := List.any_eq_true.2 ⟨_, getD_mem d hk, h⟩
theorem any_none {α : Type} {l : List α} {p : α → Bool} (d : α) (h : ∀ j, j < l.length → p (l.getD j d) = false) : l.any p = false := by
  rw [List.any_eq_false]
  intro x hx
  obtain ⟨j, hj, rfl⟩ := List.getElem_of_mem hx
  have := h j hj
  rw [List.getD_eq_getElem?_getD, List.getElem?_eq_getElem hj] at this
  simpa using this

def IdxPost (b : Bool) (w : World) (e : Ending) (w' : World) : Prop := ∃ r : Int, e = .returned (.int .i64 r) ∧ decide (0 ≤ r) = b ∧ Below w.heap.size w w'
def IdxRel_win (w : World) (ws : List WinA) (p : WinA → Bool) (i : Value) (wr : World) : Prop :=
  ∃ k : Nat, k ≤ ws.length ∧ i = .int .i64 k ∧ (∀ j, j < k → p (ws.getD j dW) = false) ∧ Below w.heap.size w wr

set_option maxHeartbeats 4000000 in
theorem index_win (K : FuncId) (cap : Array Value) (p : WinA → Bool) (A : Option Addr) (c : Nat) (ws : List WinA) (w : World) (hA : WinsAt w A ws) (hK : Enters K) (hn : ws.length ≤ 1000000000000000)
    (hcall : ∀ v W, v ∈ ws → Below w.heap.size w W → Calls Tryd.prog K (#[wv v] ++ cap) W fun e w' => e = .returned (.bool (p v)) ∧ Below W.heap.size W w') :
    Calls Tryd.prog 75 #[.slice A ws.length c, .func (.func K) #[] cap] w fun e w' => IdxPost (ws.any p) w e w' := by
  have HA := Lib.hid hA
  have HC := Lib.hid hcall
  have eg := hK
  unfold Enters at eg
  clear hA hcall hK
  obtain ⟨n, hnn⟩ : ∃ n, n = ws.length := ⟨_, rfl⟩
  rw [← hnn] at hn ⊢
  have HN := Lib.hid hnn
  clear hnn
  go_enter Tryd.func75, Tryd.ntmps75
  go_wp2_with fail
  go_loopw [8] (fun i wr => IdxRel_win w ws p i wr) (fun i _ => n - (intOf i).toNat)
  case atStart => exact ⟨0, Nat.zero_le _, rfl, fun j hj => by omega, Below.refl _ _⟩
  case round =>
    obtain ⟨k, hk, rfl, hj, hB⟩ := hrel
    rw [← HN.out] at hk
    have HJ := Lib.hid hj
    have HB := Lib.hid hB
    by_cases hlt : k < n
    · have hlw : k < ws.length := by rw [← HN.out]; exact hlt
      obtain ⟨b, o, rfl⟩ := Arr.head HA.out hlw
      have HC1 := HC.out (ws.getD k dW) _ (getD_mem dW hlw) hB
      obtain ⟨⟨x0, x1, x2, x3⟩, hx⟩ : ∃ x, x = ws.getD k dW := ⟨_, rfl⟩
      have c0 := Arr.at (j := 0) (Arr.keep HA.out HB.out) hlw rfl
      have c1 := Arr.at (j := 1) (Arr.keep HA.out HB.out) hlw rfl
      have c2 := Arr.at (j := 2) (Arr.keep HA.out HB.out) hlw rfl
      have c3 := Arr.at (j := 3) (Arr.keep HA.out HB.out) hlw rfl
      rw [← hx] at HC1
      simp only [← hx, Nat.add_zero] at c0 c1 c2 c3
      simp only [wv] at HC1
      obtain ⟨q, hq⟩ : ∃ q, q = p (x0, x1, x2, x3) := ⟨_, rfl⟩
      rw [← hq] at HC1
      have HCC := Lib.hid HC1
      have HX := Lib.hid hx
      have HQ := Lib.hid hq
      clear hj hB hx hlw HC1 hq
      cases q
      · go_wp2_with fail
        refine HCC.out.mono ?_
        rintro e w1 ⟨rfl, hB⟩
        have HB1 := Lib.hid hB
        clear hB
        go_wp2_with fail
        go_roundw
        case rel => exact ⟨k + 1, by rw [← HN.out]; omega, by go_num, fun j hj => (by
          rcases Nat.lt_or_ge j k with h | h
          · exact HJ.out j h
          · obtain rfl : j = k := by omega
            rw [← HX.out]; exact HQ.out.symm), below_two HB.out HB1.out⟩
        case measure => simp [intOf]; omega
      · go_wp2_with fail
        refine HCC.out.mono ?_
        rintro e w1 ⟨rfl, hB⟩
        have HB1 := Lib.hid hB
        clear hB
        go_wp2_with fail
        go_ret
        refine ⟨k, rfl, ?_, below_two HB.out HB1.out⟩
        rw [any_at dW (by rw [← HN.out]; exact hlt) (by rw [← HX.out]; exact HQ.out.symm)]
        exact decide_eq_true (by omega)
    · have hk' : k = n := by omega
      subst hk'
      clear hj hB
      go_wp2_with fail
      go_ret
      refine ⟨-1, rfl, ?_, HB.out⟩
      rw [any_none dW (by rw [← HN.out]; exact HJ.out)]
      rfl

theorem contains_win (K : FuncId) (cap : Array Value) (p : WinA → Bool) (A : Option Addr) (c : Nat) (ws : List WinA) (w : World) (hA : WinsAt w A ws) (hK : Enters K) (hn : ws.length ≤ 1000000000000000)
    (hcall : ∀ v W, v ∈ ws → Below w.heap.size w W → Calls Tryd.prog K (#[wv v] ++ cap) W fun e w' => e = .returned (.bool (p v)) ∧ Below W.heap.size W w') :
    Calls Tryd.prog 65 #[.slice A ws.length c, .func (.func K) #[] cap] w fun e w' => e = .returned (.bool (ws.any p)) ∧ Below w.heap.size w w' := by
  have HI := Lib.hid (index_win K cap p A c ws w hA hK hn hcall)
  clear hA hcall hK
  obtain ⟨n, hnn⟩ : ∃ n, n = ws.length := ⟨_, rfl⟩
  rw [← hnn] at HI ⊢
  obtain ⟨q, hq⟩ : ∃ q, q = ws.any p := ⟨_, rfl⟩
  rw [← hq] at HI ⊢
  clear hn hnn hq
  go_enter Tryd.func65, Tryd.ntmps65
  go_wp2_with fail
  refine HI.out.mono ?_
  rintro e w1 ⟨r, rfl, hr, hB⟩
  have HB := Lib.hid hB
  have HR := Lib.hid hr
  clear hB hr
  go_wp2_with fail
  go_ret
  exact ⟨ret_b HR.out, HB.out⟩
/-- A semaphore as a value. -/
def sv (v : SemA) : Value := .agg #[.int .u8 v.1, .int .u8 v.2]
def IdxRel_sem (w : World) (ws : List SemA) (p : SemA → Bool) (i : Value) (wr : World) : Prop :=
  ∃ k : Nat, k ≤ ws.length ∧ i = .int .i64 k ∧ (∀ j, j < k → p (ws.getD j dS) = false) ∧ Below w.heap.size w wr

set_option maxHeartbeats 4000000 in
theorem index_sem (K : FuncId) (cap : Array Value) (p : SemA → Bool) (A : Option Addr) (c : Nat) (ws : List SemA) (w : World) (hA : SemsAt w A ws) (hK : Enters K) (hn : ws.length ≤ 1000000000000000)
    (hcall : ∀ v W, v ∈ ws → Below w.heap.size w W → Calls Tryd.prog K (#[sv v] ++ cap) W fun e w' => e = .returned (.bool (p v)) ∧ Below W.heap.size W w') :
    Calls Tryd.prog 80 #[.slice A ws.length c, .func (.func K) #[] cap] w fun e w' => IdxPost (ws.any p) w e w' := by
  have HA := Lib.hid hA
  have HC := Lib.hid hcall
  have eg := hK
  unfold Enters at eg
  clear hA hcall hK
  obtain ⟨n, hnn⟩ : ∃ n, n = ws.length := ⟨_, rfl⟩
  rw [← hnn] at hn ⊢
  have HN := Lib.hid hnn
  clear hnn
  go_enter Tryd.func80, Tryd.ntmps80
  go_wp2_with fail
  go_loopw [8] (fun i wr => IdxRel_sem w ws p i wr) (fun i _ => n - (intOf i).toNat)
  case atStart => exact ⟨0, Nat.zero_le _, rfl, fun j hj => by omega, Below.refl _ _⟩
  case round =>
    obtain ⟨k, hk, rfl, hj, hB⟩ := hrel
    rw [← HN.out] at hk
    have HJ := Lib.hid hj
    have HB := Lib.hid hB
    by_cases hlt : k < n
    · have hlw : k < ws.length := by rw [← HN.out]; exact hlt
      obtain ⟨b, o, rfl⟩ := Arr.head HA.out hlw
      have HC1 := HC.out (ws.getD k dS) _ (getD_mem dS hlw) hB
      obtain ⟨⟨x0, x1⟩, hx⟩ : ∃ x, x = ws.getD k dS := ⟨_, rfl⟩
      have c0 := Arr.at (j := 0) (Arr.keep HA.out HB.out) hlw rfl
      have c1 := Arr.at (j := 1) (Arr.keep HA.out HB.out) hlw rfl
      rw [← hx] at HC1
      simp only [← hx, Nat.add_zero] at c0 c1
      simp only [sv] at HC1
      obtain ⟨q, hq⟩ : ∃ q, q = p (x0, x1) := ⟨_, rfl⟩
      rw [← hq] at HC1
      have HCC := Lib.hid HC1
      have HX := Lib.hid hx
      have HQ := Lib.hid hq
      clear hj hB hx hlw HC1 hq
      cases q
      · go_wp2_with fail
        refine HCC.out.mono ?_
        rintro e w1 ⟨rfl, hB⟩
        have HB1 := Lib.hid hB
        clear hB
        go_wp2_with fail
        go_roundw
        case rel => exact ⟨k + 1, by rw [← HN.out]; omega, by go_num, fun j hj => (by
          rcases Nat.lt_or_ge j k with h | h
          · exact HJ.out j h
          · obtain rfl : j = k := by omega
            rw [← HX.out]; exact HQ.out.symm), below_two HB.out HB1.out⟩
        case measure => simp [intOf]; omega
      · go_wp2_with fail
        refine HCC.out.mono ?_
        rintro e w1 ⟨rfl, hB⟩
        have HB1 := Lib.hid hB
        clear hB
        go_wp2_with fail
        go_ret
        refine ⟨k, rfl, ?_, below_two HB.out HB1.out⟩
        rw [any_at dS (by rw [← HN.out]; exact hlt) (by rw [← HX.out]; exact HQ.out.symm)]
        exact decide_eq_true (by omega)
    · have hk' : k = n := by omega
      subst hk'
      clear hj hB
      go_wp2_with fail
      go_ret
      refine ⟨-1, rfl, ?_, HB.out⟩
      rw [any_none dS (by rw [← HN.out]; exact HJ.out)]
      rfl

theorem contains_sem (K : FuncId) (cap : Array Value) (p : SemA → Bool) (A : Option Addr) (c : Nat) (ws : List SemA) (w : World) (hA : SemsAt w A ws) (hK : Enters K) (hn : ws.length ≤ 1000000000000000)
    (hcall : ∀ v W, v ∈ ws → Below w.heap.size w W → Calls Tryd.prog K (#[sv v] ++ cap) W fun e w' => e = .returned (.bool (p v)) ∧ Below W.heap.size W w') :
    Calls Tryd.prog 70 #[.slice A ws.length c, .func (.func K) #[] cap] w fun e w' => e = .returned (.bool (ws.any p)) ∧ Below w.heap.size w w' := by
  have HI := Lib.hid (index_sem K cap p A c ws w hA hK hn hcall)
  clear hA hcall hK
  obtain ⟨n, hnn⟩ : ∃ n, n = ws.length := ⟨_, rfl⟩
  rw [← hnn] at HI ⊢
  obtain ⟨q, hq⟩ : ∃ q, q = ws.any p := ⟨_, rfl⟩
  rw [← hq] at HI ⊢
  clear hn hnn hq
  go_enter Tryd.func70, Tryd.ntmps70
  go_wp2_with fail
  refine HI.out.mono ?_
  rintro e w1 ⟨r, rfl, hr, hB⟩
  have HB := Lib.hid hB
  have HR := Lib.hid hr
  clear hB hr
  go_wp2_with fail
  go_ret
  exact ⟨ret_b HR.out, HB.out⟩
end Go.Proofs.YtmfelkdcoihkpaaDoor
