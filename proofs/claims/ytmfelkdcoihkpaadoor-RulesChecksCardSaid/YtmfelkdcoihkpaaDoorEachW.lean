/-
  A rule about each window, core by core.
-/
import Derived.Test.YtmfelkdcoihkpaaDoorEach
namespace Go.Proofs.YtmfelkdcoihkpaaDoor
open Go.RowKit

theorem first_place {e : Nat × Nat → Int} {cs : List (List WinA)} {c i : Nat} (hc : c < cs.length) (hi : i < (cs.getD c []).length)
    (h : ∀ x y, x < cs.length → y < (cs.getD x []).length → (x < c ∨ x = c ∧ y < i) → e (x, y) = 0) (hx : e (c, i) ≠ 0) : firstP e placeN (places cs) = (e (c, i), placeN (c, i)) := by
  obtain ⟨r, er⟩ := range_at hc
  obtain ⟨s, es⟩ := range_at hi
  unfold places
  rw [er, List.flatMap_append, List.flatMap_cons, es, List.map_append, List.map_cons]
  rw [List.append_assoc, ← List.append_assoc, List.cons_append]
  refine firstP_at (fun z hz => ?_) hx
  rcases List.mem_append.1 hz with hz | hz
  · obtain ⟨x, h1, h2⟩ := List.mem_flatMap.1 hz
    obtain ⟨y, h3, rfl⟩ := List.mem_map.1 h2
    have := List.mem_range.1 h1
    exact h x y (by omega) (List.mem_range.1 h3) (.inl this)
  · obtain ⟨y, h3, rfl⟩ := List.mem_map.1 hz
    have := List.mem_range.1 h3
    exact h c y hc (by omega) (.inr ⟨rfl, this⟩)

def OutRel (w : World) (cs : List (List WinA)) (e : Nat × Nat → Int) (i : Value) (wr : World) : Prop :=
  ∃ c : Nat, c ≤ cs.length ∧ i = .int .i64 c ∧ (∀ x y, x < c → y < (cs.getD x []).length → e (x, y) = 0) ∧ Below w.heap.size w wr
def InRel (w : World) (e : Nat × Nat → Int) (c n : Nat) (i : Value) (wr : World) : Prop :=
  ∃ k : Nat, k ≤ n ∧ i = .int .i64 k ∧ (∀ y, y < k → e (c, y) = 0) ∧ Below w.heap.size w wr

set_option maxHeartbeats 4000000 in
theorem eachWindow_any (K : FuncId) (cap : Array Value) (e : Nat × Nat → Int) (P : PlanA) (L : PlanL) (w : World) (hP : PlanAt w P L) (hK : Enters K) (h8 : P.2.1.length ≤ 8) (h256 : ∀ ws ∈ P.2.1, ws.length ≤ 256)
    (hcall : ∀ c i W, c < P.2.1.length → i < (P.2.1.getD c []).length → Below w.heap.size w W → Calls Tryd.prog K (#[.int .i64 c, .int .i64 i] ++ cap) W fun e' w' => e' = .returned (.int .i64 (e (c, i))) ∧ Below W.heap.size W w') :
    Calls Tryd.prog 42 #[planV P L, .func (.func K) #[] cap] w fun e' w' => Told w.heap.size (firstP e placeN (places P.2.1)) e' w' ∧ Below w.heap.size w w' := by
  obtain ⟨fr, cs, ps, hs, rs⟩ := P
  obtain ⟨A1, c1, A2, c2, A3, c3, A4, c4⟩ := L
  obtain ⟨g1, -, -, -⟩ := hP
  simp only [planV] at *
  have HC := Lib.hid hcall
  have G1 := Lib.hid g1
  have H256 := Lib.hid h256
  have eg := hK
  unfold Enters at eg
  have HB0 : Hid (Below w.heap.size w (w.alloc (.cells #[.int .u16 fr, .slice A1 cs.length c1, .slice A2 ps.length c2, .slice A3 hs.length c3, .slice A4 rs.length c4] 28))) := (Below.refl _ _).alloc (Nat.le_refl _) _
  clear hcall hK g1 h256
  go_enter Tryd.func42, Tryd.ntmps42
  go_wp2_with fail
  go_loopw [12] (fun i wr => OutRel w cs e i wr) (fun i _ => cs.length - (intOf i).toNat)
  case atStart => exact ⟨0, Nat.zero_le _, rfl, fun x y hx => by omega, HB0.out⟩
  case round =>
    obtain ⟨c, hc, rfl, hj, hB⟩ := hrel
    have HJ := Lib.hid hj
    have HB := Lib.hid hB
    by_cases hlt : c < cs.length
    · obtain ⟨Pf, q1, -⟩ := G1.out
      obtain ⟨b, o, rfl⟩ := Arr.head q1 hlt
      have cc := Arr.at (j := 0) (Arr.below q1 hB (fun _ b o hh => by injection hh with hh; injection hh with h1 _; rw [← h1]; exact Arr.lt q1 (by omega) (by simp))) hlt rfl
      obtain ⟨n, hn⟩ : ∃ n, n = (cs.getD c []).length := ⟨_, rfl⟩
      have hbig := H256.out _ (getD_mem [] hlt)
      rw [← hn] at hbig
      simp only [slV, ← hn, Nat.mul_one, Nat.add_zero] at cc
      have HN := Lib.hid hn
      have HCC := Lib.hid (fun (W' : World) (hb : Below w.heap.size w W') => Arr.at (j := 0) (Arr.below q1 hb (fun _ b o hh => by injection hh with hh; injection hh with h1 _; rw [← h1]; exact Arr.lt q1 (by omega) (by simp))) hlt rfl)
      clear q1 hn hj hB
      go_wp2_with fail
      go_loopw [19] (fun i wr => InRel w e c n i wr) (fun i _ => n - (intOf i).toNat)
      case atStart => exact ⟨0, Nat.zero_le _, rfl, fun y hy => by omega, HB.out⟩
      case round =>
        obtain ⟨k, hk, rfl, hj2, hB2⟩ := hrel
        have HJ2 := Lib.hid hj2
        have HB2 := Lib.hid hB2
        by_cases hlt2 : k < n
        · obtain ⟨x, hx⟩ : ∃ x, x = e (c, k) := ⟨_, rfl⟩
          have HC1 := Lib.hid (HC.out c k _ hlt (by rw [← HN.out]; exact hlt2) hB2)
          rw [← hx] at HC1
          have HX := Lib.hid hx
          clear hj2 hB2 hx cc
          by_cases h0 : x = 0
          · subst h0
            go_wp2_with fail
            refine HC1.out.mono ?_
            rintro e w1 ⟨rfl, hB⟩
            have HB1 := Lib.hid hB
            clear hB
            go_wp2_with fail
            go_roundw
            case rel => exact ⟨k + 1, by omega, by go_num, fun j hj => (by
                rcases Nat.lt_or_ge j k with h | h
                · exact HJ2.out j h
                · obtain rfl : j = k := by omega
                  exact HX.out.symm), below_two HB2.out HB1.out⟩
            case measure => simp [intOf]; omega
          · have hne : (x != 0) = true := by simpa using h0
            have H0 := Lib.hid h0
            clear h0
            go_wp2_with fail
            refine HC1.out.mono ?_
            rintro e w1 ⟨rfl, hB⟩
            have HB1 := Lib.hid hB
            clear hB
            go_wp2_with fail
            go_ret
            have hz : w.heap.size ≤ w1.heap.size := Nat.le_trans HB2.out.size HB1.out.size
            refine ⟨.inr ?_, below_two HB2.out (below_two HB1.out ((Below.refl _ _).alloc (Nat.le_refl _) _))⟩
            rw [first_place hlt (by rw [← HN.out]; exact hlt2) (fun x y hx hy hh => (by
              rcases hh with hh | ⟨rfl, hh⟩
              · exact HJ.out x y hh hy
              · exact HJ2.out y hh)) (by rw [← HX.out]; exact H0.out)]
            exact ⟨by rw [← HX.out]; exact H0.out, w1.heap.size, hz, rfl, by simp [placeN], by simp [← HX.out]⟩
        · have hk' : k = n := by omega
          subst hk'
          clear hj2 hB2 cc
          go_wp2_with fail
          go_roundw
          case rel => exact ⟨c + 1, by omega, by go_num, fun x y hx hy => (by
                rcases Nat.lt_or_ge x c with h | h
                · exact HJ.out x y h hy
                · obtain rfl : x = c := by omega
                  exact HJ2.out y (by rw [HN.out]; exact hy)), HB2.out⟩
          case measure => simp [intOf]; omega
    · have hk' : c = cs.length := by omega
      subst hk'
      clear hj hB
      go_wp2_with fail
      go_ret
      refine ⟨.inl ⟨?_, rfl⟩, HB.out⟩
      rw [firstP_none fun x hx => HJ.out x.1 x.2 (mem_places.1 hx).1 (mem_places.1 hx).2]
end Go.Proofs.YtmfelkdcoihkpaaDoor
