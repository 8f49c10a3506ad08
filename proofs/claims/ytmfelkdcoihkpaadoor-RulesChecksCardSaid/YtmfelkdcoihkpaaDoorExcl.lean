/-
  What is wrong with a pair.
-/
import Derived.Test.YtmfelkdcoihkpaaDoorSrv
import Derived.Test.YtmfelkdcoihkpaaDoorClash
import Derived.RegionTactic
import Derived.BigRegion
import Derived.Deep.RegionLaw
namespace Go.Proofs.YtmfelkdcoihkpaaDoor
open Go.RowKit

theorem SemsAt.take {w : World} {A : Option Addr} {ws : List SemA} (h : SemsAt w A ws) (i : Nat) : SemsAt w A (ws.take i) := by
  intro j hj
  rw [List.length_take] at hj
  obtain ⟨b, o, e, hc⟩ := h j (by omega)
  refine ⟨b, o, e, fun k u hu => hc k u ?_⟩
  have : (ws.take i).getD j dS = ws.getD j dS := by
    simp only [List.getD_eq_getElem?_getD, List.getElem?_take]
    rw [if_pos (by omega)]
  dsimp only at hu ⊢
  rw [this] at hu
  exact hu
theorem SrvAt.keep {W w2 : World} {G n : Nat} {cs : List (List WinA)} (h : SrvAt W G n cs) (hB : Below W.heap.size W w2) : SrvAt w2 G n cs := by
  obtain ⟨Pf, hp⟩ := h
  exact ⟨Pf, fun p hn => ⟨kept (hp p hn).1 hB, Arr.keep (hp p hn).2 hB⟩⟩
theorem served_wf {cs : List (List WinA)} (h : ∀ ws ∈ cs, ∀ w ∈ ws, WfWin w) (p : Int) : ∀ x ∈ servedS cs p, WfWin x := fun x hx => by
  obtain ⟨h1, _⟩ := List.mem_filter.1 hx
  obtain ⟨ws, hw, hx⟩ := List.mem_flatten.1 h1
  exact h ws hw x hx
theorem served_len {cs : List (List WinA)} (h8 : cs.length ≤ 8) (h : ∀ ws ∈ cs, ws.length ≤ 256) (p : Int) : (servedS cs p).length ≤ 2048 := by
  have h1 : (servedS cs p).length ≤ cs.flatten.length := List.length_filter_le _ _
  have h2 : cs.flatten.length ≤ 256 * cs.length := by
    clear h1 h8
    induction cs with
    | nil => simp
    | cons x r ih =>
      rw [List.flatten_cons, List.length_append, List.length_cons, Nat.mul_add]
      have h1 := h x List.mem_cons_self
      have h2 := ih fun y hy => h y (List.mem_cons_of_mem _ hy)
      omega
  omega

/-- What is wrong with a pair, told by itself. -/
def exE (n : Nat) (cs : List (List WinA)) (x : PairA) (bf : Bool) : Int :=
  if x.2 ≤ x.1 ∨ (n : Int) ≤ x.2 ∨ bf = true then 48 else if clashB (servedS cs x.1) (servedS cs x.2) then 49 else 0

set_option maxHeartbeats 8000000 in
set_option maxRecDepth 100000 in
theorem excluding_any (cs : List (List WinA)) (n : Nat) (A : Option Addr) (cap i G : Nat) (rs : List PairA) (w : World) (hA : SemsAt w A rs) (hS : SrvAt w G n cs) (hi : i < rs.length) (hcap : i + 1 ≤ cap) (_ : n ≤ 64) (hlen : rs.length ≤ 140737488355328)
    (hwp : WfPair (rs.getD i dS)) (hwf : ∀ ws ∈ cs, ∀ w ∈ ws, WfWin w) (h8 : cs.length ≤ 8) (h256 : ∀ ws ∈ cs, ws.length ≤ 256) :
    Calls Tryd.prog 51 #[.slice A (i + 1) cap, .slice (some ⟨G, 0, none⟩) n n] w fun e w' => e = .returned (.int .i64 (exE n cs (rs.getD i dS) (decide (rs.getD i dS ∈ rs.take i)))) ∧ Below w.heap.size w w' := by
  obtain ⟨b4, o4, rfl⟩ := Arr.head hA hi
  have d0 := Arr.at (j := 0) hA hi rfl
  have d1 := Arr.at (j := 1) hA hi rfl
  obtain ⟨⟨x0, x1⟩, hx⟩ : ∃ x, x = rs.getD i dS := ⟨_, rfl⟩
  simp only [← hx, Nat.add_zero] at d0 d1
  rw [← hx] at hwp ⊢
  obtain ⟨⟨xa, xb⟩, ⟨ya, yb⟩⟩ := hwp
  dsimp only at xa xb ya yb
  obtain ⟨a, rfl⟩ := Int.eq_ofNat_of_zero_le xa
  obtain ⟨b, rfl⟩ := Int.eq_ofNat_of_zero_le ya
  have hz : Below w.heap.size w (w.alloc (.cells #[.int .u8 0, .int .u8 0] 45)) := (Below.refl _ _).alloc (Nat.le_refl _) _
  have e0 := kept d0 hz
  have e1 := kept d1 hz
  obtain ⟨bf, hbf⟩ : ∃ bf, bf = decide (((a : Int), (b : Int)) ∈ rs.take i) := ⟨_, rfl⟩
  rw [← hbf]
  have hlt : (rs.take i).length = i := by rw [List.length_take]; omega
  have HCP : Hid (∀ W, Below w.heap.size w W → Calls Tryd.prog 67 #[.slice (some ⟨b4, o4, none⟩) i cap, .agg #[.int .u8 (a : Int), .int .u8 (b : Int)]] W fun e w' => e = .returned (.bool bf) ∧ Below W.heap.size W w') := fun W hB => by
    have := contains_pair (some ⟨b4, o4, none⟩) cap (rs.take i) ((a : Int), (b : Int)) W (Arr.keep (SemsAt.take hA i) hB) (by rw [hlt]; omega)
    rw [hlt, ← hbf] at this
    exact this
  have hW1 : Below w.heap.size w (w.alloc (.cells #[.int .u8 (a : Int), .int .u8 (b : Int)] 45)).drew := ((Below.refl _ _).alloc (Nat.le_refl _) _).drew
  have HS := Lib.hid hS
  have HW1 := Lib.hid hW1
  have HWF := Lib.hid hwf
  have H256 := Lib.hid h256
  have ee : IntKind.i64.wrap (((i + 1 : Nat) : Int) - 1) = i := by rw [IntWalk.i64_in _ (by omega)]; omega
  have e9 : ((i + 1 : Nat) : Int) - 1 = i := by omega
  clear hA hS hx hz hbf hlt hW1 hwf h256
  by_cases h1 : (b : Int) ≤ (a : Int)
  · go_enter Tryd.func51, Tryd.ntmps51
    go_wp2_with fail
    go_region
    go_wp2_with fail
    go_ret
    exact ⟨ret_i (by unfold exE; rw [if_pos (.inl h1)]), HW1.out⟩
  · by_cases h2 : (n : Int) ≤ (b : Int)
    · go_enter Tryd.func51, Tryd.ntmps51
      go_wp2_with fail
      go_region
      go_wp2_with fail
      go_ret
      exact ⟨ret_i (by unfold exE; rw [if_pos (.inr (.inl h2))]), HW1.out⟩
    · cases bf
      · have hE : exE n cs ((a : Int), (b : Int)) false = if clashB (servedS cs a) (servedS cs b) then 49 else 0 := by
          unfold exE
          rw [if_neg (by dsimp only; simp; omega)]
        rw [hE]
        obtain ⟨q, hq⟩ : ∃ q, q = clashB (servedS cs a) (servedS cs b) := ⟨_, rfl⟩
        rw [← hq]
        have HQ := Lib.hid hq
        clear hE hq
        go_enter Tryd.func51, Tryd.ntmps51
        go_wp2_with fail
        go_region
        go_wp2_with fail
        refine (HCP.out _ HW1.out).mono ?_
        rintro e w2 ⟨rfl, hB⟩
        obtain ⟨Pf, hp⟩ := HS.out.keep (below_two HW1.out hB)
        obtain ⟨k1, k2⟩ := hp a (by omega)
        obtain ⟨k3, k4⟩ := hp b (by omega)
        have l1 := served_len h8 H256.out (a : Int)
        have l2 := served_len h8 H256.out (b : Int)
        have b0 : w2.cell? ⟨w.heap.size, 0, none⟩ = some (.int .u8 (a : Int)) := kept (by simp) hB
        have b1 : w2.cell? ⟨w.heap.size, 1, none⟩ = some (.int .u8 (b : Int)) := kept (by simp) hB
        have HCL : Hid (∀ W', Below w2.heap.size w2 W' → Calls Tryd.prog 68 #[.slice (Pf a).1 (servedS cs a).length (Pf a).2, .slice (Pf b).1 (servedS cs b).length (Pf b).2] W' fun e w' => e = .returned (.bool (clashB (servedS cs a) (servedS cs b))) ∧ Below W'.heap.size W' w') := fun W' hB' =>
          clash_any _ _ _ _ _ _ W' (Arr.keep k2 hB') (Arr.keep k4 hB') (served_wf HWF.out _) (served_wf HWF.out _) (by omega) (by omega)
        have HB2 := Lib.hid hB
        simp only [slV] at k1 k3
        rw [← HQ.out] at HCL
        obtain ⟨m1, hm1⟩ : ∃ m1, m1 = (servedS cs a).length := ⟨_, rfl⟩
        obtain ⟨m2, hm2⟩ : ∃ m1, m1 = (servedS cs b).length := ⟨_, rfl⟩
        rw [← hm1] at k1 HCL l1
        rw [← hm2] at k3 HCL l2
        have p1 : (a : Int) < n := by omega
        have p2 : (b : Int) < n := by omega
        clear hp k2 k4 hB hm1 hm2 d0 d1 e0 e1
        go_wp2_with fail
        go_region_law ((
          first
          | (go_simp
             go_at_call 68
             refine (HCL.out _ (by repeat (first | exact Below.refl _ _ | refine Below.drew ?_))).mono ?_
             rintro e w3 ⟨rfl, hB⟩
             have HB3 := Lib.hid hB
             clear hB)
          | (go_simp
             go_at_call 40
             refine (unless_any _ _ _).mono ?_
             rintro e w4 ⟨rfl, rfl⟩)))
        all_goals
          go_wp2_with fail
          all_goals
            go_ret
            exact ⟨ret_i (by first | rfl | (cases q <;> simp_all)), below_two HW1.out (below_two HB2.out (below_two ((Below.refl _ _).drew) HB3.out))⟩
      · go_enter Tryd.func51, Tryd.ntmps51
        go_wp2_with fail
        go_region
        go_wp2_with fail
        refine (HCP.out _ HW1.out).mono ?_
        rintro e w2 ⟨rfl, hB⟩
        have HB2 := Lib.hid hB
        clear hB
        go_wp2_with fail
        go_ret
        exact ⟨ret_i (by unfold exE; rw [if_pos (.inr (.inr rfl))]), below_two HW1.out HB2.out⟩
end Go.Proofs.YtmfelkdcoihkpaaDoor
