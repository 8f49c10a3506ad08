/-
  A new writer.
-/
import Derived.Test.YtoaaeamogpdcgaaDoorCtor
namespace Go.Proofs.YtoaaeamogpdcgaaDoor
open Go.RowKit

/-- Whether a version may stand behind the first one. -/
def okV (F : Nat → Ver) (i : Nat) : Prop := (1 ≤ (F 0).n ∧ (F 0).n ≤ 32) ∧ (F i).n = (F 0).n
/-- A new writer. -/
def wr0 (at' : Int) (n L : Nat) (V : Nat → Int) : Wr := ⟨⟨at', n, 0, 0⟩, L, V, 0⟩
def wrN (V : Nat → Int) : Wr := ⟨⟨0, 0, 3, 0⟩, 0, V, 0⟩
theorem writer_new (at' : Int) (n L : Nat) (V : Nat → Int) (w : World) (G cap : Nat) (h1 : 1 ≤ n) (h2 : n ≤ 32) (hL : 1 ≤ L) (hm : L * n ≤ 2000000) (ha : -1000 ≤ at' ∧ at' ≤ 1000) (hU : Us w (some ⟨G, 0, none⟩) (L * n) V) (hG : G < w.heap.size) (c : Array Value)
    (hc : c = #[.int .i64 at', .int .i64 n, .int .i64 0, .int .i64 0, .slice (some ⟨G, 0, none⟩) (L * n) cap, .int .i64 0]) :
    WriterAt (w.alloc (.cells c 73)) w.heap.size 0 (some ⟨G, 0, none⟩) cap (wr0 at' n L V) := by
  subst hc
  refine ⟨⟨al_new _ _ _ _ _ rfl rfl, al_new _ _ _ _ _ rfl rfl, al_new _ _ _ _ _ rfl rfl, al_new _ _ _ _ _ rfl rfl, fun j => frozen_new _ _ _ _, ha, h2, ?_⟩, al_new _ _ _ _ _ rfl rfl, al_new _ _ _ _ _ rfl rfl, hU.keep ((Below.refl _ _).alloc (Nat.le_refl _) _), ?_, fun b o e => ?_⟩
  · exact ⟨by show 0 < 32; omega, by show 0 ≤ 4; omega, fun _ => ⟨by show 0 < n; omega, fun _ => rfl⟩⟩
  · exact ⟨fun _ => by show 0 < L; omega, Nat.zero_le _, by show L * n ≤ _; omega⟩
  · injection e with e; injection e with e1; omega
theorem writer_nil (V : Nat → Int) (w : World) (c : Array Value) (hc : c = #[.int .i64 0, .int .i64 0, .int .i64 3, .int .i64 0, .slice none 0 0, .int .i64 0]) :
    WriterAt (w.alloc (.cells c 73)) w.heap.size 3 none 0 (wrN V) := by
  subst hc
  refine ⟨⟨al_new _ _ _ _ _ rfl rfl, al_new _ _ _ _ _ rfl rfl, al_new _ _ _ _ _ rfl rfl, al_new _ _ _ _ _ rfl rfl, fun j => frozen_new _ _ _ _, by show (-1000 : Int) ≤ 0 ∧ (0 : Int) ≤ 1000; omega, by show 0 ≤ 32; omega, ?_⟩, al_new _ _ _ _ _ rfl rfl, al_new _ _ _ _ _ rfl rfl, fun i hi => absurd hi (by show ¬ i < 0 * 0; omega), ?_, fun b o e => by cases e⟩
  · exact ⟨by show 0 < 32; omega, by show 3 ≤ 4; omega, fun h => absurd h (by show ¬ 3 < 3; omega)⟩
  · exact ⟨fun h => absurd h (by show ¬ 3 < 3; omega), Nat.le_refl _, by show 0 * 0 ≤ _; omega⟩
set_option maxHeartbeats 4000000 in
set_option maxRecDepth 100000 in
theorem neww_nil (at' : Int) (A : Option Addr) (ca : Nat) (V : Nat → Int) (w : World) :
    Calls Tryd.prog 11 #[.int .i64 at', .slice A 0 ca] w fun e w' => e = .returned (.tuple #[.pointer (some ⟨w.heap.size, 0, none⟩), .int .i64 0]) ∧ WriterAt w' w.heap.size 3 none 0 (wrN V) ∧ Below w.heap.size w w' ∧ w'.heap.size = w.heap.size + 1 := by
  go_enter Tryd.func11, Tryd.ntmps11
  go_wp2_with fail
  go_ret2
  exact ⟨rfl, writer_nil V _ _ rfl, (Below.refl _ _).alloc (Nat.le_refl _) _, by simp⟩
/-- What a new writer is, or why there is none. -/
def NewQ (at' : Int) (L : Nat) (F : Nat → Ver) (w : World) (e : Ending) (w' : World) : Prop :=
  Below w.heap.size w w' ∧
    (((∀ i, i < L → okV F i) ∧ ∃ B G cap, e = .returned (.tuple #[.pointer (some ⟨B, 0, none⟩), .int .i64 0]) ∧ w.heap.size ≤ B ∧ w.heap.size ≤ G ∧ G < B ∧ B < w'.heap.size ∧ WriterAt w' B 0 (some ⟨G, 0, none⟩) cap (wr0 at' (F 0).n L (flatV (F 0).n F))) ∨
     ((∃ i, i < L ∧ ¬ okV F i) ∧ e = .returned (.tuple #[.pointer none, .int .i64 100])))
set_option maxHeartbeats 4000000 in
set_option maxRecDepth 100000 in
theorem neww_any (at' : Int) (A : Option Addr) (L ca : Nat) (F : Nat → Ver) (w : World) (hV : VersN w.heap.size w A L F) (hL : 1 ≤ L) (hm : (∀ i, i < L → okV F i) → L * (F 0).n ≤ 2000000) (hL2 : L ≤ 2000000) (ha : -1000 ≤ at' ∧ at' ≤ 1000) :
    Calls Tryd.prog 11 #[.int .i64 at', .slice A L ca] w fun e w' => NewQ at' L F w e w' := by
  obtain ⟨b, o, rfl⟩ := hV.head (i := 0) (by omega)
  have HV := Lib.hid hV
  have c0 := hV.cell (i := 0) (by omega)
  rw [Nat.add_zero] at c0
  have HM := Lib.hid hm
  have HL := Lib.hid hL
  have hLn : ((L : Int) == 0) = false := beq_false_of_ne (by omega)
  have hLp : (0 : Int) < L := by omega
  have HAA := Lib.hid ha
  have HF := Lib.hid (fun W x => Lib.hid ((fits_any x W).mono (R' := fun e w' => e = .returned (.bool (fitB x)) ∧ W = w') fun _ _ h => ⟨h.1, h.2.symm⟩))
  clear hV hm hL ha
  go_enter Tryd.func11, Tryd.ntmps11
  go_wp2_with fail
  go_loop [21] (fun i => ∃ k : Nat, k ≤ L ∧ i = .int .i64 k ∧ ∀ j, j < k → okV F j) (fun i => L - (intOf i).toNat)
  case atStart => exact ⟨0, by omega, rfl, fun j hj => absurd hj (by omega)⟩
  case round =>
    obtain ⟨k, hk, rfl, hok⟩ := hrel
    have HOK := Lib.hid hok
    clear hok
    by_cases hlt : k < L
    · have c1 := HV.out.cell hlt
      go_wp2_with fail
      with_reducible refine (HF.out _ _).out.mono ?_
      rintro e w1 ⟨rfl, rfl⟩
      by_cases h1 : 1 ≤ ((F 0).n : Int) ∧ ((F 0).n : Int) ≤ 32
      · rw [fitB_yes h1]
        have HH1 := Lib.hid h1
        clear h1
        by_cases h2 : (F k).n = (F 0).n
        · have h2' : ((F k).n : Int) = (F 0).n := by omega
          have HH2 := Lib.hid h2
          clear h2
          go_wp2_with fail
          go_round
          case rel => exact ⟨k + 1, hlt, by go_num, fun j hj => by
            rcases Nat.lt_or_ge j k with h | h
            · exact HOK.out j h
            · obtain rfl : j = k := by omega
              exact ⟨by have := HH1.out; omega, HH2.out⟩⟩
          case measure => simp [intOf]; omega
        · have h2' : ((F k).n : Int) ≠ (F 0).n := by omega
          have HH2 := Lib.hid h2
          clear h2
          go_wp2_with fail
          go_ret2
          exact ⟨Below.refl _ _, .inr ⟨⟨k, hlt, fun h => HH2.out h.2⟩, rfl⟩⟩
      · rw [fitB_no h1]
        have HH1 := Lib.hid h1
        clear h1
        go_wp2_with fail
        go_ret2
        exact ⟨Below.refl _ _, .inr ⟨⟨k, hlt, fun h => HH1.out (by have := h.1; omega)⟩, rfl⟩⟩
    · obtain rfl : k = L := by omega
      have hok0 := HOK.out 0 HL.out
      have HC := Lib.hid (concat_any (some ⟨b, o, none⟩) k ca (F 0).n F _ HV.out (fun i hi => (HOK.out i hi).2) hok0.1.1 HL.out (HM.out HOK.out))
      have HO0 := Lib.hid hok0
      clear hok0
      go_wp2_with fail
      with_reducible refine HC.out.mono ?_
      rintro e w1 ⟨G, cap, rfl, hG1, hG2, hU, hB⟩
      have HU := Lib.hid hU
      have HB := Lib.hid hB
      have HG := Lib.hid (And.intro hG1 hG2)
      obtain ⟨N, hN⟩ : ∃ N, N = k * (F 0).n := ⟨_, rfl⟩
      rw [← hN]
      have HN := Lib.hid hN
      clear hU hB hG1 hG2 hN
      go_wp2_with fail
      go_ret2
      refine ⟨HB.out.alloc HB.out.size _, .inl ⟨HOK.out, w1.heap.size, G, cap, rfl, HB.out.size, HG.out.1, HG.out.2, by simp, ?_⟩⟩
      exact writer_new at' (F 0).n k _ w1 G cap HO0.out.1.1 HO0.out.1.2 HL.out (HM.out HOK.out) HAA.out HU.out HG.out.2 _ (by rw [HN.out])
end Go.Proofs.YtoaaeamogpdcgaaDoor
