/-
  The walk of BlobPieces: what is read in any pieces are the bytes, as long as there are some.
-/
import Derived.Test.YtamcmkeoiomeiaaDoorCall
namespace Go.Proofs.YtamcmkeoiomeiaaDoor
open Go.RowKit
namespace blobPieces

/-- A slice of n bytes, of which number i is f i. -/
def Nums (w : World) (A : Option Addr) (n : Nat) (f : Nat → Int) : Prop :=
  ∀ i, i < n → ∃ b o, A = some ⟨b, o, none⟩ ∧ w.cell? ⟨b, o + i, none⟩ = some (.int .u8 (f i)) ∧ 0 ≤ f i ∧ f i ≤ 255
theorem Nums.keep {w w' : World} {A : Option Addr} {n : Nat} {f : Nat → Int} (h : Nums w A n f) (hb : Below w.heap.size w w') : Nums w' A n f := fun i hi => by
  obtain ⟨b, o, e, h1, h2⟩ := h i hi
  exact ⟨b, o, e, by rw [hb.cell (cell_lt' h1)]; exact h1, h2⟩

/-- What some numbers come to. -/
def sumI (f : Nat → Int) : Nat → Int
  | 0 => 0
  | k + 1 => sumI f k + f k

set_option maxHeartbeats 1000000 in
theorem total_any (A : Option Addr) (n c : Nat) (f : Nat → Int) (w : World) (hn : n ≤ 300) (h : Nums w A n f) :
    Calls Tryd.prog 19 #[.slice A n c] w fun e w' => e = .returned (.int .i64 (sumI f n)) ∧ w = w' := by
  have H := Lib.hid h
  clear h
  have hb : ∀ k, k ≤ n → 0 ≤ sumI f k ∧ sumI f k ≤ 255 * k := by
    intro k
    induction k with
    | zero => intro _; simp [sumI]
    | succ k ih =>
      intro hk
      have h1 := ih (by omega)
      obtain ⟨_, _, _, _, h2, h3⟩ := H.out k (by omega)
      simp only [sumI]
      omega
  have HB := Lib.hid hb
  clear hb
  go_enter Tryd.func19, Tryd.ntmps19
  go_wp2
  go_loop [3, 4] (fun t i => ∃ k : Nat, k ≤ n ∧ i = .int .i64 k ∧ t = .int .i64 (sumI f k)) (fun _ i => n - (intOf i).toNat)
  case atStart => exact ⟨0, by omega, rfl, rfl⟩
  case round =>
    obtain ⟨k, hk, rfl, rfl⟩ := hrel
    obtain ⟨b0, b1⟩ := HB.out k hk
    have HE : Hid (sumI f k + f k = sumI f (k + 1)) := rfl
    have hx0 : ∃ x, x = sumI f k := ⟨_, rfl⟩
    obtain ⟨x, hx⟩ := hx0
    rw [← hx] at b0 b1 HE ⊢
    have HX := Lib.hid hx
    clear hx
    by_cases hlt : k < n
    · obtain ⟨b, o, rfl, hc, h2, h3⟩ := H.out k hlt
      go_wp2
      go_round
      case rel => exact ⟨k + 1, hlt, by go_num, by rw [← HE.out]⟩
      case measure => simp [intOf]; omega
    · obtain rfl : k = n := by omega
      clear hlt hk
      go_wp2
      go_ret
      exact ⟨ret_i HX.out, rfl⟩

/-- What has been read. -/
def Rel (w : World) (g b cap : Nat) (s : ByteArray) (f : Nat → Int) (j : Nat) (got : ByteArray) (wr : World) : Prop :=
  ∃ k bad, Rd wr g b cap s k bad ∧ Below w.heap.size w wr ∧ got = s.extract 0 k ∧ (bad = false → (k : Int) = sumI f j)
theorem extract_size (s : ByteArray) {k : Nat} (h : k ≤ s.size) : (s.extract 0 k).size = k := by simp [ByteArray.size_extract]; omega
theorem extract_join (s : ByteArray) (k m : Nat) : s.extract 0 k ++ s.extract k (k + m) = s.extract 0 (k + m) := by
  apply ByteArray.ext
  apply Array.toList_inj.1
  rw [ByteArray.data_append, Array.toList_append, Lib.extract_data, Lib.extract_data, Lib.extract_data]
  simp only [Nat.sub_zero, List.drop_zero, Nat.add_sub_cancel_left]
  rw [← List.take_add]
theorem readS_size (s : ByteArray) (k : Nat) (bad : Bool) (n : Int) : (readS s k bad n).size ≤ s.size := by
  unfold readS
  split
  · exact Nat.zero_le _
  · rw [ByteArray.size_extract]; omega
theorem append_none (s : ByteArray) : s ++ (⟨#[]⟩ : ByteArray) = s := by
  apply ByteArray.ext
  rw [ByteArray.data_append]
  simp
theorem Rel.step {w w' : World} {g b cap j k : Nat} {s got : ByteArray} {f : Nat → Int} {bad : Bool} (hgot : got = s.extract 0 k) (hk : bad = false → (k : Int) = sumI f j) (hf : 0 ≤ f j)
    (hR : Rd w' g b cap s (nextAt s k bad (f j)) (lacks s k bad (f j))) (hB : Below w.heap.size w w') : Rel w g b cap s f (j + 1) (got ++ readS s k bad (f j)) w' := by
  refine ⟨_, _, hR, hB, ?_, ?_⟩
  · unfold readS nextAt
    split
    · rw [append_none]; exact hgot
    · rw [hgot, extract_join]
  · intro hl
    have hl' := hl
    obtain ⟨hb, _⟩ := lacks_no hl
    have := hk hb
    unfold nextAt
    rw [hl]
    simp only [sumI]
    simp
    omega

set_option maxHeartbeats 4000000 in
set_option maxRecDepth 100000 in
theorem walk (s : ByteArray) (A : Option Addr) (n c : Nat) (f : Nat → Int) (w : World) (hG : GOk w) (hs : s.size ≤ 140737488351232)
    (hn : n ≤ 9223372036854775807) (ha : Nums w A n f) :
    Calls Tryd.prog 4 #[.string s, .slice A n c] w fun e w' => e = .returned (.bool true) ∧ Below w.heap.size w w' := by
  have HG := Lib.hid hG
  have h0 := hG.lt
  have HS := Lib.hid hs
  have HA := Lib.hid ha
  have kc := conv_run s
  clear hG hs ha
  go_enter Tryd.func4, Tryd.ntmps4
  go_wp2_with fail
  refine (new_any ⟨w.heap.size, 0, none⟩ _ s _ (convW_at w s) (by have := HS.out; omega)).mono ?_
  rintro e w1 ⟨g, b, cap, rfl, hR, hg0, _, hB⟩
  have hg : w.heap.size ≤ g := by rw [convW_size] at hg0; omega
  have HR := Lib.hid hR
  have HB := Lib.hid ((convW_below w s).trans (hB.mono (by rw [convW_size]; omega)))
  clear hR hB hg0 kc
  go_wp2_with fail
  refine (awake_any w1 (HG.out.below HB.out h0)).mono ?_
  rintro e w2 ⟨rfl, hB⟩
  have HR2 := Lib.hid (HR.out.below hB)
  have HB2 := Lib.hid (HB.out.trans (hB.mono HB.out.size))
  clear hB HR HB
  go_wp2_with fail
  go_loopw [6, 7] (fun t i wr => ∃ (j : Nat) (got : ByteArray), Rel w g b cap s f j got wr ∧ j ≤ n ∧ i = .int .i64 j ∧ t = .string got) (fun _ i _ => n - (intOf i).toNat)
  case atStart => exact ⟨0, ⟨#[]⟩, ⟨0, false, HR2.out, HB2.out, by apply ByteArray.ext; apply Array.toList_inj.1; rw [Lib.extract_data]; simp, fun _ => rfl⟩, by omega, rfl, rfl⟩
  case round =>
    obtain ⟨j, got, ⟨k, bad, hR, hB, hgot, hsum⟩, hj, rfl, rfl⟩ := hrel
    have HR := Lib.hid hR
    have HB := Lib.hid hB
    have HT := Lib.hid hgot
    have HU := Lib.hid hsum
    clear hR hB HR2 HB2 hgot hsum
    by_cases hlt : j < n ∧ j < 300
    · obtain ⟨hl1, hl2⟩ := hlt
      obtain ⟨ab, ao, rfl, hc, hf0, hf1⟩ := (HA.out.keep HB.out) j hl1
      have hcat : ¬ (9223372036854775807 < got.size + (readS s k bad (f j)).size) := by
        have h1 := HS.out
        have h2 : got.size ≤ s.size := by rw [HT.out, extract_size s HR.out.le]; exact HR.out.le
        have h3 := readS_size s k bad (f j)
        omega
      go_wp2_with (go_at_call 18; refine (text_any HR.out _).mono ?_; rintro e w3 ⟨rfl, hR, hO⟩; have HR3 := Lib.hid hR; have HB3 := Lib.hid (below_only HB.out (Nat.le_refl _) hO hg); clear hR hO)
      go_roundw
      case rel => exact ⟨j + 1, _, Rel.step HT.out HU.out hf0 HR3.out HB3.out, hl1, by go_num, rfl⟩
      case measure => simp [intOf]; omega
    · have hex : (n ≤ j) ∨ (j < n ∧ 300 ≤ j) := by omega
      clear hlt
      have hgs : got.size = k := by rw [HT.out, extract_size s HR.out.le]
      have hks := HR.out.le
      have hq1 : ¬ s.size < k := by omega
      have hq2 : (!got.toList == (s.extract 0 k).toList) = false := by rw [HT.out]; simp
      cases bad
      · have hk : (k : Int) = sumI f j := HU.out rfl
        have HK := Lib.hid hk
        clear hk
        rcases hex with hge | ⟨hl1, hl2⟩
        · obtain rfl : j = n := by omega
          by_cases h300 : j ≤ 300
          · have hle : ¬ (300 < j) := by omega
            go_wp2_with (go_at_call 17; refine (at_any HR.out).mono ?_; rintro e w' ⟨rfl, rfl⟩)
            refine (err_ok HR.out).mono ?_
            rintro e w' ⟨rfl, rfl⟩
            go_wp2_with fail
            refine (total_any A j c f _ h300 (HA.out.keep HB.out)).mono ?_
            rintro e w' ⟨rfl, rfl⟩
            rw [← HK.out]
            go_wp2
            go_ret
            exact ⟨rfl, HB.out⟩
          · have hle : 300 < j := by omega
            go_wp2_with (go_at_call 17; refine (at_any HR.out).mono ?_; rintro e w' ⟨rfl, rfl⟩)
            refine (err_ok HR.out).mono ?_
            rintro e w' ⟨rfl, rfl⟩
            go_wp2
            go_ret
            exact ⟨rfl, HB.out⟩
        · have hle : 300 < n := by omega
          go_wp2_with (go_at_call 17; refine (at_any HR.out).mono ?_; rintro e w' ⟨rfl, rfl⟩)
          refine (err_ok HR.out).mono ?_
          rintro e w' ⟨rfl, rfl⟩
          go_wp2
          go_ret
          exact ⟨rfl, HB.out⟩
      · rcases hex with hge | ⟨hl1, hl2⟩
        all_goals
          go_wp2_with (go_at_call 17; refine (at_any HR.out).mono ?_; rintro e w' ⟨rfl, rfl⟩)
          refine (err_told HR.out).mono ?_
          rintro e w3 ⟨q, rfl, _, _, hB⟩
          have HB3 := Lib.hid (HB.out.trans (hB.mono HB.out.size))
          clear hB
          go_wp2
          go_ret
          exact ⟨rfl, HB3.out⟩
end blobPieces
end Go.Proofs.YtamcmkeoiomeiaaDoor
