/-
  The walk of BlobNumbers: numbers that are put behind one another are read again; what stands behind them is told.
-/
import Derived.Test.YtamcmkeoiomeiaaDoorCall
import Derived.Lib.AppendStr
import Derived.Deep.RegionWith
import Derived.Laws.Closers25b
namespace Go.Proofs.YtamcmkeoiomeiaaDoor
open Go.RowKit
namespace blobNumbers

/-- The bytes of the first k numbers. -/
def numsB (f : Nat → Int) : Nat → ByteArray
  | 0 => ⟨#[]⟩
  | k + 1 => numsB f k ++ twoB (f k)
theorem size_append (a b : ByteArray) : (a ++ b).size = a.size + b.size := ByteArray.size_append
theorem numsB_size (f : Nat → Int) (k : Nat) : (numsB f k).size = 2 * k := by
  induction k with
  | zero => rfl
  | succ k ih =>
    show (numsB f k ++ twoB (f k)).size = _
    rw [size_append, ih, twoB_size]
    omega
theorem cellsOf_append (a b : ByteArray) : cellsOf (a ++ b) = cellsOf a ++ cellsOf b := by
  unfold cellsOf
  rw [ByteArray.data_append, Array.toList_append, List.map_append]
theorem byteI_right (a b : ByteArray) (i : Nat) : byteI (a ++ b) (a.size + i) = byteI b i := by
  unfold byteI
  rw [ByteArray.data_append, Array.toList_append, Lib.size_eq, List.getD_eq_getElem?_getD, List.getElem?_append_right (by omega), Nat.add_sub_cancel_left, ← List.getD_eq_getElem?_getD]
theorem byteI_two0 {n : Int} (h0 : 0 ≤ n) (h1 : n < 65536) (u : ByteArray) : byteI (twoB n ++ u) 0 = n / 256 := by
  have a : ((n / 256).toNat % 256 : Nat) = (n / 256).toNat := Nat.mod_eq_of_lt (by omega)
  unfold byteI twoB
  rw [ByteArray.data_append, Array.toList_append]
  simp [a]
  omega
theorem byteI_two1 {n : Int} (u : ByteArray) : byteI (twoB n ++ u) 1 = n % 256 := by
  have a : ((n % 256).toNat % 256 : Nat) = (n % 256).toNat := Nat.mod_eq_of_lt (by omega)
  unfold byteI twoB
  rw [ByteArray.data_append, Array.toList_append]
  simp [a]
  omega
theorem app_assoc (a b c : ByteArray) : a ++ b ++ c = a ++ (b ++ c) := by
  apply ByteArray.ext
  simp [ByteArray.data_append, Array.append_assoc]
theorem number_at (f : Nat → Int) {n j : Nat} (u : ByteArray) (hj : j < n) (h0 : 0 ≤ f j) (h1 : f j < 65536) :
    byteI (numsB f n ++ u) (2 * j) * 256 + byteI (numsB f n ++ u) (2 * j + 1) = f j := by
  induction n generalizing u with
  | zero => omega
  | succ n ih =>
    have e : numsB f (n + 1) ++ u = numsB f n ++ (twoB (f n) ++ u) := app_assoc _ _ _
    rw [e]
    by_cases h : j < n
    · exact ih _ h
    · obtain rfl : j = n := by omega
      have a := byteI_right (numsB f j) (twoB (f j) ++ u) 0
      have b := byteI_right (numsB f j) (twoB (f j) ++ u) 1
      rw [numsB_size] at a b
      rw [Nat.add_zero] at a
      rw [a, b, byteI_two0 h0 h1, byteI_two1]
      omega
theorem rest_at (f : Nat → Int) (n : Nat) (u : ByteArray) : (numsB f n ++ u).extract (2 * n) (2 * n + u.size) = u := by
  apply ByteArray.ext
  apply Array.toList_inj.1
  rw [Lib.extract_data, ByteArray.data_append, Array.toList_append]
  have h : (numsB f n).data.toList.length = 2 * n := by rw [← Lib.size_eq, numsB_size]
  rw [← h, List.drop_left, Nat.add_sub_cancel_left, Lib.size_eq, List.take_length]

/-- A slice of n numbers, of which number i is f i. -/
def Nums (w : World) (A : Option Addr) (n : Nat) (f : Nat → Int) : Prop :=
  ∀ i, i < n → ∃ b o, A = some ⟨b, o, none⟩ ∧ w.cell? ⟨b, o + i, none⟩ = some (.int .u16 (f i)) ∧ 0 ≤ f i ∧ f i < 65536
theorem Nums.keep {w w' : World} {A : Option Addr} {n : Nat} {f : Nat → Int} (h : Nums w A n f) (hb : Below w.heap.size w w') : Nums w' A n f := fun i hi => by
  obtain ⟨b, o, e, h1, h2⟩ := h i hi
  exact ⟨b, o, e, by rw [hb.cell (cell_lt' h1)]; exact h1, h2⟩
theorem Nums.num {w : World} {b o n : Nat} {f : Nat → Int} (h : Nums w (some ⟨b, o, none⟩) n f) {i : Nat} (hi : i < n) : w.cell? ⟨b, o + i, none⟩ = some (.int .u16 (f i)) := by
  obtain ⟨b', o', e, h2, _⟩ := h i hi
  injection e with e
  injection e with e1 e2
  rw [e1, e2]
  exact h2

/-- What the first loop knows. -/
def Rel1 (w : World) (f : Nat → Int) (j g cp : Nat) (wr : World) : Prop :=
  wr.ownsRow w.heap.size 5 1 (.slice (some ⟨g, 0, none⟩) (2 * j) cp) (2 * j) (cellsOf (numsB f j)) ∧ Below w.heap.size w wr
theorem Rel1.at_ {w wr : World} {f : Nat → Int} {j g cp : Nat} (h : Rel1 w f j g cp wr) : At wr ⟨g, 0, none⟩ (numsB f j) := by
  refine At.of_cells fun i hi => ?_
  have hi' : i < (cellsOf (numsB f j)).length := by rw [cellsOf_length]; exact hi
  rw [List.getElem?_eq_getElem hi']
  exact World.ownsRow.cells h.1 (g := g) rfl i _ (List.getElem?_eq_getElem hi')

/-- What the second loop knows. -/
def Rel2 (w : World) (g b cap : Nat) (t : ByteArray) (k : Nat) (wr : World) : Prop := Rd wr g b cap t (2 * k) false ∧ Below w.heap.size w wr

/-- What two more bytes make of it. -/
theorem two_step {w wr : World} {f : Nat → Int} {j g cp : Nat} (h : Rel1 w f j g cp wr) (hj : 2 * j ≤ 90000) (h0 : 0 ≤ f j) (h1 : f j < 65536) :
    Calls Tryd.prog 20 #[.slice (some ⟨g, 0, none⟩) (2 * j) cp, .int .u16 (f j)] wr fun e w' => ∃ g' cp', e = .returned (.slice (some ⟨g', 0, none⟩) (2 * (j + 1)) cp') ∧ Rel1 w f (j + 1) g' cp' w' := by
  have hc := two_any ⟨g, 0, none⟩ cp (numsB f j) (f j) wr h.at_ (by rw [numsB_size]; exact hj) h0 h1
  rw [numsB_size] at hc
  refine hc.mono ?_
  rintro e w' ⟨v, he, hO, hv, hB⟩
  rcases hO.2 with ⟨hn, _⟩ | ⟨g', cap, cur, rfl, hg, r⟩
  · exact absurd hn hv
  · have e2 : 2 * (j + 1) = 2 * j + 2 := by omega
    rw [e2]
    refine ⟨g', cap, he, ?_, h.2.trans (hB.mono h.2.size)⟩
    have e3 : cellsOf (numsB f (j + 1)) = cellsOf (numsB f j) ++ [.int .u8 (f j / 256), .int .u8 (f j % 256)] := by
      show cellsOf (numsB f j ++ twoB (f j)) = _
      rw [cellsOf_append, twoB_cells h0 h1]
    rw [e2, e3]
    exact ⟨hO.1, .inr ⟨g', cap, cur, rfl, Nat.le_trans h.2.size hg, r⟩⟩

theorem empty_yes {s : ByteArray} (h : s.size = 0) : s.toList.isEmpty = true := by
  have e : s = ByteArray.empty := by
    apply ByteArray.ext
    exact Array.eq_empty_of_size_eq_zero h
  rw [(toList_nil_iff_emptyBytes s).2 e]
  rfl
theorem empty_no {s : ByteArray} (h : ¬ s.size = 0) : s.toList.isEmpty = false := by
  cases hl : s.toList with
  | nil => exact absurd (by rw [(toList_nil_iff_emptyBytes s).1 hl]; rfl) h
  | cons a l => rfl

set_option maxHeartbeats 1000000 in
theorem walk_long (A : Option Addr) (n c : Nat) (tail : ByteArray) (w : World) (hG : GOk w) (hn : 500 < n) (hn2 : n ≤ 9223372036854775807) :
    Calls Tryd.prog 5 #[.slice A n c, .string tail] w fun e w' => e = .returned (.bool true) ∧ Below w.heap.size w w' := by
  have HG := Lib.hid hG
  clear hG
  go_enter Tryd.func5, Tryd.ntmps5
  go_wp2_with fail
  refine (awake_any w HG.out).mono ?_
  rintro e w2 ⟨rfl, hB⟩
  have HB := Lib.hid hB
  clear hB
  go_wp2
  go_ret
  exact ⟨rfl, HB.out⟩

set_option maxHeartbeats 4000000 in
set_option maxRecDepth 100000 in
theorem walk_short (A : Option Addr) (n c : Nat) (f : Nat → Int) (tail : ByteArray) (w : World) (hG : GOk w) (hn : n ≤ 500) (ha : Nums w A n f) (hs : tail.size ≤ 140737488351232) :
    Calls Tryd.prog 5 #[.slice A n c, .string tail] w fun e w' => e = .returned (.bool true) ∧ Below w.heap.size w w' := by
  obtain ⟨i0, hi, hz0, hz1, hz2⟩ := info_parts info5
  have HG := Lib.hid hG
  have h0 := hG.lt
  have HS := Lib.hid hs
  have HA := Lib.hid ha
  have HL := Lib.hid (ownB_lit w)
  clear hG hs ha
  go_enter Tryd.func5, Tryd.ntmps5
  go_wp2_with fail
  go_loopw [5, 6] (fun b i wr => ∃ j g cp : Nat, Rel1 w f j g cp wr ∧ j ≤ n ∧ i = .int .i64 j ∧ b = .slice (some ⟨g, 0, none⟩) (2 * j) cp) (fun _ i _ => n - (intOf i).toNat)
  case atStart => exact ⟨0, w.heap.size, 0, ⟨HL.out, (Below.refl _ _).alloc (Nat.le_refl _) _⟩, by omega, rfl, rfl⟩
  case round =>
    obtain ⟨j, g, cp, hrel1, hj, rfl, rfl⟩ := hrel
    have HR := Lib.hid hrel1
    clear hrel1 HL
    by_cases hlt : j < n
    · obtain ⟨ab, ao, rfl, hc, hf0, hf1⟩ := (HA.out.keep HR.out.2) j hlt
      go_wp2_with (go_at_call 20; refine (two_step HR.out (by omega) hf0 hf1).mono ?_; rintro e w3 ⟨g', cp', rfl, hR⟩; have HR3 := Lib.hid hR; clear hR)
      go_roundw
      case rel => exact ⟨j + 1, g', cp', HR3.out, hlt, by go_num, rfl⟩
      case measure => simp [intOf]; omega
    · obtain rfl : j = n := by omega
      clear hlt hj
      have hown := HR.out.1
      have HB := Lib.hid HR.out.2
      have hsz := HB.out.size
      go_wp2_with (at_builtin; refine Lib.wpList_append_own_string _ rfl _ _ 23 9 rfl w.heap.size 5 i0 Tryd.underlying23 Tryd.underlying9 hi hz0 hz1 hz2 _ (2 * j) _ rfl hown tail rfl ?c1 ?c2 ?c3 ?_)
      case c1 => have := HS.out; unfold maxLen; omega
      case c2 => have := HS.out; omega
      case c3 => exact hsz
      intro v2 w2 hown2 hg2 hnil2
      have hnn : v2 ≠ .slice none 0 0 := by first | exact hnil2 | (intro e; exact absurd (hnil2.1 e).1 (by simp))
      have hB2 : Below w.heap.size w w2 := HB.out.grown hg2 hsz (fun k hk => (World.ownsRow.lt hown k hk).1)
      have htz : (numsB f j ++ tail).size = 2 * j + tail.size := by rw [size_append, numsB_size]
      have hO : OwnB w2 w.heap.size v2 (numsB f j ++ tail) := by
        unfold OwnB
        rw [htz, cellsOf_append]
        exact hown2
      obtain ⟨g2, c2, rfl, _, _, _, _⟩ := hO.form hnn
      rw [htz] at hO
      have hat : At w2 ⟨g2, 0, none⟩ (numsB f j ++ tail) := by
        refine At.of_bytes (OwnB.bytes (base := w.heap.size) (c := c2) ?_)
        rw [htz]
        exact hO
      have hnew := new_any ⟨g2, 0, none⟩ c2 (numsB f j ++ tail) w2 hat (by rw [htz]; have := HS.out; omega)
      rw [htz] at hnew ⊢
      have HNW := Lib.hid hnew
      have HB2 := Lib.hid hB2
      have HTZ := Lib.hid htz
      have HNUM : Hid (∀ i, i < j → 0 ≤ f i → f i < 65536 → byteI (numsB f j ++ tail) (2 * i) * 256 + byteI (numsB f j ++ tail) (2 * i + 1) = f i) := fun i hi a b => number_at f tail hi a b
      have HREST := Lib.hid (rest_at f j tail)
      clear hnew hB2 htz hat hO hnn hown2 hg2 hnil2 hown hsz HB HR
      generalize numsB f j ++ tail = t at *
      go_wp2_with fail
      refine HNW.out.mono ?_
      rintro e w3 ⟨g, b, cap, rfl, hR, hg0, _, hB⟩
      have hg : w.heap.size ≤ g := Nat.le_trans HB2.out.size hg0
      have HR3 := Lib.hid hR
      have HB3 := Lib.hid (HB2.out.trans (hB.mono HB2.out.size))
      clear hR hB hg0 HB2 HNW
      go_wp2_with fail
      refine (awake_any w3 (HG.out.below HB3.out h0)).mono ?_
      rintro e w4 ⟨rfl, hB⟩
      have HR4 := Lib.hid (HR3.out.below hB)
      have HB4 := Lib.hid (HB3.out.trans (hB.mono HB3.out.size))
      clear hB HR3 HB3
      go_wp2_with fail
      go_loopw [10] (fun i wr => ∃ k : Nat, Rel2 w g b cap t k wr ∧ k ≤ j ∧ i = .int .i64 k) (fun i _ => j - (intOf i).toNat)
      case atStart => exact ⟨0, ⟨HR4.out, HB4.out⟩, by omega, rfl⟩
      case round =>
        obtain ⟨k, ⟨hR, hB⟩, hk, rfl⟩ := hrel
        have HR := Lib.hid hR
        have HB := Lib.hid hB
        clear hR hB HR4 HB4
        by_cases hlt : k < j
        · obtain ⟨ab, ao, rfl, hc, hf0, hf1⟩ := (HA.out.keep HB.out) k hlt
          have HSX : Hid (∀ W, Rel2 w g b cap t k W → Calls Tryd.prog 21 #[.pointer (some ⟨g, 0, none⟩)] W fun e w' => e = .returned (.int .u16 (f k)) ∧ Rel2 w g b cap t (k + 1) w' ∧ w'.cell? ⟨ab, ao + k, none⟩ = some (.int .u16 (f k))) := fun W h => by
            have h6 := sixteen_ok h.1 (by rw [HTZ.out]; omega)
            rw [HNUM.out k hlt hf0 hf1] at h6
            refine h6.mono ?_
            rintro e w' ⟨he, hR, hO⟩
            have hB' := below_only h.2 (Nat.le_refl _) hO hg
            exact ⟨he, ⟨hR, hB'⟩, (HA.out.keep hB').num hlt⟩
          have HRL : Hid (Rel2 w g b cap t k wr) := ⟨HR.out, HB.out⟩
          have HRD : Hid (Rel2 w g b cap t k wr.drew) := ⟨HR.out.drewN 1, HB.out.drew⟩
          go_wp2_with fail
          go_region_with (go_at_call 21; refine (HSX.out _ ?_).mono ?_; first | exact HRL.out | exact HRD.out; rintro e w5 ⟨rfl, hR, hc5⟩; have HR5 := Lib.hid hR; clear hR)
          all_goals
            go_wp2
            go_roundw
            case rel => first | exact ⟨k + 1, HR5.out, hlt, by go_num⟩ | exact ⟨k + 1, ⟨HR5.out.1.drewN 1, HR5.out.2.drew⟩, hlt, by go_num⟩
            case measure => simp [intOf]; omega
        · obtain rfl : k = j := by omega
          clear hlt hk
          by_cases hem : tail.size = 0
          · have hte : tail.toList.isEmpty = true := empty_yes hem
            have hko : ¬ (2 * k < t.size) := by rw [HTZ.out]; omega
            have HKO := Lib.hid hko
            clear hko hem
            go_wp2_with fail
            refine (end_told_ok HR.out HKO.out).mono ?_
            rintro e w5 ⟨rfl, hB⟩
            have HR5 := Lib.hid (HR.out.below hB)
            have HB5 := Lib.hid (HB.out.trans (hB.mono HB.out.size))
            clear hB HR HB
            go_wp2_with fail
            refine (why_nil w5).mono ?_
            rintro e w6 ⟨rfl, hB⟩
            have HR6 := Lib.hid (HR5.out.below hB)
            have HB6 := Lib.hid (HB5.out.trans (hB.mono HB5.out.size))
            clear hB HR5 HB5
            go_wp2_with fail
            refine (err_ok HR6.out).mono ?_
            rintro e w7 ⟨rfl, rfl⟩
            go_wp2
            go_ret
            exact ⟨rfl, HB6.out⟩
          · have hte : tail.toList.isEmpty = false := empty_no hem
            have hko : 2 * k < t.size := by rw [HTZ.out]; omega
            have HKO := Lib.hid hko
            have HEM := Lib.hid hem
            clear hko hem
            go_wp2_with fail
            refine (end_told_more HR.out HKO.out).mono ?_
            rintro e w5 ⟨q, rfl, d0, d1, hB⟩
            have HR5 := Lib.hid (HR.out.below hB)
            have HB5 := Lib.hid (HB.out.trans (hB.mono HB.out.size))
            have HW := Lib.hid (why_fail0 q 0 21 _ w5 (HG.out.below HB5.out h0) d0 d1)
            clear d0 d1 hB HR HB
            go_wp2_with fail
            refine HW.out.mono ?_
            rintro e w6 ⟨rfl, hB⟩
            have HR6 := Lib.hid (HR5.out.below hB)
            have HB6 := Lib.hid (HB5.out.trans (hB.mono HB5.out.size))
            clear hB HR5 HB5 HW
            have hl : lacks t (2 * k) false tail.size = false := by
              unfold lacks
              rw [HTZ.out]
              simp
              omega
            have hrs : readS t (2 * k) false tail.size = tail := by
              unfold readS
              rw [hl]
              simp only [Int.toNat_natCast]
              exact HREST.out
            have hna : nextAt t (2 * k) false tail.size = 2 * k + tail.size := by
              unfold nextAt
              rw [hl]
              simp
            have htx := text_any HR6.out tail.size
            rw [hrs, hna, hl] at htx
            have HTX := Lib.hid htx
            clear hrs htx hna hl
            go_wp2_with fail
            refine HTX.out.mono ?_
            rintro e w7 ⟨rfl, hR, hO⟩
            have HR7 := Lib.hid hR
            have HB7 := Lib.hid (below_only HB6.out (Nat.le_refl _) hO hg)
            clear hR hO HTX HR6 HB6
            go_wp2_with fail
            refine (end_told_ok HR7.out (by rw [HTZ.out]; omega)).mono ?_
            rintro e w8 ⟨rfl, hB⟩
            have HB8 := Lib.hid (HB7.out.trans (hB.mono HB7.out.size))
            clear hB
            go_wp2
            go_ret
            exact ⟨rfl, HB8.out⟩
end blobNumbers
end Go.Proofs.YtamcmkeoiomeiaaDoor
