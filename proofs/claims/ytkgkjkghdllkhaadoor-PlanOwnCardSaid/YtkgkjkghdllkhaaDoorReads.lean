/-
  What a reader reads: Eight, Sixteen, Text, List.
-/
import Derived.Test.YtkgkjkghdllkhaaDoorClone
import Derived.Test.YtkgkjkghdllkhaaDoorSpec
import Derived.Laws.BitsAllLaws
namespace Go.Proofs.YtkgkjkghdllkhaaDoor
open Go.RowKit

theorem byteI_at {s : ByteArray} {k : Nat} (h : k < s.size) : ((s[k]).toNat : Int) = byteI s k := by
  unfold byteI
  rw [List.getD_eq_getElem?_getD, byte_at s k h]
  rfl
theorem OwnB.base {w : World} {base base' : Nat} {v : Value} {t : ByteArray} (h : OwnB w base v t) (hb : base' ≤ base) : OwnB w base' v t := by
  obtain ⟨h1, h2⟩ := h
  refine ⟨h1, ?_⟩
  rcases h2 with h2 | ⟨g, cap, cur, hv, hg, r⟩
  · exact .inl h2
  · exact .inr ⟨g, cap, cur, hv, Nat.le_trans hb hg, r⟩

theorem or_u16 {x y : Int} (x0 : 0 ≤ x) (x1 : x ≤ 255) (y0 : 0 ≤ y) (y1 : y ≤ 255) : bits .or .u16 (x * 256) y = x * 256 + y := by
  obtain ⟨a, rfl⟩ := Int.eq_ofNat_of_zero_le x0
  obtain ⟨c, rfl⟩ := Int.eq_ofNat_of_zero_le y0
  have e : ((a : Int) * 256) = ((a * 256 : Nat) : Int) := by simp
  rw [e, u16_or_nat (a * 256) c (by omega) (by omega)]
  have h := Nat.shiftLeft_add_eq_or_of_lt (show c < 2 ^ 8 by omega) a
  rw [Nat.shiftLeft_eq] at h
  have h2 : a * 256 ||| c = a * 256 + c := h.symm
  rw [h2]
  simp

section
variable {w : World} {g b cap k : Nat} {s : ByteArray} {bad : Bool}

theorem needs_lack (h : Rd w g b cap s k bad) (n : Int) (hl : lacks s k bad n = true) :
    Calls Tryd.prog 55 #[.pointer (some ⟨g, 0, none⟩), .int .i64 n] w fun e w' => e = .returned (.bool false) ∧ Rd w' g b cap s k true ∧ w.grownBy w' (some g) := by
  by_cases hn : (s.size : Int) - k < n
  · exact needs_no h n hn
  · cases bad
    · unfold lacks at hl; simp at hl; omega
    · exact needs_bad h n (by omega)

theorem run_str0 (A : Addr) (c : Nat) (W : World) : (convert 31 9 (.slice (some A) 0 c)).run Tryd.prog W = .ok (.string ⟨#[]⟩) W :=
  run_convert_bytes_back (P := Tryd.prog) W 31 9 5 A c [] Tryd.underlying31 Tryd.underlying5 Tryd.underlying9 (fun j hj => by simp at hj)

set_option maxHeartbeats 400000 in
theorem text_any (h : Rd w g b cap s k bad) (n : Int) :
    Calls Tryd.prog 30 #[.pointer (some ⟨g, 0, none⟩), .int .i64 n] w fun e w' => e = .returned (.string (readS s k bad n)) ∧ Rd w' g b cap s (nextAt s k bad n) (lacks s k bad n) ∧ w.grownBy w' (some g) := by
  cases hl : lacks s k bad n
  · obtain ⟨rfl, hn⟩ := lacks_no hl
    have hrs : readS s k false n = s.extract k (k + n.toNat) := by simp [readS, hl]
    have hna : nextAt s k false n = k + n.toNat := by simp [nextAt, hl]
    rw [hrs, hna]
    clear hrs hna hl
    have H := Lib.hid h
    have hle := h.le
    clear h
    by_cases h0 : 0 < n
    · obtain ⟨m, rfl⟩ : ∃ m : Nat, n = m := ⟨n.toNat, by omega⟩
      simp only [Int.toNat_natCast]
      have hm : 0 < m := by omega
      have hkm : k + m ≤ s.size := by omega
      go_enter Tryd.func30, Tryd.ntmps30
      go_wp2_with (go_at_call 55; refine (needs_yes H.out _ hn).mono ?_; rintro e w' ⟨rfl, q, rfl⟩)
      refine (take_pos (H.out.drewN q) m hm hkm).mono ?_
      rintro e w1 ⟨rfl, hR, hO⟩
      have HR := Lib.hid hR
      have HO := Lib.hid (only_trans (only_drewN (World.grownBy.refl w _) q) hO)
      have hcv := Lib.run_convert_window (P := Tryd.prog) w1 31 5 9 Tryd.underlying31 Tryd.underlying5 Tryd.underlying9 b 0 s hR.bytes k m (cap - k) hkm
      simp only [Nat.zero_add] at hcv
      clear hR hO
      go_wp2
      go_ret
      exact ⟨rfl, HR.out, HO.out⟩
    · have hn0 : n ≤ 0 := by omega
      have htn : n.toNat = 0 := by omega
      have hcv := run_str0
      rw [htn]
      clear htn
      go_enter Tryd.func30, Tryd.ntmps30
      go_wp2_with (go_at_call 55; refine (needs_yes H.out _ hn).mono ?_; rintro e w' ⟨rfl, q, rfl⟩)
      refine (take_none (H.out.drewN q) n hn0).mono ?_
      rintro e w1 ⟨⟨A, c, rfl⟩, hR, hO⟩
      have HR := Lib.hid hR
      have HO := Lib.hid (only_trans (only_drewN (World.grownBy.refl w _) q) hO)
      clear hR hO
      go_wp2
      go_ret
      refine ⟨?_, HR.out, HO.out⟩
      have : s.extract k (k + 0) = ⟨#[]⟩ := by
        apply ByteArray.ext
        apply Array.toList_inj.1
        rw [Lib.extract_data]
        simp
      rw [this]
      rfl
  · have hrs : readS s k bad n = ⟨#[]⟩ := by simp [readS, hl]
    have hna : nextAt s k bad n = k := by simp [nextAt, hl]
    rw [hrs, hna]
    clear hrs hna
    have H := Lib.hid h
    have HL := Lib.hid hl
    clear h hl
    go_enter Tryd.func30, Tryd.ntmps30
    go_wp2_with (go_at_call 55; refine (needs_lack H.out _ HL.out).mono ?_; rintro e w1 ⟨rfl, hR, hO⟩; have HR := Lib.hid hR; have HO := Lib.hid hO; clear hR hO)
    go_ret
    exact ⟨rfl, HR.out, HO.out⟩

set_option maxHeartbeats 400000 in
theorem eight_ok (h : Rd w g b cap s k false) (hk : k < s.size) :
    Calls Tryd.prog 61 #[.pointer (some ⟨g, 0, none⟩)] w fun e w' => e = .returned (.int .u8 (byteI s k)) ∧ Rd w' g b cap s (k + 1) false ∧ w.grownBy w' (some g) := by
  have H := Lib.hid h
  clear h
  go_enter Tryd.func61, Tryd.ntmps61
  go_wp2_with (go_at_call 55; refine (needs_yes H.out _ (by omega)).mono ?_; rintro e w' ⟨rfl, q, rfl⟩)
  refine (take_pos (H.out.drewN q) 1 (by omega) (by omega)).mono ?_
  rintro e w1 ⟨rfl, hR, hO⟩
  have HR := Lib.hid hR
  have HO := Lib.hid (only_trans (only_drewN (World.grownBy.refl w _) q) hO)
  have hc := hR.bytes k hk
  rw [Nat.zero_add, byteI_at hk] at hc
  clear hR hO
  go_wp2
  go_ret
  exact ⟨rfl, HR.out, HO.out⟩
set_option maxHeartbeats 400000 in
theorem eight_no (h : Rd w g b cap s k bad) (hl : lacks s k bad 1 = true) :
    Calls Tryd.prog 61 #[.pointer (some ⟨g, 0, none⟩)] w fun e w' => e = .returned (.int .u8 0) ∧ Rd w' g b cap s k true ∧ w.grownBy w' (some g) := by
  have H := Lib.hid h
  have HL := Lib.hid hl
  clear h hl
  go_enter Tryd.func61, Tryd.ntmps61
  go_wp2_with (go_at_call 55; refine (needs_lack H.out _ HL.out).mono ?_; rintro e w1 ⟨rfl, hR, hO⟩; have HR := Lib.hid hR; have HO := Lib.hid hO; clear hR hO)
  go_ret
  exact ⟨rfl, HR.out, HO.out⟩

set_option maxHeartbeats 1000000 in
theorem assemble_ok (h : Rd w g b cap s k false) (hk : k + 2 ≤ s.size) :
    Calls Tryd.prog 79 #[.func (.func 61) #[.pointer (some ⟨g, 0, none⟩)] #[]] w fun e w' => e = .returned (.int .u16 (byteI s k * 256 + byteI s (k + 1))) ∧ Rd w' g b cap s (k + 2) false ∧ w.grownBy w' (some g) := by
  have H := Lib.hid h
  clear h
  have hb0 := byteI_bounds s k
  have hb1 := byteI_bounds s (k + 1)
  go_enter Tryd.func79, Tryd.ntmps79
  go_wp2_with fail
  refine (eight_ok H.out (by omega)).mono ?_
  rintro e w1 ⟨rfl, hR, hO⟩
  have HR := Lib.hid hR
  have HO := Lib.hid hO
  clear hR hO
  go_wp2_with fail
  refine (eight_ok HR.out (by omega)).mono ?_
  rintro e w2 ⟨rfl, hR, hO⟩
  have HR2 := Lib.hid hR
  have HO2 := Lib.hid (only_trans HO.out hO)
  clear hR hO
  have HX := Lib.hid (or_u16 hb0.1 hb0.2 hb1.1 hb1.2)
  go_wp2
  go_ret
  exact ⟨ret_i HX.out, HR2.out, HO2.out⟩

set_option maxHeartbeats 1000000 in
theorem sixteen_ok (h : Rd w g b cap s k false) (hk : k + 2 ≤ s.size) :
    Calls Tryd.prog 60 #[.pointer (some ⟨g, 0, none⟩)] w fun e w' => e = .returned (.int .u16 (byteI s k * 256 + byteI s (k + 1))) ∧ Rd w' g b cap s (k + 2) false ∧ w.grownBy w' (some g) := by
  have H := Lib.hid h
  clear h
  go_enter Tryd.func60, Tryd.ntmps60
  go_wp2_with (go_at_call 55; refine (needs_yes H.out _ (by omega)).mono ?_; rintro e w' ⟨rfl, q, rfl⟩)
  refine (assemble_ok (H.out.drewN q) hk).mono ?_
  rintro e w1 ⟨rfl, hR, hO⟩
  have HR := Lib.hid hR
  have HO := Lib.hid (only_trans (only_drewN (World.grownBy.refl w _) q) hO)
  clear hR hO
  go_wp2
  go_ret
  exact ⟨rfl, HR.out, HO.out⟩

set_option maxHeartbeats 400000 in
theorem sixteen_no (h : Rd w g b cap s k bad) (hl : lacks s k bad 2 = true) :
    Calls Tryd.prog 60 #[.pointer (some ⟨g, 0, none⟩)] w fun e w' => e = .returned (.int .u16 0) ∧ Rd w' g b cap s k true ∧ w.grownBy w' (some g) := by
  have H := Lib.hid h
  have HL := Lib.hid hl
  clear h hl
  go_enter Tryd.func60, Tryd.ntmps60
  go_wp2_with (go_at_call 55; refine (needs_lack H.out _ HL.out).mono ?_; rintro e w1 ⟨rfl, hR, hO⟩; have HR := Lib.hid hR; have HO := Lib.hid hO; clear hR hO)
  go_ret
  exact ⟨rfl, HR.out, HO.out⟩
end
end Go.Proofs.YtkgkjkghdllkhaaDoor
