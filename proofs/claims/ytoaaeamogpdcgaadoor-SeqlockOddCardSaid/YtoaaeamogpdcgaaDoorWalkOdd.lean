/-
  SeqlockOdd answers true.
-/
import Derived.Test.YtoaaeamogpdcgaaDoorAwkW
import Derived.Laws.BitsAllLaws
namespace Go.Proofs.YtoaaeamogpdcgaaDoor
open Go.RowKit

/-- A memory and a reader of it. -/
structure Mr (H : Nat) (w : World) (g b n R : Nat) (f : Nat → Int) (C : Nat) (r : Rd) : Prop where
  mem : ∃ c : Int, 0 ≤ c ∧ c ≤ C ∧ MemAt w g b n f c
  rd : ReaderAt w R r.k.ph r
  gok : GOk w
  wf : Wf n f
  lo : H ≤ g ∧ H ≤ b ∧ H ≤ R ∧ 6 ≤ H
  ne : g ≠ R ∧ b ≠ R
  n1 : n ≤ 4096
theorem Mr.hs {H : Nat} {w : World} {g b n R : Nat} {f : Nat → Int} {C : Nat} {r : Rd} (h : Mr H w g b n R f C r) : H ≤ w.heap.size := by
  have := h.rd.k.lt; have := h.lo; omega
theorem mr_read {H : Nat} {w : World} {g b n R : Nat} {f : Nat → Int} {C : Nat} {r : Rd} (h : Mr H w g b n R f C r) (hC : C ≤ 1000000) (ht : r.tr + 1 ≤ 1000000) (d : Bool) (hd : decide (3 ≤ (r.step n f).k.ph) = d) :
    Calls Tryd.prog 19 #[.pointer (some ⟨R, 0, none⟩), .pointer (some ⟨g, 0, none⟩)] w fun e w' => e = .returned (.bool d) ∧ Mr H w' g b n R f (C + 1) (r.step n f) ∧ Below H w w' := by
  obtain ⟨c, c0, c1, hm⟩ := h.mem
  subst hd
  refine (reader_step R g b n r f c w h.rd h.ne.1 h.ne.2 h.gok hm h.n1 (by omega) h.wf ht).mono ?_
  rintro e w' ⟨he, ⟨c', h1, h2, hm'⟩, hr, hC'⟩
  have hlo : ∀ k, ST g b R k → H ≤ k := fun k hk => by
    have := h.lo
    rcases hk with rfl | rfl | rfl <;> omega
  exact ⟨he, ⟨⟨c', by omega, by omega, hm'⟩, hr, hC'.six (fun k hk => by have := hlo k hk; have := h.lo; omega) h.gok, h.wf, h.lo, h.ne, h.n1⟩, hC'.below hlo h.hs⟩
/-- An odd counter: the reader stands still. -/
theorem odd_still (m : Nat) (f : Nat → Int) (n : Nat) (h0 : 0 < m) (h : f 0 % 2 = 1) : (rd0 0 n).step m f = rd0 0 n := by
  rw [Rd.step0 (i := 0) rfl (by rfl) h0, if_pos h]
theorem or_odd (x : Int) (h : 0 ≤ x ∧ x < 4294967296) : (0 ≤ bits .or .u32 x 1 ∧ bits .or .u32 x 1 < 4294967296) ∧ bits .or .u32 x 1 % 2 = 1 := by
  rw [u32_or x 1 h.1 h.2 (by omega) (by omega)]
  have h1 : x.toNat ||| (1 : Int).toNat < 2 ^ 32 := Nat.or_lt_two_pow (by omega) (by decide)
  have h2 : (x.toNat ||| (1 : Int).toNat) % 2 = 1 := by
    rw [Nat.mod_two_eq_one_iff_testBit_zero, Nat.testBit_or]
    simp
  omega
set_option maxHeartbeats 8000000 in
set_option maxRecDepth 100000 in
theorem walk_odd (x y z : Int) (w : World) (hG : GOk w) (hx : 0 ≤ x ∧ x < 4294967296) (hy : 0 ≤ y ∧ y < 256) (hz : 0 ≤ z ∧ z < 256) :
    Calls Tryd.prog 6 #[.int .u32 x, .int .u8 y, .int .u8 z] w fun e w' => e = .returned (.bool true) ∧ Below w.heap.size w w' := by
  have h6 := six_of hG
  have HG := Lib.hid hG
  have HN := Lib.hid (new_one 40 (by omega) (by omega) 40 rfl w)
  obtain ⟨n, hn⟩ : ∃ n : Nat, 1 + y % 32 = n := ⟨(1 + y % 32).toNat, by omega⟩
  have hn1 : 1 ≤ n ∧ n ≤ 32 := by omega
  have hzw : wrap64 z = z := by unfold wrap64; omega
  have hyw : wrap64 y = y := by unfold wrap64; omega
  have hty : wrap64 (1 + (wrap64 y).tmod 32) = n := by rw [hyw, Int.tmod_eq_emod_of_nonneg hy.1, ← hn]; unfold wrap64; omega
  clear hyw
  have HOR := Lib.hid (or_odd x hx)
  have HNN := Lib.hid hn1
  have HZZ := Lib.hid hz
  clear hG hn hx hy hn1
  go_enter Tryd.func6, Tryd.ntmps6
  go_wp2_with fail
  with_reducible refine HN.out.mono ?_
  rintro e w1 ⟨g, b, rfl, hM1, hg1, hb1, hB1⟩
  have HM1 := Lib.hid hM1
  have HI := Lib.hid (And.intro hg1 hb1)
  have HB1 := Lib.hid hB1
  clear hM1 hg1 hb1 hB1 HN
  go_wp2_with fail
  refine (newr_yes 0 n n w1 rfl HNN.out.1 HNN.out.2 (by omega)).mono ?_
  rintro e w2 ⟨rfl, hR, hB2, hz2⟩
  have HB2 := Lib.hid (HB1.out.trans (hB2.mono HB1.out.size))
  have HM2 := Lib.hid (HM1.out.keep hB2)
  have HR2 := Lib.hid hR
  have HL2 := Lib.hid (show g < w1.heap.size ∧ b < w1.heap.size ∧ w.heap.size ≤ w1.heap.size from ⟨HM1.out.ltg, HM1.out.row.lt, HB1.out.size⟩)
  obtain ⟨R, hRR⟩ : ∃ R, R = w1.heap.size := ⟨_, rfl⟩
  rw [← hRR] at HR2 HL2 ⊢
  clear hR hB2 hz2 hRR HM1 hty
  go_wp2_with fail
  refine (awake_any w2 (HG.out.keep HB2.out)).mono ?_
  rintro e w3 ⟨rfl, hB3⟩
  have HB3 := Lib.hid (HB2.out.trans (hB3.mono HB2.out.size))
  have HM3 := Lib.hid (HM2.out.keep hB3)
  have HR3 := Lib.hid (HR2.out.keep hB3)
  clear hB3 HM2 HR2
  go_wp2_with fail
  refine (store_yes (bits .or .u32 x 1) 0 g b 40 (fun _ => 0) 0 w3 (HG.out.keep HB3.out) HM3.out (by omega) (by omega) (by omega)).mono ?_
  rintro e w4 ⟨rfl, hM4, hE4⟩
  have HS4 : Hid (Mr w.heap.size w4 g b 40 R (upd (fun _ => 0) 0 (bits .or .u32 x 1)) 1 (rd0 0 n)) := Lib.hid ⟨⟨1, by omega, by omega, hM4⟩, HR3.out.else hE4 (by have := HL2.out; omega) (by have := HL2.out; omega), (Chg.of_else hE4).six (fun k hk => by have := HI.out; omega) (HG.out.keep HB3.out), wf_upd (fun _ _ => by decide) _ _ HOR.out.1, ⟨HI.out.1, HI.out.2, HL2.out.2.2, h6⟩, by have := HL2.out; omega, by omega⟩
  have HB4 := Lib.hid (HB3.out.trans ((hE4.below HI.out.1 HI.out.2 HB3.out.size)))
  clear hM4 hE4 HM3 HR3
  have hst : Hid ((rd0 0 n).step 40 (upd (fun _ => 0) 0 (bits .or .u32 x 1)) = rd0 0 n) := Lib.hid (odd_still _ _ _ (by omega) HOR.out.2)
  go_wp2_with fail
  go_loopw [11] (fun i wr => ∃ k : Nat, (k : Int) ≤ z ∧ i = .int .i64 k ∧ Mr w.heap.size wr g b 40 R (upd (fun _ => 0) 0 (bits .or .u32 x 1)) (k + 1) (rd0 0 n) ∧ Below w.heap.size w wr) (fun i _ => z.toNat - (intOf i).toNat)
  case atStart => exact ⟨0, HZZ.out.1, rfl, HS4.out, HB4.out⟩
  case round =>
    obtain ⟨k, hk, rfl, hS, hB⟩ := hrel
    have HS := Lib.hid hS
    have HB := Lib.hid hB
    clear hS hB
    by_cases hlt : (k : Int) < z
    · go_wp2_with fail
      refine (mr_read HS.out (by have := HZZ.out; omega) (by show 0 + 1 ≤ 1000000; omega) false (by rw [hst.out]; rfl)).mono ?_
      rintro e w5 ⟨rfl, hS5, hB5⟩
      rw [hst.out] at hS5
      have HS5 := Lib.hid hS5
      have HB5 := Lib.hid (HB.out.trans hB5)
      clear hS5 hB5
      have hk3 : (k : Int) < 256 := by have := HZZ.out; omega
      go_wp2_with fail
      go_roundw
      case rel => exact ⟨k + 1, by omega, by go_num, HS5.out, HB5.out⟩
      case measure => simp [intOf]; omega
    · go_wp2_with fail
      refine (got_no R (rd0 0 n) _ _ HS.out.rd (by show ((0 : Nat) : Int) ≠ 3; decide)).mono ?_
      rintro e w5 ⟨rfl, hw5⟩
      have HW5 := Lib.hid hw5
      clear hw5
      go_wp2_with fail
      refine (tries_any R (rd0 0 n) _ _ (by rw [HW5.out]; exact HS.out.rd)).mono ?_
      rintro e w6 ⟨rfl, rfl⟩
      go_wp2_with fail
      go_ret
      exact ⟨rfl, by rw [HW5.out]; exact HB.out⟩
end Go.Proofs.YtoaaeamogpdcgaaDoor
