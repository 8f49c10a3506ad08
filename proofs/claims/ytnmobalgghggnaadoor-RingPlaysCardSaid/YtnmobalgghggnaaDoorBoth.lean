/-
  The statement's ring: a sender and a receiver of a ring that is empty, at any index.
-/
import Derived.Test.YtnmobalgghggnaaDoorAbsR
import Derived.Test.YtnmobalgghggnaaDoorAwkW
namespace Go.Proofs.YtnmobalgghggnaaDoor
open Go.RowKit

/-- A message as it is cut. -/
def cutM (sz : Nat) (m : ByteArray) : ByteArray := if (if sz < m.size then m.extract 0 sz else m).size = 0 then ⟨#[101]⟩ else (if sz < m.size then m.extract 0 sz else m)
def msgs (sz : Nat) (L : List ByteArray) (k : Nat) : List ByteArray := (List.range k).map fun i => cutM sz (L.getD i ByteArray.empty)
theorem cutM_size (sz : Nat) (m : ByteArray) (h : 1 ≤ sz) : 1 ≤ (cutM sz m).size ∧ (cutM sz m).size ≤ sz := by
  unfold cutM
  by_cases h1 : sz < m.size
  · rw [if_pos h1]
    have hs : (m.extract 0 sz).size = sz := by rw [ByteArray.size_extract]; omega
    rw [if_neg (by omega)]
    omega
  · rw [if_neg h1]
    by_cases h2 : m.size = 0
    · rw [if_pos h2]; exact ⟨Nat.le_refl 1, h⟩
    · rw [if_neg h2]; omega
theorem msgs_len (sz : Nat) (L : List ByteArray) (k : Nat) : (msgs sz L k).length = k := by simp [msgs]
theorem msgs_good (sz : Nat) (L : List ByteArray) (k : Nat) (h : 1 ≤ sz) : ∀ m ∈ msgs sz L k, 1 ≤ m.size ∧ m.size ≤ sz := fun m hm => by
  obtain ⟨i, _, rfl⟩ := List.mem_map.1 hm
  exact cutM_size sz _ h
theorem msgs_next (sz : Nat) (L : List ByteArray) (k : Nat) : msgs sz L k ++ [cutM sz (L.getD k ByteArray.empty)] = msgs sz L (k + 1) := by
  unfold msgs
  rw [List.range_succ, List.map_append]
  rfl
/-- How many places. -/
def plN (p : Int) : Nat := 2 ^ (p % 4).toNat
theorem plN_four (p : Int) : Four4 (plN p) := by
  unfold plN
  have : (p % 4).toNat = 0 ∨ (p % 4).toNat = 1 ∨ (p % 4).toNat = 2 ∨ (p % 4).toNat = 3 := by omega
  rcases this with e | e | e | e <;> rw [e]
  · exact .inl rfl
  · exact .inr (.inl rfl)
  · exact .inr (.inr (.inl rfl))
  · exact .inr (.inr (.inr rfl))
theorem and3 {p : Int} (h0 : 0 ≤ p) (h1 : p < 256) : bits .and .u8 p 3 = p % 4 := by
  rw [u8_and p 3 h0 h1 (by omega) (by omega)]
  have : p.toNat &&& (3 : Int).toNat = p.toNat % 4 := by
    show p.toNat &&& (2 ^ 2 - 1) = _
    rw [Nat.and_two_pow_sub_one_eq_mod]
  rw [this]
  omega
theorem Four4.cap {pl : Nat} (h : Four4 pl) : CapN pl := by
  rcases h with e | e | e | e
  · exact ⟨0, by omega, e⟩
  · exact ⟨1, by omega, e⟩
  · exact ⟨2, by omega, e⟩
  · exact ⟨3, by omega, e⟩
/-- The play as a value. -/
def playC (h t : Int) (A1 : Option Addr) (n1 c1 : Nat) (A2 : Option Addr) (n2 c2 : Nat) : List Value := [.int .u32 h, .int .u32 t, .slice A1 n1 c1, .slice A2 n2 c2]
theorem store_n (v : Int) (i g b n : Nat) (x : Int) (hx : x = i) (f : Nat → Int) (c : Int) (w : World) (hG : GOk w) (hM : MemAt w g b n f c) (hn : n ≤ 4096) (ha : i < n) (hc : 0 ≤ c ∧ c ≤ 1000000) :
    Calls Tryd.prog 17 #[.pointer (some ⟨g, 0, none⟩), .int .i64 x, .int .u32 v] w fun e w' => e = .returned (.int .i64 0) ∧ MemAt w' g b n (upd f i v) (c + 1) ∧ Else g b w w' := by
  subst hx; exact store_yes v i g b n f c w hG hM hn ha hc
/-- What both leaves. -/
def BothP (h : Int) (pl sz : Nat) (L : List ByteArray) (w : World) (e : Ending) (w' : World) : Prop :=
  ∃ wl g B C A c f, e = .returned (.tuple #[.pointer (some ⟨g, 0, none⟩), .pointer (some ⟨B, 0, none⟩), .pointer (some ⟨C, 0, none⟩), .slice A L.length c, .int .i64 pl]) ∧ Below w.heap.size w wl ∧ Strs wl.heap.size wl A L ∧ SysR wl 80 g B C (sd0 0 pl sz L) (rv0 0 pl sz 40) f 1000 w' ∧ f 0 = h ∧ f 1 = h
set_option maxHeartbeats 8000000 in
set_option maxRecDepth 100000 in
theorem both_any (h t p z : Int) (A1 A2 : Option Addr) (n1 c1 n2 c2 : Nat) (L : List ByteArray) (w : World) (hG : GOk w) (hh : 0 ≤ h ∧ h < 4294967296) (hp : 0 ≤ p ∧ p < 256) (hz : 0 ≤ z ∧ z < 256) (hL : Strs w.heap.size w A1 L) (hn : n1 = L.length) (hb : ∀ i, i < L.length → (L.getD i ByteArray.empty).size ≤ 9223372036854775807) (hn1 : n1 ≤ 9223372036854775807) :
    Calls Tryd.prog 25 #[.agg (playC h t A1 n1 c1 A2 n2 c2).toArray, .int .u8 p, .int .u8 z] w fun e w' => BothP h (plN p) (1 + (z % 32).toNat) (msgs (1 + (z % 32).toNat) L (min n1 20)) w e w' := by
  simp only [playC]
  have HG := Lib.hid hG
  have HH := Lib.hid hh
  have HP := Lib.hid hp
  have HL := Lib.hid hL
  have HN := Lib.hid hn
  have HB := Lib.hid hb
  have hand := and3 hp.1 hp.2
  obtain ⟨q, hq⟩ : ∃ q : Nat, p % 4 = q := ⟨(p % 4).toNat, by omega⟩
  rw [hq] at hand
  obtain ⟨pl, hpl⟩ : ∃ pl, pl = plN p := ⟨_, rfl⟩
  obtain ⟨sz, hsz⟩ : ∃ sz, sz = 1 + (z % 32).toNat := ⟨_, rfl⟩
  rw [← hpl, ← hsz]
  have hplq : wrap64 ((2 : Int) ^ q) = pl := by
    have h4 : q = 0 ∨ q = 1 ∨ q = 2 ∨ q = 3 := by omega
    rw [hpl]; unfold plN; rw [hq, Int.toNat_natCast]
    rcases h4 with rfl | rfl | rfl | rfl <;> decide +kernel
  have hszq : 1 + z % 32 = (sz : Int) := by omega
  have hpl4 : Hid (Four4 pl) := Lib.hid (by rw [hpl]; exact plN_four p)
  have hsz32 : 1 ≤ sz ∧ sz ≤ 32 := by omega
  have HSZ := Lib.hid hsz32
  have hs0 : (0 : Int) ≤ sz := by omega
  have hq4 : q < 4 := by omega
  obtain ⟨hz0, hz1⟩ := hz
  clear hG hL hn hb hpl hsz hsz32 hh hp hq
  go_enter Tryd.func25, Tryd.ntmps25
  go_wp2_with fail
  rw [hplq]
  first | rw [hszq] | skip
  clear hplq hand hszq hz0 hz1
  obtain ⟨w1, hw1⟩ : ∃ w1, w1 = w.alloc (.cells #[.int .u32 h, .int .u32 t, .slice A1 n1 c1, .slice A2 n2 c2] 43) := ⟨_, rfl⟩
  have hB1 : Below w.heap.size w w1 := by rw [hw1]; exact (Below.refl _ _).alloc (Nat.le_refl _) _
  have hk0 : w1.cell? ⟨w.heap.size, 0, none⟩ = some (.int .u32 h) := by rw [hw1]; exact al_new _ _ _ _ _ rfl rfl
  have hk2 : w1.cell? ⟨w.heap.size, 2, none⟩ = some (.slice A1 n1 c1) := by rw [hw1]; exact al_new _ _ _ _ _ rfl rfl
  have hsz1 : w1.heap.size = w.heap.size + 1 := by rw [hw1]; simp
  rw [← hw1, ← hsz1]
  have HB1 := Lib.hid hB1
  have HK := Lib.hid (And.intro hk0 hk2)
  have HL1 := Lib.hid (HL.out.keep hB1)
  have HS1 := Lib.hid hsz1
  clear hw1 hB1 hk0 hk2 hsz1
  go_loopw [13, 14] (fun v i wr => ∃ k : Nat, k ≤ min n1 20 ∧ i = .int .i64 k ∧ Lit w1.heap.size wr v (msgs sz L k) ∧ Below w1.heap.size w1 wr) (fun _ i _ => 20 - (intOf i).toNat)
  case atStart => exact ⟨0, Nat.zero_le _, rfl, lit_nil w1, (Below.refl _ _).alloc (Nat.le_refl _) _⟩
  case round =>
    obtain ⟨k, hk, rfl, hT, hB⟩ := hrel
    have HT := Lib.hid hT
    have HBR := Lib.hid hB
    have k2 := kept HK.out.2 (hB.mono (Nat.le_refl _))
    clear hT
    by_cases hlt : k < min n1 20
    · have hkL : k < L.length := by rw [← HN.out]; omega
      obtain ⟨b1, o1, rfl⟩ := HL1.out.head hkL
      have c0 := (HL1.out.keep (hB.mono (by have := HS1.out; omega))).cell hkL
      have hbk := HB.out k hkL
      have hmn := msgs_next sz L k
      have HML := Lib.hid (msgs_len sz L k)
      generalize L.getD k ByteArray.empty = m at *
      have HMN := Lib.hid hmn
      have hk1 : (k : Int) < n1 := by omega
      have hk20 : (k : Int) < 20 := by omega
      clear hB hkL hmn
      by_cases h1 : (sz : Int) < m.size
      · have hsm : (sz : Int) ≤ m.size := by omega
        have hs11 := HSZ.out.1
        have hes : (m.extract 0 sz).size = sz := by rw [ByteArray.size_extract]; omega
        have HCU : Hid (cutM sz m = m.extract 0 sz) := Lib.hid (by unfold cutM; rw [if_pos (show sz < m.size by omega), if_neg (show ¬ (m.extract 0 sz).size = 0 by omega)])
        have hb1 : ((m.extract 0 sz).toList == []) = false := by
          rw [ByteArray.toList_eq, beq_eq_false_iff_ne]
          intro h
          have h := congrArg List.length h
          rw [Array.length_toList] at h
          have h : (m.extract 0 sz).size = 0 := h
          omega
        clear hes hs11
        go_wp2_with (at_builtin; refine wpList_app rfl _ _ 24 9 (.string ⟨#[]⟩) 16 rfl Tryd.underlying24 info9 rfl (by decide) (u := .string (m.extract 0 sz)) HT.out.1 (by rw [List.length_map, HML.out]; omega) rfl (by rfl) (by rfl) ?_)
        intro g' cap' w2 hg2 hC2 hat2 hlt2
        have HT2 := Lib.hid (HT.out.grow (by first | exact hg2 | (rw [List.length_map] at hg2; exact hg2)) hat2 hlt2)
        have HB2 := Lib.hid (HBR.out.trans (hC2.below (fun x hx => (HT.out.lt hx).2) HBR.out.size))
        clear hg2 hC2 hat2 hlt2 c0 k2
        go_wp2_with fail
        go_roundw
        case rel => exact ⟨k + 1, by omega, by go_num, by rw [← HMN.out, HCU.out]; exact HT2.out, HB2.out⟩
        case measure => simp [intOf]; omega
      · by_cases h2 : m.size = 0
        · have HCU : Hid (cutM sz m = ⟨#[101]⟩) := Lib.hid (by unfold cutM; rw [if_neg (by omega : ¬ sz < m.size), if_pos h2])
          have hb1 : (m.toList == []) = true := by
            rw [ByteArray.toList_eq]
            have : m.data.toList = [] := List.length_eq_zero_iff.1 (by rw [Array.length_toList]; exact h2)
            rw [this]; rfl
          clear h2
          go_wp2_with (at_builtin; refine wpList_app rfl _ _ 24 9 (.string ⟨#[]⟩) 16 rfl Tryd.underlying24 info9 rfl (by decide) (u := .string ⟨#[101]⟩) HT.out.1 (by rw [List.length_map, HML.out]; omega) rfl (by rfl) (by rfl) ?_)
          intro g' cap' w2 hg2 hC2 hat2 hlt2
          have HT2 := Lib.hid (HT.out.grow (by first | exact hg2 | (rw [List.length_map] at hg2; exact hg2)) hat2 hlt2)
          have HB2 := Lib.hid (HBR.out.trans (hC2.below (fun x hx => (HT.out.lt hx).2) HBR.out.size))
          clear hg2 hC2 hat2 hlt2 c0 k2
          go_wp2_with fail
          go_roundw
          case rel => exact ⟨k + 1, by omega, by go_num, by rw [← HMN.out, HCU.out]; exact HT2.out, HB2.out⟩
          case measure => simp [intOf]; omega
        · have HCU : Hid (cutM sz m = m) := Lib.hid (by unfold cutM; rw [if_neg (by omega : ¬ sz < m.size), if_neg h2])
          have hb1 : (m.toList == []) = false := by
            rw [ByteArray.toList_eq, beq_eq_false_iff_ne]
            intro h
            exact h2 (by have := congrArg List.length h; rw [Array.length_toList] at this; exact this)
          clear h2
          go_wp2_with (at_builtin; refine wpList_app rfl _ _ 24 9 (.string ⟨#[]⟩) 16 rfl Tryd.underlying24 info9 rfl (by decide) (u := .string m) HT.out.1 (by rw [List.length_map, HML.out]; omega) rfl (by rfl) (by rfl) ?_)
          intro g' cap' w2 hg2 hC2 hat2 hlt2
          have HT2 := Lib.hid (HT.out.grow (by first | exact hg2 | (rw [List.length_map] at hg2; exact hg2)) hat2 hlt2)
          have HB2 := Lib.hid (HBR.out.trans (hC2.below (fun x hx => (HT.out.lt hx).2) HBR.out.size))
          clear hg2 hC2 hat2 hlt2 c0 k2
          go_wp2_with fail
          go_roundw
          case rel => exact ⟨k + 1, by omega, by go_num, by rw [← HMN.out, HCU.out]; exact HT2.out, HB2.out⟩
          case measure => simp [intOf]; omega
    · have hend : Hid (k = min n1 20) := Lib.hid (by omega)
      clear hB
      have hst : (k : Int) < n1 → ¬ (k : Int) < 20 := by omega
      obtain ⟨A, c, rfl, hs, hc⟩ := HT.out.strs
      have HST := Lib.hid hs
      have HLE := Lib.hid (show (msgs sz L k).length ≤ 20 by rw [msgs_len]; omega)
      have hke : k = min n1 20 := hend.out
      rw [← hke]
      have hgood := Lib.hid (msgs_good sz L k HSZ.out.1)
      obtain ⟨ML, hML⟩ : ∃ ML, ML = msgs sz L k := ⟨_, rfl⟩
      rw [← hML] at HST HLE hgood ⊢
      have hcap : Hid (capP (pl : Int) = true) := Lib.hid (capP_of hpl4.out.cap)
      have HW := Lib.hid (And.intro (sd0_wf (a := 0) (by omega) hpl4.out.cap HSZ.out hgood.out (by have := HLE.out; omega)) (rv0_wf (a := 0) (t := 40) (by omega) hpl4.out.cap HSZ.out (by omega)))
      have HZ : Hid ((1 : Int) ≤ sz ∧ (sz : Int) ≤ 32) := Lib.hid (by have := HSZ.out; omega)
      have hgm : Hid (∀ m ∈ ML, goodM (sz : Int) m) := Lib.hid (fun m hm => ⟨(hgood.out m hm).1, by have := (hgood.out m hm).2; omega⟩)
      have HMLE : Hid (ML = msgs sz L (min n1 20)) := Lib.hid (by rw [hML, ← hke])
      clear hs hc hke hML
      have k0 := kept HK.out.1 (HBR.out.mono (Nat.le_refl _))
      have HGW := Lib.hid (HG.out.below (by have := HS1.out; have := six_of HG.out; omega) (HB1.out.trans (HBR.out.mono (by have := HS1.out; omega))))
      by_cases hkn : (k : Int) < n1
      · have hk20 : ¬ (k : Int) < 20 := hst hkn
        clear hst
        go_wp2_with fail
        with_reducible refine (new_one 80 (by omega) (by omega) 80 rfl _).mono ?_
        rintro e w2 ⟨g, b, rfl, hM1, hg1, hb1, hB2⟩
        have HM1 := Lib.hid hM1
        have HI1 := Lib.hid (And.intro hg1 hb1)
        have HB2 := Lib.hid hB2
        have HST2 := Lib.hid ((HST.out.keep hB2).up hB2.size)
        clear hM1 hg1 hb1 hB2 k2
        go_wp2_with fail
        with_reducible refine (news_ok 0 _ _ pl sz _ c A ML _ rfl rfl HST2.out rfl (by have := HLE.out; omega) hcap.out HZ.out hgm.out).mono ?_
        rintro e w3 ⟨B, LB, rfl, hT3, hs3, hl3, _, hB3⟩
        have HT3 := Lib.hid hT3
        have HB3 := Lib.hid hB3
        have HS3 := Lib.hid (And.intro hs3 hl3)
        clear hT3 hs3 hl3 hB3
        go_wp2_with fail
        with_reducible refine (newr_ok 0 _ _ 40 pl sz 40 w3 rfl rfl rfl hcap.out HZ.out).mono ?_
        rintro e w4 ⟨C, rfl, hU4, hs4, hB4⟩
        have HU4 := Lib.hid hU4
        have HB4 := Lib.hid hB4
        have HS4 := Lib.hid hs4
        have HB24 := Lib.hid (HB2.out.trans ((HB3.out.trans (hB4.mono HB3.out.size)).mono HB2.out.size))
        have HM4 := Lib.hid ((HM1.out.keep HB3.out).keep hB4)
        have HG4 := Lib.hid (HGW.out.keep HB24.out)
        have j0 := kept k0 HB24.out
        have hne : Hid (w.heap.size ≠ g ∧ w.heap.size ≠ b) := Lib.hid (by have h1 : w.heap.size < wr.heap.size := cell_lt k0; have := HI1.out; omega)
        clear hU4 hs4 hB4 k0
        go_wp2_with fail
        with_reducible refine (store_n h 0 g b 80 0 rfl _ 0 w4 HG4.out HM4.out (by omega) (by omega) (by omega)).mono ?_
        rintro e w5 ⟨rfl, hM5, hE5⟩
        have HM5 := Lib.hid hM5
        have HE5 := Lib.hid hE5
        have HG5 := Lib.hid ((Chg.of_else hE5).six (fun k hk => by have := six_of HG.out; have := HI1.out; have := HBR.out.size; have := HS1.out; omega) HG4.out)
        have i0 := hE5.cell j0 hne.out.1 hne.out.2
        clear hM5 hE5 j0
        go_wp2_with fail
        with_reducible refine (store_n h 1 g b 80 1 rfl _ _ w5 HG5.out HM5.out (by omega) (by omega) (by omega)).mono ?_
        rintro e w6 ⟨rfl, hM6, hE6⟩
        have HE6 := Lib.hid (HE5.out.trans hE6)
        have HM6 := Lib.hid hM6
        clear hM6 hE6
        go_wp2_with fail
        have HSY := Lib.hid (sysR_new HGW.out HM1.out HI1.out HB2.out HT3.out HB3.out HS3.out HU4.out HB4.out HS4.out HW.out.1 HW.out.2 (by omega) HM6.out (Chg.of_else HE6.out) (by
          intro i _
          have := HH.out
          unfold upd
          split
          · exact this
          · split
            · exact this
            · show (0 : Int) ≤ 0 ∧ (0 : Int) < 4294967296; omega) (by omega))
        refine bodyPost_ret (v := .tuple #[.pointer (some ⟨g, 0, none⟩), .pointer (some ⟨B, 0, none⟩), .pointer (some ⟨C, 0, none⟩), .slice A ML.length c, .int .i64 pl]) (by simp [results, Tryd.results25, go_sem]) rfl ?_
        rw [← HMLE.out]
        exact ⟨_, g, B, C, A, c, _, rfl, HB1.out.trans (HBR.out.mono (by have := HS1.out; omega)), HST.out, HSY.out, rfl, rfl⟩
      · clear hst
        go_wp2_with fail
        with_reducible refine (new_one 80 (by omega) (by omega) 80 rfl _).mono ?_
        rintro e w2 ⟨g, b, rfl, hM1, hg1, hb1, hB2⟩
        have HM1 := Lib.hid hM1
        have HI1 := Lib.hid (And.intro hg1 hb1)
        have HB2 := Lib.hid hB2
        have HST2 := Lib.hid ((HST.out.keep hB2).up hB2.size)
        clear hM1 hg1 hb1 hB2 k2
        go_wp2_with fail
        with_reducible refine (news_ok 0 _ _ pl sz _ c A ML _ rfl rfl HST2.out rfl (by have := HLE.out; omega) hcap.out HZ.out hgm.out).mono ?_
        rintro e w3 ⟨B, LB, rfl, hT3, hs3, hl3, _, hB3⟩
        have HT3 := Lib.hid hT3
        have HB3 := Lib.hid hB3
        have HS3 := Lib.hid (And.intro hs3 hl3)
        clear hT3 hs3 hl3 hB3
        go_wp2_with fail
        with_reducible refine (newr_ok 0 _ _ 40 pl sz 40 w3 rfl rfl rfl hcap.out HZ.out).mono ?_
        rintro e w4 ⟨C, rfl, hU4, hs4, hB4⟩
        have HU4 := Lib.hid hU4
        have HB4 := Lib.hid hB4
        have HS4 := Lib.hid hs4
        have HB24 := Lib.hid (HB2.out.trans ((HB3.out.trans (hB4.mono HB3.out.size)).mono HB2.out.size))
        have HM4 := Lib.hid ((HM1.out.keep HB3.out).keep hB4)
        have HG4 := Lib.hid (HGW.out.keep HB24.out)
        have j0 := kept k0 HB24.out
        have hne : Hid (w.heap.size ≠ g ∧ w.heap.size ≠ b) := Lib.hid (by have h1 : w.heap.size < wr.heap.size := cell_lt k0; have := HI1.out; omega)
        clear hU4 hs4 hB4 k0
        go_wp2_with fail
        with_reducible refine (store_n h 0 g b 80 0 rfl _ 0 w4 HG4.out HM4.out (by omega) (by omega) (by omega)).mono ?_
        rintro e w5 ⟨rfl, hM5, hE5⟩
        have HM5 := Lib.hid hM5
        have HE5 := Lib.hid hE5
        have HG5 := Lib.hid ((Chg.of_else hE5).six (fun k hk => by have := six_of HG.out; have := HI1.out; have := HBR.out.size; have := HS1.out; omega) HG4.out)
        have i0 := hE5.cell j0 hne.out.1 hne.out.2
        clear hM5 hE5 j0
        go_wp2_with fail
        with_reducible refine (store_n h 1 g b 80 1 rfl _ _ w5 HG5.out HM5.out (by omega) (by omega) (by omega)).mono ?_
        rintro e w6 ⟨rfl, hM6, hE6⟩
        have HE6 := Lib.hid (HE5.out.trans hE6)
        have HM6 := Lib.hid hM6
        clear hM6 hE6
        go_wp2_with fail
        have HSY := Lib.hid (sysR_new HGW.out HM1.out HI1.out HB2.out HT3.out HB3.out HS3.out HU4.out HB4.out HS4.out HW.out.1 HW.out.2 (by omega) HM6.out (Chg.of_else HE6.out) (by
          intro i _
          have := HH.out
          unfold upd
          split
          · exact this
          · split
            · exact this
            · show (0 : Int) ≤ 0 ∧ (0 : Int) < 4294967296; omega) (by omega))
        refine bodyPost_ret (v := .tuple #[.pointer (some ⟨g, 0, none⟩), .pointer (some ⟨B, 0, none⟩), .pointer (some ⟨C, 0, none⟩), .slice A ML.length c, .int .i64 pl]) (by simp [results, Tryd.results25, go_sem]) rfl ?_
        rw [← HMLE.out]
        exact ⟨_, g, B, C, A, c, _, rfl, HB1.out.trans (HBR.out.mono (by have := HS1.out; omega)), HST.out, HSY.out, rfl, rfl⟩
end Go.Proofs.YtnmobalgghggnaaDoor
