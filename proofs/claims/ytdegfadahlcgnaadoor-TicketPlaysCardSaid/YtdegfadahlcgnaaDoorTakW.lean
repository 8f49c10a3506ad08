/-
  Some takers of one lock, that stands at any ticket, and their machine.
-/
import Derived.Test.YtdegfadahlcgnaaDoorAw
namespace Go.Proofs.YtdegfadahlcgnaaDoor
open Go.RowKit

/-- How many times. -/
def tm (T : Nat → Int) (j : Nat) : Int := T j % 8
theorem tm_rng (T : Nat → Int) (j : Nat) : 0 ≤ tm T j ∧ tm T j ≤ 7 := by unfold tm; omega
theorem sum_rng (T : Nat → Int) : ∀ k, 0 ≤ sumN (tm T) k ∧ sumN (tm T) k ≤ 7 * k
  | 0 => by simp [sumN]
  | k + 1 => by have := sum_rng T k; have := tm_rng T k; simp only [sumN]; omega
/-- The words at first. -/
def words0 (q : Int) : Nat → Int := upd (upd (fun _ => 0) 0 q) 1 q
def sy0 (T : Nat → Int) (q : Int) : Sy := ⟨fun j => tk0 0 2 (tm T j), words0 q⟩
theorem rel0 (N : Nat) (T : Nat → Int) (q : Int) (hq : 0 ≤ q ∧ q < 4294967296) : Rel q N (gh0 (tm T)) (sy0 T q) := by
  refine ⟨fun _ _ => rfl, fun _ _ => rfl, fun _ _ => rfl, fun _ _ _ => rfl, fun i _ h => ?_, fun i _ h => ?_, ?_, ?_, rfl⟩
  · have h : (tk0 0 2 (tm T i)).ph ≠ 5 := h
    rcases tk0_ph 0 2 (tm T i) with e | e
    · exact absurd e.1 h
    · exact e.2.2.2
  · have h : 1 ≤ (tk0 0 2 (tm T i)).ph ∧ (tk0 0 2 (tm T i)).ph ≤ 4 := h
    rcases tk0_ph 0 2 (tm T i) with e | e <;> omega
  · show q = (q + 0) % 4294967296; omega
  · show q = (q + 0) % 4294967296; omega
theorem inv00 (N : Nat) (T : Nat → Int) : Inv N (sumN (tm T) N) (gh0 (tm T)) := inv0 N (tm T) fun i _ => (tm_rng T i).1
theorem store_at (v : Int) (i g b n : Nat) (x : Int) (hx : x = i) (f : Nat → Int) (c : Int) (w : World) (hG : GOk w) (hM : MemAt w g b n f c) (hn : n ≤ 4096) (ha : i < n) (hc : 0 ≤ c ∧ c ≤ 1000000) :
    Calls Tryd.prog 11 #[.pointer (some ⟨g, 0, none⟩), .int .i64 x, .int .u32 v] w fun e w' => e = .returned (.int .i64 0) ∧ MemAt w' g b n (upd f i v) (c + 1) ∧ Else g b w w' := by
  subst hx; exact store_yes v i g b n f c w hG hM hn ha hc
/-- The relation of the loop: the takers that were made, their sum. -/
def TkRel (T : Nat → Int) (n : Nat) (w0 : World) (al ts su i : Value) (wr : World) : Prop :=
  ∃ k ga ca gb cb B, k ≤ n ∧ k ≤ 6 ∧ i = .int .i64 ((k : Nat) : Int) ∧ su = .int .u32 (sumN (tm T) k) ∧ al = .slice (some ⟨ga, 0, none⟩) k ca ∧ ts = .slice (some ⟨gb, 0, none⟩) k cb ∧ Tks w0 wr k ga ca gb cb B (fun j => tk0 0 2 (tm T j))
/-- What the call leaves: a machine of so many takers, the list of them. -/
structure Made (w w' : World) (m : Mc) (T : Nat → Int) (n : Nat) (q : Int) (ga : Nat) : Prop where
  n3 : m.n = 3
  N1 : m.N = min n 6
  sys : Sys w' m (sy0 T q) 2
  bel : Below w.heap.size w w'
  own : ∀ x, m.own x → w.heap.size ≤ x
  ptr : ∀ i, i < m.N → w'.cell? ⟨ga, i, none⟩ = some (pt (m.B i))
  gan : ¬ m.own ga
  gal : w.heap.size ≤ ga ∧ ga < w'.heap.size
def TakP (T : Nat → Int) (n : Nat) (q : Int) (w : World) (e : Ending) (w' : World) : Prop :=
  ∃ m ga ca, e = .returned (.tuple #[.pointer (some ⟨m.g, 0, none⟩), .pointer (some ⟨m.X, 0, none⟩), .slice (some ⟨ga, 0, none⟩) (min n 6) ca, .int .u32 (sumN (tm T) (min n 6))]) ∧ Made w w' m T n q ga
theorem made_of {w w1 w2 wr w' : World} {T : Nat → Int} {n k g b : Nat} {q : Int} {ga ca gb cb : Nat} {B : Nat → Nat} (hG : GOk w) (hB1 : Below w.heap.size w w1) (hg : w.heap.size ≤ g) (hb : w.heap.size ≤ b) (hE : Else g b w1 w2) (hM : MemAt w2 g b 3 (words0 q) 2) (hk : k = min n 6)
    (hT : Tks w2 wr k ga ca gb cb B (fun j => tk0 0 2 (tm T j))) {e : Ending} (hN : NewM g k (fun j => tv (B j)) wr e w') : ∃ m : Mc, e = .returned (.pointer (some ⟨m.X, 0, none⟩)) ∧ m.g = g ∧ Made w w' m T n q ga := by
  have h6 := six_of hG
  have hs1 := hB1.size
  have hs2 := hE.size
  have hB2 : Below w.heap.size w w2 := hB1.trans (hE.below hg hb hs1)
  have hBr : Below w.heap.size w wr := hB2.trans (hT.bel.mono hB2.size)
  obtain ⟨m, he, h1, h2, h3, h4, hS, hB, hO, hno⟩ := hT.sys (hM.keep hT.bel) ⟨hM.ltg, hM.row.lt⟩ (by omega) (by omega) (hG.below (by omega) hBr) (by omega) (fun _ _ => tk0_done _ _ _) hN
  refine ⟨m, he, h1, h2, by rw [h3, hk], hS, hBr.trans (hB.mono hBr.size), fun x hx => ?_, fun i hi => ?_, hno, ?_⟩
  · have := hO x hx; have := hB2.size; omega
  · rw [h4]; exact kept (hT.ptr (by omega)) hB
  · have := hT.glo; have := hT.glt; have := hB2.size; have := hB.size; omega
set_option maxHeartbeats 8000000 in
set_option maxRecDepth 100000 in
theorem takers_any (A : Option Addr) (n ca : Nat) (T : Nat → Int) (q : Int) (w : World) (hG : GOk w) (hA : ArgN .u8 w.heap.size w A n T) (hT : ∀ i, i < n → 0 ≤ T i ∧ T i < 256) (_ : n ≤ 1000000000000000) :
    Calls Tryd.prog 22 #[.slice A n ca, .int .u32 q] w fun e w' => TakP T n q w e w' := by
  have HG := Lib.hid hG
  have HA := Lib.hid hA
  have HT := Lib.hid hT
  clear hG hA hT
  go_enter Tryd.func22, Tryd.ntmps22
  go_wp2_with fail
  with_reducible refine (new_one 3 (by omega) (by omega) 3 rfl _).mono ?_
  rintro e w1 ⟨g, b, rfl, hM1, hg1, hb1, hB1⟩
  have HM1 := Lib.hid hM1
  have HI := Lib.hid (And.intro hg1 hb1)
  have HB1 := Lib.hid hB1
  clear hM1 hg1 hb1 hB1
  go_wp2_with fail
  with_reducible refine (store_at q 0 g b 3 0 rfl _ 0 _ (HG.out.keep HB1.out) HM1.out (by omega) (by omega) (by omega)).mono ?_
  rintro e w2 ⟨rfl, hM2, hE2⟩
  have HM2 := Lib.hid hM2
  have HE2 := Lib.hid hE2
  have HG2 := Lib.hid (HG.out.below (six_of HG.out) (HB1.out.trans (hE2.below HI.out.1 HI.out.2 HB1.out.size)))
  clear hM2 hE2
  go_wp2_with fail
  with_reducible refine (store_at q 1 g b 3 1 rfl _ _ _ HG2.out HM2.out (by omega) (by omega) (by omega)).mono ?_
  rintro e w3 ⟨rfl, hM3, hE3⟩
  have HM3 := Lib.hid hM3
  have HE3 := Lib.hid (HE2.out.trans hE3)
  have HB3 := Lib.hid (HB1.out.trans (HE3.out.below HI.out.1 HI.out.2 HB1.out.size))
  clear hM3 hE3 HM1 HM2 HE2 HG2
  go_wp2_with fail
  go_loopw [10, 11, 12, 13] (fun al ts su i wr => TkRel T n w3 al ts su i wr) (fun _ _ _ i _ => n - (intOf i).toNat)
  case atStart => exact ⟨0, _, _, _, _, _, Nat.zero_le _, by omega, rfl, rfl, rfl, rfl, tks_nil _ _⟩
  case round =>
    obtain ⟨k, ga, ca1, gb, cb, B, hk, hk6, rfl, rfl, rfl, rfl, hTk⟩ := hrel
    have HTk := Lib.hid hTk
    clear hTk
    by_cases hlt : k < n
    · by_cases hlt6 : k < 6
      · obtain ⟨b0, o0, rfl⟩ := HA.out.head hlt
        have hcell := (HA.out.keep (HB3.out.trans (HTk.out.bel.mono HB3.out.size))).cell hlt
        obtain ⟨ht0, ht1⟩ := HT.out k hlt
        have hs := sum_rng T k
        have htm := tm_rng T k
        have HS1 : Hid (sumN (tm T) (k + 1) = sumN (tm T) k + tm T k) := Lib.hid rfl
        obtain ⟨hs0, hs1⟩ := hs
        obtain ⟨ht2, ht3⟩ := htm
        obtain ⟨x, hx⟩ : ∃ x, x = sumN (tm T) k := ⟨_, rfl⟩
        rw [← hx] at hs0 hs1 HS1 ⊢
        obtain ⟨y, hy⟩ : ∃ y, y = T k := ⟨_, rfl⟩
        have HY : Hid (tm T k = y % 8) := Lib.hid (by rw [hy]; rfl)
        rw [← hy] at hcell ht0 ht1
        rw [HY.out] at ht2 ht3 HS1
        clear hx hy
        go_wp2_with fail
        with_reducible refine (taker_new 0 2 _ _ (by omega) (by omega)).mono ?_
        rintro e w4 ⟨rfl, hT4, hB4, hz4⟩
        have HT4 := Lib.hid hT4
        have HB4 := Lib.hid hB4
        have HZ4 := Lib.hid hz4
        clear hT4 hB4 hz4
        go_wp2_with (at_builtin; refine wpList_append_pt rfl _ _ rfl (ownsRow_same HTk.out.ra (HB4.out.block _ HTk.out.glt.1)) (Nat.lt_of_lt_of_le HTk.out.glt.1 HB4.out.size) (Nat.le_trans HTk.out.bel.size HB4.out.size) (by omega) (by rfl) (by rfl) ?_)
        intro ga' ca' w5 hown5 hC5 hg5 hl5
        have HO5 := Lib.hid hown5
        have HC5 := Lib.hid hC5
        have HX5 := Lib.hid (And.intro hg5 hl5)
        clear hown5 hC5 hg5 hl5
        go_wp2_with (at_builtin; refine wpList_append_tv rfl _ _ rfl (ownsRow_same (ownsRow_same HTk.out.rb (HB4.out.block _ HTk.out.glt.2)) (HC5.out.block _ (Nat.lt_of_lt_of_le HTk.out.glt.2 HB4.out.size) (fun e => HTk.out.ne e.symm))) (Nat.lt_of_lt_of_le (Nat.lt_of_lt_of_le HTk.out.glt.2 HB4.out.size) HC5.out.size) (Nat.le_trans (Nat.le_trans HTk.out.bel.size HB4.out.size) HC5.out.size) (by omega) (by rfl) (by rfl) ?_)
        intro gb' cb' w6 hown6 hC6 hg6 hl6
        have HT6 := Lib.hid (tks_next HTk.out HB4.out HZ4.out (by show TakerAt _ _ (tk0 0 2 (tm T k)); rw [HY.out]; exact HT4.out) HO5.out HC5.out HX5.out.1 HX5.out.2 hown6 hC6 hg6 hl6)
        clear hown6 hC6 hg6 hl6
        go_wp2_with fail
        go_roundw
        case rel => exact ⟨k + 1, ga', ca', gb', cb', _, by omega, by omega, by go_num, by rw [HS1.out], rfl, rfl, HT6.out⟩
        case measure => simp [intOf]; omega
      · obtain rfl : k = 6 := by omega
        have HMin : Hid ((6 : Nat) = min n 6) := Lib.hid (by omega)
        go_wp2_with fail
        with_reducible refine (new_mach g _ 6 cb _ _ HTk.out.vals (fun _ _ => rfl) (by omega)).mono ?_
        rintro e w7 hNM
        obtain ⟨m, rfl, rfl, hm⟩ := made_of HG.out HB1.out HI.out.1 HI.out.2 HE3.out HM3.out HMin.out HTk.out hNM
        have HMd := Lib.hid hm
        clear hNM hm
        go_wp2_with fail
        exact bodyPost_ret (v := .tuple #[.pointer (some ⟨m.g, 0, none⟩), .pointer (some ⟨m.X, 0, none⟩), .slice (some ⟨ga, 0, none⟩) 6 ca1, .int .u32 (sumN (tm T) 6)]) (by simp [results, Tryd.results22, go_sem]) rfl ⟨m, ga, ca1, by rw [← HMin.out], HMd.out⟩
    · obtain rfl : k = n := by omega
      have HMin : Hid (k = min k 6) := Lib.hid (by omega)
      go_wp2_with fail
      with_reducible refine (new_mach g _ k cb _ _ HTk.out.vals (fun _ _ => rfl) (by omega)).mono ?_
      rintro e w7 hNM
      obtain ⟨m, rfl, rfl, hm⟩ := made_of HG.out HB1.out HI.out.1 HI.out.2 HE3.out HM3.out HMin.out HTk.out hNM
      have HMd := Lib.hid hm
      clear hNM hm
      go_wp2_with fail
      exact bodyPost_ret (v := .tuple #[.pointer (some ⟨m.g, 0, none⟩), .pointer (some ⟨m.X, 0, none⟩), .slice (some ⟨ga, 0, none⟩) k ca1, .int .u32 (sumN (tm T) k)]) (by simp [results, Tryd.results22, go_sem]) rfl ⟨m, ga, ca1, by rw [← HMin.out], HMd.out⟩
end Go.Proofs.YtdegfadahlcgnaaDoor
