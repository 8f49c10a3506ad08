/-
  The walks of CountBack and CountMembers.
-/
import Derived.Test.YtphdlplbcajemaaDoorAwake
namespace Go.Proofs.YtphdlplbcajemaaDoor
open Go.RowKit

theorem cell_kept {w w' : World} {b o : Nat} {v : Value} (h : w.cell? ⟨b, o, none⟩ = some v) (hb : Below w.heap.size w w') : w'.cell? ⟨b, o, none⟩ = some v := by
  rw [hb.cell (p := ⟨b, o, none⟩) (lt_of_cell h)]; exact h

theorem hasB_nat (n k : Nat) (hn : n < 256) (hk : k < 8) : hasB n k = n.testBit k := by
  rw [hasB_half n k (by omega) (by omega) hk, Nat.testBit_eq_decide_div_mod_eq]
  have e : ((n : Int) / ((2 ^ k : Nat) : Int) % 2) = ((n / 2 ^ k % 2 : Nat) : Int) := by rw [Int.natCast_emod, Int.natCast_ediv]; rfl
  rw [e]
  exact decide_eq_decide.2 ⟨fun h => by omega, fun h => by omega⟩
theorem setF_congr {f g : Nat → Bool} (m : Nat) (h : ∀ k, k < m → f k = g k) : setF f m = setF g m := by
  induction m with
  | zero => rfl
  | succ m ih =>
    have e := ih (fun k hk => h k (by omega))
    simp only [setF, h m (by omega), e]
theorem setF_self_all : ∀ n : Nat, n < 256 → setF (hasB (n : Int)) 8 = (n : Int) := by decide +kernel
theorem setF_self {s : Int} (h0 : 0 ≤ s) (h1 : s < 256) : setF (hasB s) 8 = s := by
  obtain ⟨n, rfl⟩ := Int.eq_ofNat_of_zero_le h0
  exact setF_self_all n (by omega)
theorem setF_and {s t : Int} (h0 : 0 ≤ s) (h1 : s < 256) (h2 : 0 ≤ t) (h3 : t < 256) : setF (fun k => hasB s k && hasB t k) 8 = bits .and .u8 s t := by
  obtain ⟨n, rfl⟩ := Int.eq_ofNat_of_zero_le h0
  obtain ⟨m, rfl⟩ := Int.eq_ofNat_of_zero_le h2
  rw [u8_and_nat n m (by omega) (by omega)]
  have hlt : n &&& m < 256 := Nat.lt_of_le_of_lt Nat.and_le_left (by omega)
  refine (setF_congr 8 fun k hk => ?_).trans (setF_self_all (n &&& m) hlt)
  rw [hasB_nat n k (by omega) hk, hasB_nat m k (by omega) hk, hasB_nat (n &&& m) k hlt hk, Nat.testBit_and]
theorem of_cores_all : ∀ n : Nat, n < 256 → ofV (coresL (hasB ((n : Nat) : Int)) 8) = (n : Int) ∧ ofE (coresL (hasB (n : Int)) 8) = 0 := by decide +kernel
theorem of_cores {s : Int} (h0 : 0 ≤ s) (h1 : s < 256) : ofV (coresL (hasB s) 8) = s ∧ ofE (coresL (hasB s) 8) = 0 := by
  obtain ⟨n, rfl⟩ := Int.eq_ofNat_of_zero_le h0
  exact of_cores_all n (by omega)
theorem rising_all : ∀ n : Nat, n < 256 → ∀ i : Nat, i < 8 → i + 1 < (coresL (hasB ((n : Nat) : Int)) 8).length → (coresL (hasB (n : Int)) 8).getD i 0 < (coresL (hasB (n : Int)) 8).getD (i + 1) 0 := by decide +kernel
theorem rising {s : Int} (h0 : 0 ≤ s) (h1 : s < 256) {i : Nat} (hi : i + 1 < (coresL (hasB s) 8).length) : (coresL (hasB s) 8).getD i 0 < (coresL (hasB s) 8).getD (i + 1) 0 := by
  obtain ⟨n, rfl⟩ := Int.eq_ofNat_of_zero_le h0
  have := coresL_length (hasB (n : Int)) 8
  exact rising_all n (by omega) i (by omega) hi

namespace countBack
set_option maxHeartbeats 400000 in
/-- The closure of CountBack. -/
theorem closure (p2 p3 : Nat) (s t : Int) (k : Nat) (w : World) (hk : k < 8) (ht : TabOk w)
    (h2 : w.cell? ⟨p2, 0, none⟩ = some (.int .u8 s)) (h3 : w.cell? ⟨p3, 0, none⟩ = some (.int .u8 t)) :
    Calls Tryd.prog 29 #[.int .i64 k, .pointer (some ⟨p2, 0, none⟩), .pointer (some ⟨p3, 0, none⟩)] w fun e w' => e = .returned (.bool (hasB s k && hasB t k)) ∧ w = w' := by
  have hck := ht k hk
  have HT := Lib.hid ht
  clear ht
  cases hb : hasB s k
  · have HBk := Lib.hid hb
    clear hb
    go_enter Tryd.func29, Tryd.ntmps29
    go_wp2_with (go_at_call 24; refine (has_in _ _ _ hk hck).mono ?_; rintro e w' ⟨rfl, rfl⟩; simp only [HBk.out])
    go_ret
    exact ⟨rfl, rfl⟩
  · have HBk := Lib.hid hb
    clear hb
    go_enter Tryd.func29, Tryd.ntmps29
    go_wp2_with (go_at_call 24; first | (with_reducible refine (has_in s _ _ hk hck).mono ?_; rintro e w' ⟨rfl, rfl⟩; simp only [HBk.out]) | (with_reducible refine (has_in t _ _ hk hck).mono ?_; rintro e w' ⟨rfl, rfl⟩))
    go_ret
    exact ⟨ret_b (by simp), rfl⟩

theorem where_back (p2 p3 : Nat) (s t : Int) (w : World) (ht : TabOk w) (a0 : 0 ≤ s) (a1 : s < 256) (b0 : 0 ≤ t) (b1 : t < 256)
    (h2 : w.cell? ⟨p2, 0, none⟩ = some (.int .u8 s)) (h3 : w.cell? ⟨p3, 0, none⟩ = some (.int .u8 t)) :
    Calls Tryd.prog 28 #[.int .i64 8, .func (.func 29) #[] #[.pointer (some ⟨p2, 0, none⟩), .pointer (some ⟨p3, 0, none⟩)]] w fun e w' => e = .returned (.int .u8 (bits .and .u8 s t)) ∧ w = w' :=
  (where_low 29 #[.pointer (some ⟨p2, 0, none⟩), .pointer (some ⟨p3, 0, none⟩)] 8 8 (fun k => hasB s k && hasB t k) w (fun _ W => w = W) enters29 (by omega) (by omega) (.inl ⟨by omega, rfl⟩) rfl (fun _ _ e => e ▸ ht)
    (fun k W hk hW => by subst hW; exact closure p2 p3 s t k w hk ht h2 h3)).mono fun _ _ ⟨h, hw⟩ => ⟨h.trans (ret_u (setF_and a0 a1 b0 b1)), hw⟩

theorem of_back {s : Int} (v : Value) (w : World) (h0 : 0 ≤ s) (h1 : s < 256) (h : Sl w v (coresL (hasB s) 8)) (ht : TabOk w) :
    Calls Tryd.prog 20 #[v] w fun e w' => e = .returned (.tuple #[.int .u8 s, .int .i64 0]) ∧ Below w.heap.size w w' :=
  (of_any v _ w h ht).mono fun _ _ ⟨h, hw⟩ => ⟨h.trans (ret_si (of_cores h0 h1)), hw⟩

set_option maxHeartbeats 1000000 in
theorem walk (s t : Int) (w : World) (ht : TabOk w) (a0 : 0 ≤ s) (a1 : s < 256) (b0 : 0 ≤ t) (b1 : t < 256) :
    Calls Tryd.prog 9 #[.int .u8 s, .int .u8 t] w fun e w' => e = .returned (.bool true) ∧ Below w.heap.size w w' := by
  have hmf : ∀ (fn : Fn) (first cap : Array Value) (w : World), (Instr.makeFunc fn first cap).run Tryd.prog w = .ok (.func fn first cap) w := fun _ _ _ _ => rfl
  have hB1 : Below w.heap.size w ((w.alloc (.cells #[.int .u8 s] 32)).alloc (.cells #[.int .u8 t] 32)) := ((Below.refl _ _).alloc (Nat.le_refl _) _).alloc (by simp) _
  have HT1 := Lib.hid (ht.below hB1)
  have HB1 := Lib.hid hB1
  clear hB1 ht
  go_enter Tryd.func9, Tryd.ntmps9
  go_wp2_with fail
  refine (cores_any _ _ HT1.out).mono ?_
  rintro e w2 ⟨v, rfl, hO, hB⟩
  have hS2 : ((w.alloc (.cells #[.int .u8 s] 32)).alloc (.cells #[.int .u8 t] 32)).cell? ⟨w.heap.size, 0, none⟩ = some (.int .u8 s) := by
    rw [World.cell?_alloc_past _ _ _ (by simp), World.cell?_alloc_at _ _ _ _ rfl]; rfl
  have hT2 : ((w.alloc (.cells #[.int .u8 s] 32)).alloc (.cells #[.int .u8 t] 32)).cell? ⟨w.heap.size + 1, 0, none⟩ = some (.int .u8 t) := by
    rw [World.cell?_alloc_at _ _ _ _ (by simp)]; rfl
  have HT2 := Lib.hid (HT1.out.below hB)
  have HB2 := Lib.hid (HB1.out.trans (hB.mono HB1.out.size))
  have hS2 := cell_kept hS2 hB
  have hT2 := cell_kept hT2 hB
  have hlen := coresL_length (hasB s) 8
  have HSl := Lib.hid (hO.sl (by omega))
  clear hO hB
  go_wp2_with fail
  refine (of_back _ _ a0 a1 HSl.out HT2.out).mono ?_
  rintro e w3 ⟨rfl, hB⟩
  have HT3 := Lib.hid (HT2.out.below hB)
  have HB3 := Lib.hid (HB2.out.trans (hB.mono HB2.out.size))
  have hS3 := cell_kept hS2 hB
  have hT3 := cell_kept hT2 hB
  have HSl3 := Lib.hid (HSl.out.below hB)
  clear hB hS2 hT2 HSl HT2 HB2 HT1 HB1
  go_wp2_with (go_at_call 28; refine (where_back _ _ _ _ _ HT3.out a0 a1 b0 b1 hS3 hT3).mono ?_; rintro e w' ⟨rfl, rfl⟩)
  obtain ⟨hl, ⟨hnil, rfl⟩ | ⟨b, off, cap, rfl, hc⟩⟩ := HSl3.out
  · clear HSl3 hl hnil hlen
    refine wp_loop_rounds 1 ?_
    rw [rounds_succ]
    go_wp2_with fail
    refine (awake_any _ HT3.out).mono ?_
    rintro e w4 ⟨rfl, hB⟩
    have HB4 := Lib.hid (HB3.out.trans (hB.mono HB3.out.size))
    have hS4 := cell_kept hS3 hB
    have hT4 := cell_kept hT3 hB
    clear hB hS3 hT3
    go_wp2
    go_ret
    exact ⟨ret_b (by simp), HB4.out⟩
  · clear HSl3 hl
    have HR := Lib.hid (fun i => rising (i := i) a0 a1)
    have HC := Lib.hid hc
    have hB3 := HB3.out
    clear hc HB3
    generalize coresL (hasB s) 8 = L at HC HR hlen
    generalize hn : L.length = n at HC HR hlen
    clear hn
    go_loopw [9] (fun i wr => ∃ k : Nat, Below w3.heap.size w3 wr ∧ i = .int .i64 ((k : Int) + 1)) (fun i _ => (n + 1 - intOf i).toNat)
    case atStart => exact ⟨0, Below.refl _ _, rfl⟩
    case round =>
      obtain ⟨k, hBr, rfl⟩ := hrel
      have hSr := cell_kept hS3 hBr
      have hTr := cell_kept hT3 hBr
      have HBr := Lib.hid hBr
      clear hBr hS3 hT3
      by_cases hlt : k + 1 < n
      · have g1 := cell_kept (HC.out k (by omega)) HBr.out
        have g2 := cell_kept (HC.out (k + 1) hlt) HBr.out
        have hr := HR.out k hlt
        generalize L.getD k 0 = y1 at g1 hr
        generalize L.getD (k + 1) 0 = y2 at g2 hr
        clear hB3
        go_wp2
        go_quiet (fail)
        go_wp2
        go_roundw
        case rel => exact ⟨k + 1, below_drewN HBr.out _, by go_num⟩
        case measure => simp [intOf]; omega
      · have HB3 := Lib.hid (hB3.trans (HBr.out.mono hB3.size))
        have HTr := Lib.hid (HT3.out.below HBr.out)
        clear hB3 HBr
        go_wp2_with fail
        refine (awake_any _ HTr.out).mono ?_
        rintro e w4 ⟨rfl, hB⟩
        have HB4 := Lib.hid (HB3.out.trans (hB.mono HB3.out.size))
        have hS4 := cell_kept hSr hB
        have hT4 := cell_kept hTr hB
        clear hB hSr hTr
        go_wp2
        go_ret
        exact ⟨ret_b (by simp), HB4.out⟩
end countBack

namespace countMembers
theorem first_is {s x : Int} {r : Bool} (w : World) (ht : TabOk w) (h1 : firstV (hasB s) = x) (h2 : firstB (hasB s) = r) :
    Calls Tryd.prog 22 #[.int .u8 s] w fun e w' => e = .returned (.tuple #[.int .i64 x, .bool r]) ∧ w = w' :=
  (first_any s w ht).mono fun _ _ ⟨h, hw⟩ => ⟨h.trans (ret_ib ⟨h1, h2⟩), hw⟩

set_option maxHeartbeats 1000000 in
theorem walk (s c : Int) (w : World) (ht : TabOk w) (a0 : 0 ≤ s) (a1 : s < 256) (_c0 : -9223372036854775808 ≤ c) (_c1 : c ≤ 9223372036854775807) :
    Calls Tryd.prog 6 #[.int .u8 s, .int .i64 c] w fun e w' => e = .returned (.bool true) ∧ Below w.heap.size w w' := by
  have hlen := coresL_length (hasB s) 8
  have HT := Lib.hid ht
  clear ht
  cases hL : coresL (hasB s) 8 with
  | nil =>
    have e1 : firstV (hasB s) = 0 := by unfold firstV; rw [hL]; rfl
    have e2 : firstB (hasB s) = false := by unfold firstB; rw [hL]; rfl
    have HF := Lib.hid (first_is w HT.out e1 e2)
    have HL := Lib.hid hL
    clear e1 e2 hL hlen
    go_enter Tryd.func6, Tryd.ntmps6
    go_wp2_with (go_at_call 22; refine HF.out.mono ?_; rintro e w' ⟨rfl, rfl⟩)
    refine (rcores_any _ _ a0 a1).mono ?_
    rintro e w1 ⟨v, rfl, hO, hB⟩
    rw [HL.out] at hO
    have HS1 := Lib.hid (hO.sl (by decide))
    have HT1 := Lib.hid (HT.out.below hB)
    have HB1 := Lib.hid hB
    have hv : ∃ a c, v = .slice a 0 c := by
      obtain ⟨_, ⟨_, h⟩ | ⟨b, o, c, h, _⟩⟩ := HS1.out
      · exact ⟨_, _, h⟩
      · exact ⟨_, _, h⟩
    obtain ⟨va, vc, rfl⟩ := hv
    clear hO hB HF
    go_wp2_with fail
    refine (awake_any _ HT1.out).mono ?_
    rintro e w2 ⟨rfl, hB⟩
    have HB2 := Lib.hid (HB1.out.trans (hB.mono HB1.out.size))
    have HT2 := Lib.hid (HT1.out.below hB)
    have HS2 := Lib.hid (HS1.out.below hB)
    clear hB HB1 HT1 HS1
    go_wp2_with (first | (go_at_call 24; refine (has_any _ _ _ HT2.out).mono ?_; rintro e w' ⟨rfl, rfl⟩) | (go_at_call 25; refine (rhas_any _ _ _ a0 a1).mono ?_; rintro e w' ⟨rfl, rfl⟩))
    refine (cores_any _ _ HT2.out).mono ?_
    rintro e w3 ⟨v3, rfl, hO, hB⟩
    rw [HL.out] at hO
    have HS3 := Lib.hid (hO.sl (by decide))
    have HS2' := Lib.hid (HS2.out.below hB)
    have HB3 := Lib.hid (HB2.out.trans (hB.mono HB2.out.size))
    clear hO hB HB2
    go_wp2_with fail
    refine (same_any _ _ _ _ HS3.out HS2'.out).mono ?_
    rintro e w4 ⟨rfl, hB⟩
    have HB4 := Lib.hid (HB3.out.trans (hB.mono HB3.out.size))
    clear hB
    go_wp2
    go_ret
    exact ⟨ret_b (by simp), HB4.out⟩
  | cons x L =>
    have e1 : firstV (hasB s) = x := by unfold firstV; rw [hL]; rfl
    have e2 : firstB (hasB s) = true := by unfold firstB; rw [hL]; rfl
    have HF := Lib.hid (first_is w HT.out e1 e2)
    have HL := Lib.hid hL
    rw [hL] at hlen
    clear e1 e2 hL
    have hlen' : L.length + 1 ≤ 8 := by simpa using hlen
    clear hlen
    go_enter Tryd.func6, Tryd.ntmps6
    go_wp2_with (go_at_call 22; refine HF.out.mono ?_; rintro e w' ⟨rfl, rfl⟩)
    refine (rcores_any _ _ a0 a1).mono ?_
    rintro e w1 ⟨v, rfl, hO, hB⟩
    rw [HL.out] at hO
    have HS1 := Lib.hid (hO.sl (by simp; omega))
    have HT1 := Lib.hid (HT.out.below hB)
    have HB1 := Lib.hid hB
    have hv : ∃ b o c, v = .slice (some ⟨b, o, none⟩) (L.length + 1) c ∧ w1.cell? ⟨b, o, none⟩ = some (.int .i64 x) := by
      obtain ⟨_, ⟨h, _⟩ | ⟨b, o, c, h, hc⟩⟩ := HS1.out
      · cases h
      · exact ⟨b, o, c, h, by simpa using hc 0 (by simp)⟩
    obtain ⟨b, o, vc, rfl, hc0⟩ := hv
    clear hO hB HF
    go_wp2_with fail
    refine (awake_any _ HT1.out).mono ?_
    rintro e w2 ⟨rfl, hB⟩
    have HB2 := Lib.hid (HB1.out.trans (hB.mono HB1.out.size))
    have HT2 := Lib.hid (HT1.out.below hB)
    have HS2 := Lib.hid (HS1.out.below hB)
    clear hB HB1 HT1 HS1 hc0
    go_wp2_with (first | (go_at_call 24; refine (has_any _ _ _ HT2.out).mono ?_; rintro e w' ⟨rfl, rfl⟩) | (go_at_call 25; refine (rhas_any _ _ _ a0 a1).mono ?_; rintro e w' ⟨rfl, rfl⟩))
    refine (cores_any _ _ HT2.out).mono ?_
    rintro e w3 ⟨v3, rfl, hO, hB⟩
    rw [HL.out] at hO
    have HS3 := Lib.hid (hO.sl (by simp; omega))
    have HS2' := Lib.hid (HS2.out.below hB)
    have HB3 := Lib.hid (HB2.out.trans (hB.mono HB2.out.size))
    clear hO hB HB2
    go_wp2_with fail
    refine (same_any _ _ _ _ HS3.out HS2'.out).mono ?_
    rintro e w4 ⟨rfl, hB⟩
    have HB4 := Lib.hid (HB3.out.trans (hB.mono HB3.out.size))
    clear hB
    go_wp2
    go_ret
    exact ⟨ret_b (by simp), HB4.out⟩
end countMembers
end Go.Proofs.YtphdlplbcajemaaDoor
