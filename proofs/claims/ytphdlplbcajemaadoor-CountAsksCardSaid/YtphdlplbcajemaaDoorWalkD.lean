/-
  The walks of CountAsks.
-/
import Derived.Test.YtphdlplbcajemaaDoorAwake
import Derived.OneCell
namespace Go.Proofs.YtphdlplbcajemaaDoor
open Go.RowKit

theorem cell_kept {w w' : World} {b o : Nat} {v : Value} (h : w.cell? ⟨b, o, none⟩ = some v) (hb : Below w.heap.size w w') : w'.cell? ⟨b, o, none⟩ = some v := by
  rw [hb.cell (p := ⟨b, o, none⟩) (lt_of_cell h)]; exact h
theorem own_ne {w : World} {base n b : Nat} {v : Value} {xs : List Value} {c : Array Value} (h : w.ownsRow base 3 1 v n xs) (hb : w.heap[b]? = some (.cells c 31 (0, 0))) : v.ownBlock ≠ some b := by
  intro e
  obtain ⟨_, ⟨rfl, _⟩ | ⟨g, cap, cur, rfl, _, hh, _⟩⟩ := h
  · cases e
  · have e' : g = b := by simpa [Value.ownBlock] using e
    subst e'
    rw [hb] at hh
    simp at hh

theorem own_slice {w : World} {base n : Nat} {v : Value} {xs : List Value} (h : w.ownsRow base 3 1 v n xs) : ∃ a m c, v = .slice a m c := by
  obtain ⟨_, ⟨rfl, _⟩ | ⟨g, cap, cur, rfl, _⟩⟩ := h
  · exact ⟨_, _, _, rfl⟩
  · exact ⟨_, _, _, rfl⟩

namespace countAsks
/-- The numbers below k. -/
def upto (k : Nat) : List Int := coresL (fun _ => true) k
theorem upto_succ (k : Nat) : upto (k + 1) = upto k ++ [(k : Int)] := coresL_yes rfl
theorem upto_length (k : Nat) : (upto k).length = k := by
  induction k with
  | zero => rfl
  | succ k ih => rw [upto_succ]; simp [ih]
theorem upto_at {k i : Nat} (h : i < k) : (upto k).getD i 0 = i := by
  induction k with
  | zero => omega
  | succ k ih =>
    rw [upto_succ]
    by_cases e : i = k
    · subst e
      simp [List.getD, upto_length]
    · have := ih (by omega)
      have hl : i < (upto k).length := by rw [upto_length]; omega
      simpa [List.getD, List.getElem?_append, hl] using this

/-- What is known when k cores have been asked about: the list of those, in a variable of the call's own. -/
def AskR (w : World) (s : Int) (k : Nat) (W : World) : Prop :=
  ∃ v, W.heap[w.heap.size + 1 + 1]? = some (.cells #[v] 31 (0, 0)) ∧ OwnL W (w.heap.size + 1) v (upto k) ∧ W.cell? ⟨w.heap.size, 0, none⟩ = some (.int .u8 s) ∧ Below w.heap.size w W

theorem askR_step {w W w1 : World} {s : Int} {k : Nat} {v v' : Value} (hb : W.heap[w.heap.size + 1 + 1]? = some (.cells #[v] 31 (0, 0))) (hO : OwnL W (w.heap.size + 1) v (upto k))
    (hs : W.cell? ⟨w.heap.size, 0, none⟩ = some (.int .u8 s)) (hB : Below w.heap.size w W)
    (hown : OwnL w1 (w.heap.size + 1) v' (upto k ++ [(k : Int)])) (hg : (W.alloc (.cells #[.int .i64 k] 3)).grownBy w1 v.ownBlock) :
    w1.heap[w.heap.size + 1 + 1]? = some (.cells #[v] 31 (0, 0)) ∧ w1.cell? ⟨w.heap.size, 0, none⟩ = some (.int .u8 s) ∧ AskR w s (k + 1) (w1.setCell ⟨w.heap.size + 1 + 1, 0, none⟩ v') := by
  have hne := own_ne hO hb
  have hlt := lt_of_block hb
  have hrow : ∀ g, v.ownBlock = some g → w.heap.size + 1 ≤ g := fun g e => (World.ownsRow.lt hO g e).1
  have h1 : w1.heap[w.heap.size + 1 + 1]? = some (.cells #[v] 31 (0, 0)) := by
    rw [hg.block (w.heap.size + 1 + 1) (by simp; omega) (fun e => hne e.symm), Below.heap_alloc _ _ _ hlt]
    exact hb
  have hn : some w.heap.size ≠ v.ownBlock := fun e => by have := hrow _ e.symm; omega
  have h2 : w1.cell? ⟨w.heap.size, 0, none⟩ = some (.int .u8 s) := hg.cell (a := ⟨w.heap.size, 0, none⟩) (by rw [World.cell?_alloc_past _ _ _ (by show w.heap.size < _; omega)]; exact hs) hn
  refine ⟨h1, h2, v', one_setCell h1, ?_, ?_, ?_⟩
  · rw [upto_succ]
    exact ownsRow_setCell_other hown (own_ne hown h1) _
  · rw [World.cell?_of_block (w := w1) (Below.heap_setCell _ _ _ _ (by show w.heap.size ≠ w.heap.size + 1 + 1; omega))]
    exact h2
  · exact ((hB.alloc (by omega) _).grown hg (by simp; omega) (fun g e => by have := hrow g e; omega)).setCell (by show w.heap.size ≤ w.heap.size + 1 + 1; omega) _

theorem ask_bit_all : ∀ n : Nat, n < 256 → ∀ k : Nat, k < 8 → (bits .and .u8 ((n : Int) / 2 ^ min (IntKind.u64.wrap (bits .and .i64 (k : Int) 7)).toNat 8) 1 == 1) = hasB (n : Int) k := by decide +kernel
theorem ask_bit {s : Int} {k : Nat} (a0 : 0 ≤ s) (a1 : s < 256) (hk : k < 8) : (bits .and .u8 (s / 2 ^ min (IntKind.u64.wrap (bits .and .i64 (k : Int) 7)).toNat 8) 1 == 1) = hasB s k := by
  obtain ⟨n, rfl⟩ := Int.eq_ofNat_of_zero_le a0
  exact ask_bit_all n (by omega) k hk

set_option maxHeartbeats 1000000 in
theorem closure (k : Nat) (s : Int) (w W : World) (hk : k < 8) (a0 : 0 ≤ s) (a1 : s < 256) (h : AskR w s k W) :
    Calls Tryd.prog 30 #[.int .i64 k, .pointer (some ⟨w.heap.size + 1 + 1, 0, none⟩), .pointer (some ⟨w.heap.size, 0, none⟩)] W fun e w' => e = .returned (.bool (hasB s k)) ∧ AskR w s (k + 1) w' := by
  obtain ⟨v, hb, hO, hs, hB⟩ := h
  obtain ⟨i0, hi, hz0, hz1, hz2⟩ := info_parts info3
  have hc := cell_of_one hb
  have hlt := lt_of_block hb
  have hown : W.ownsRow (w.heap.size + 1) 3 1 _ _ _ := hO
  have hlen := upto_length k
  have HL := Lib.hid hlen
  have hle : (upto k).length ≤ 8 := by omega
  have Hb := Lib.hid hb
  have HO := Lib.hid hO
  have Hs := Lib.hid hs
  have HB := Lib.hid hB
  clear hb hO hs hB hlen
  go_enter Tryd.func30, Tryd.ntmps30
  go_wp2_with (at_builtin; refine wpList_append_own _ rfl _ _ 31 rfl (w.heap.size + 1) 3 i0 (.int .i64 0) 1 8 Tryd.underlying31 hi hz0 hz1 hz2 rfl (by decide) _ _ _ rfl (hown.alloc _) ⟨W.heap.size, 0, none⟩ 1 1 [.int .i64 (k : Int)] rfl rfl ?c1 ?c2 ?c3 ?c4 ?c5 ?_)
  case c1 =>
    intro j u hj
    match j, hj with
    | 0, hj => simp at hj; subst hj; simp [Addr.add]
  case c2 => intro u hu; simp at hu; subst hu; rfl
  case c3 => unfold maxLen; omega
  case c4 => omega
  case c5 => simp; omega
  intro v' w1 hown' hgrow _
  obtain ⟨va, vm, vc, rfl⟩ := own_slice hown'
  obtain ⟨hb1, hs1, hR⟩ := askR_step Hb.out HO.out Hs.out HB.out (OwnL.snoc hown') hgrow
  have HR := Lib.hid hR
  have hc1 := cell_of_one hb1
  have hf1 := free_of_one hb1
  clear hown' hgrow hown hc hb1 hR
  go_wp2
  go_ret
  exact ⟨ret_b (ask_bit a0 a1 hk), HR.out⟩

theorem ask_mask_all : ∀ n : Nat, n < 256 → ∀ k : Nat, k < 9 → (setF (hasB (n : Int)) k == bits .and .u8 (n : Int) ((2 ^ k - 1) % 256)) = true := by decide +kernel
theorem ask_mask {s : Int} {k : Nat} (a0 : 0 ≤ s) (a1 : s < 256) (hk : k ≤ 8) : (setF (hasB s) k == bits .and .u8 s ((2 ^ k - 1) % 256)) = true := by
  obtain ⟨n, rfl⟩ := Int.eq_ofNat_of_zero_le a0
  exact ask_mask_all n (by omega) k (by omega)
theorem ask_mask0 {s : Int} (a0 : 0 ≤ s) (a1 : s < 256) : (setF (hasB s) 0 == bits .and .u8 s 0) = true := ask_mask (k := 0) a0 a1 (by omega)
theorem ask_mask8 {s : Int} (a0 : 0 ≤ s) (a1 : s < 256) : (setF (hasB s) 8 == bits .and .u8 s 255) = true := ask_mask (k := 8) a0 a1 (by omega)

theorem askR_start (w : World) (s : Int) : AskR w s 0 (((w.alloc (.cells #[.int .u8 s] 32)).alloc (.cells #[] 3)).alloc (.cells #[.slice (some ⟨w.heap.size + 1, 0, none⟩) 0 0] 31)) := by
  refine ⟨.slice (some ⟨w.heap.size + 1, 0, none⟩) 0 0, ?_, ?_, ?_, (((Below.refl _ _).alloc (Nat.le_refl _) _).alloc (by simp) _).alloc (by simp; omega) _⟩
  · show (((w.heap.push (.cells #[.int .u8 s] 32)).push (.cells #[] 3)).push (.cells #[.slice (some ⟨w.heap.size + 1, 0, none⟩) 0 0] 31))[w.heap.size + 1 + 1]? = _
    rw [Array.getElem?_push, if_pos (by simp)]
  · have h := World.ownsRow_lit (base := w.heap.size + 1) (e := 3) (size := 1) (w.alloc (.cells #[.int .u8 s] 32)) #[] 0 (by simp) (by decide) rfl
    have e : (w.alloc (.cells #[.int .u8 s] 32)).heap.size = w.heap.size + 1 := by simp
    rw [e] at h
    exact h.alloc (.cells #[.slice (some ⟨w.heap.size + 1, 0, none⟩) 0 0] 31)
  · rw [World.cell?_alloc_past _ _ _ (by simp; omega), World.cell?_alloc_past _ _ _ (by simp), World.cell?_alloc_at _ _ _ _ rfl]
    rfl

set_option maxHeartbeats 1000000 in
theorem walk_low (m : Nat) (s : Int) (w : World) (ht : TabOk w) (hm : m ≤ 8) (a0 : 0 ≤ s) (a1 : s < 256) :
    Calls Tryd.prog 10 #[.int .i64 m, .int .u8 s] w fun e w' => e = .returned (.bool true) ∧ Below w.heap.size w w' := by
  have hmf : ∀ (fn : Fn) (first cap : Array Value) (w : World), (Instr.makeFunc fn first cap).run Tryd.prog w = .ok (.func fn first cap) w := fun _ _ _ _ => rfl
  have HW := Lib.hid (where_low 30 #[.pointer (some ⟨w.heap.size + 1 + 1, 0, none⟩), .pointer (some ⟨w.heap.size, 0, none⟩)] m m (hasB s) _ (AskR w s) enters30 hm (by omega) (.inl ⟨by omega, rfl⟩) (askR_start w s)
    (fun _ _ ⟨_, _, _, _, hB⟩ => ht.below hB) (fun k W hk hR => closure k s w W (by omega) a0 a1 hR))
  have HT := Lib.hid ht
  clear ht
  go_enter Tryd.func10, Tryd.ntmps10
  go_wp2_with (go_at_call 28; refine HW.out.mono ?_; rintro e w1 ⟨rfl, hR⟩)
  obtain ⟨v, hb, hO, hs, hB⟩ := hR
  have HT1 := Lib.hid (HT.out.below hB)
  have HB1 := Lib.hid hB
  have hc := cell_of_one hb
  have HS := Lib.hid (hO.sl (by rw [upto_length]; omega))
  clear hb hO hB HW
  refine (awake_any _ HT1.out).mono ?_
  rintro e w2 ⟨rfl, hB⟩
  have HB2 := Lib.hid (HB1.out.trans (hB.mono HB1.out.size))
  have hs2 := cell_kept hs hB
  have hc2 := cell_kept hc hB
  have HS2 := HS.out.below hB
  clear hB hs hc HS HB1 HT1
  obtain ⟨hl, ⟨hnil, rfl⟩ | ⟨b, off, cap, rfl, hcell⟩⟩ := HS2
  · have hm0 : m = 0 := by rw [← upto_length m, hnil]; rfl
    subst hm0
    clear hnil hl
    go_wp2
    refine wp_loop_rounds 1 ?_
    rw [rounds_succ]
    go_wp2
    go_ret
    exact ⟨ret_b (ask_mask0 a0 a1), HB2.out⟩
  · rw [upto_length] at hcell
    rw [upto_length] at hc2
    have HC := Lib.hid hcell
    clear hcell hl
    go_wp2
    go_loop [8] (fun i => ∃ k : Nat, k ≤ m ∧ i = .int .i64 k) (fun i => m - (intOf i).toNat)
    case atStart => exact ⟨0, by omega, rfl⟩
    case round =>
      obtain ⟨k, hk, rfl⟩ := hrel
      by_cases hlt : k < m
      · have hck := HC.out k hlt
        rw [upto_at hlt] at hck
        go_wp2
        go_round
        case rel => exact ⟨k + 1, hlt, by go_num⟩
        case measure => simp [intOf]; omega
      · have hkm : k = m := by omega
        subst hkm
        go_wp2
        go_ret
        exact ⟨ret_b (ask_mask a0 a1 hm), HB2.out⟩
set_option maxHeartbeats 1000000 in
theorem walk_big (n s : Int) (w : World) (ht : TabOk w) (hn : 8 < n) (_hn1 : n ≤ 9223372036854775807) (a0 : 0 ≤ s) (a1 : s < 256) :
    Calls Tryd.prog 10 #[.int .i64 n, .int .u8 s] w fun e w' => e = .returned (.bool true) ∧ Below w.heap.size w w' := by
  have hmf : ∀ (fn : Fn) (first cap : Array Value) (w : World), (Instr.makeFunc fn first cap).run Tryd.prog w = .ok (.func fn first cap) w := fun _ _ _ _ => rfl
  have HW := Lib.hid (where_big 30 #[.pointer (some ⟨w.heap.size + 1 + 1, 0, none⟩), .pointer (some ⟨w.heap.size, 0, none⟩)] n 8 (hasB s) _ (AskR w s) enters30 (by omega) hn rfl (askR_start w s)
    (fun _ _ ⟨_, _, _, _, hB⟩ => ht.below hB) (fun k W hk hR => closure k s w W (by omega) a0 a1 hR))
  have HT := Lib.hid ht
  clear ht
  go_enter Tryd.func10, Tryd.ntmps10
  go_wp2_with (go_at_call 28; refine HW.out.mono ?_; rintro e w1 ⟨rfl, hR⟩)
  obtain ⟨v, hb, hO, hs, hB⟩ := hR
  have HT1 := Lib.hid (HT.out.below hB)
  have HB1 := Lib.hid hB
  have hc := cell_of_one hb
  have HS := Lib.hid (hO.sl (by rw [upto_length]; omega))
  clear hb hO hB HW
  refine (awake_any _ HT1.out).mono ?_
  rintro e w2 ⟨rfl, hB⟩
  have HB2 := Lib.hid (HB1.out.trans (hB.mono HB1.out.size))
  have hs2 := cell_kept hs hB
  have hc2 := cell_kept hc hB
  have HS2 := HS.out.below hB
  clear hB hs hc HS HB1 HT1
  obtain ⟨hl, ⟨hnil, rfl⟩ | ⟨b, off, cap, rfl, hcell⟩⟩ := HS2
  · have hm0 : (8 : Nat) = 0 := by rw [← upto_length 8, hnil]; rfl
    omega
  · rw [upto_length] at hcell
    rw [upto_length] at hc2
    have HC := Lib.hid hcell
    clear hcell hl
    go_wp2
    go_loop [8] (fun i => ∃ k : Nat, k ≤ 8 ∧ i = .int .i64 k) (fun i => 8 - (intOf i).toNat)
    case atStart => exact ⟨0, by omega, rfl⟩
    case round =>
      obtain ⟨k, hk, rfl⟩ := hrel
      by_cases hlt : k < 8
      · have hck := HC.out k hlt
        rw [upto_at hlt] at hck
        go_wp2
        go_round
        case rel => exact ⟨k + 1, hlt, by go_num⟩
        case measure => simp [intOf]; omega
      · go_wp2
        go_ret
        exact ⟨ret_b (ask_mask8 a0 a1), HB2.out⟩

set_option maxHeartbeats 1000000 in
theorem walk_neg (n s : Int) (w : World) (ht : TabOk w) (hn : n < 0) (hn1 : -9223372036854775808 ≤ n) (a0 : 0 ≤ s) (a1 : s < 256) :
    Calls Tryd.prog 10 #[.int .i64 n, .int .u8 s] w fun e w' => e = .returned (.bool true) ∧ Below w.heap.size w w' := by
  have hmf : ∀ (fn : Fn) (first cap : Array Value) (w : World), (Instr.makeFunc fn first cap).run Tryd.prog w = .ok (.func fn first cap) w := fun _ _ _ _ => rfl
  have HW := Lib.hid (where_low 30 #[.pointer (some ⟨w.heap.size + 1 + 1, 0, none⟩), .pointer (some ⟨w.heap.size, 0, none⟩)] n 0 (hasB s) _ (AskR w s) enters30 (by omega) (by omega) (.inr ⟨hn, rfl⟩) (askR_start w s)
    (fun _ _ ⟨_, _, _, _, hB⟩ => ht.below hB) (fun k W hk hR => closure k s w W (by omega) a0 a1 hR))
  have HT := Lib.hid ht
  clear ht
  go_enter Tryd.func10, Tryd.ntmps10
  go_wp2_with (go_at_call 28; refine HW.out.mono ?_; rintro e w1 ⟨rfl, hR⟩)
  obtain ⟨v, hb, hO, hs, hB⟩ := hR
  have HT1 := Lib.hid (HT.out.below hB)
  have HB1 := Lib.hid hB
  have hc := cell_of_one hb
  have HS := Lib.hid (hO.sl (by rw [upto_length]; omega))
  clear hb hO hB HW
  refine (awake_any _ HT1.out).mono ?_
  rintro e w2 ⟨rfl, hB⟩
  have HB2 := Lib.hid (HB1.out.trans (hB.mono HB1.out.size))
  have hs2 := cell_kept hs hB
  have hc2 := cell_kept hc hB
  have HS2 := HS.out.below hB
  clear hB hs hc HS HB1 HT1
  have hv : ∃ a c, v = .slice a 0 c := by
    obtain ⟨_, ⟨_, h⟩ | ⟨b, o, c, h, _⟩⟩ := HS2
    · exact ⟨_, _, h⟩
    · exact ⟨_, _, h⟩
  obtain ⟨va, vc, rfl⟩ := hv
  clear HS2
  go_wp2
  refine wp_loop_rounds 1 ?_
  rw [rounds_succ]
  go_wp2
  go_ret
  exact ⟨ret_b (ask_mask0 a0 a1), HB2.out⟩

theorem walk (n s : Int) (w : World) (ht : TabOk w) (n0 : -9223372036854775808 ≤ n) (n1 : n ≤ 9223372036854775807) (a0 : 0 ≤ s) (a1 : s < 256) :
    Calls Tryd.prog 10 #[.int .i64 n, .int .u8 s] w fun e w' => e = .returned (.bool true) ∧ Below w.heap.size w w' := by
  by_cases hb : 8 < n
  · exact walk_big n s w ht hb n1 a0 a1
  · by_cases hneg : n < 0
    · exact walk_neg n s w ht hneg n0 a0 a1
    · obtain ⟨m, rfl⟩ := Int.eq_ofNat_of_zero_le (show 0 ≤ n by omega)
      exact walk_low m s w ht (by omega) a0 a1
end countAsks
end Go.Proofs.YtphdlplbcajemaaDoor
