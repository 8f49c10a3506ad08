/-
  Lists of versions; a new reader; slices.Grow and slices.Concat of words.
-/
import Derived.Test.YtoaaeamogpdcgaaDoorRdW
import Derived.Lib.AppendZerosOnto
import Derived.Lib.SliceRun
import Derived.Laws.AppendOwnNone
namespace Go.Proofs.YtoaaeamogpdcgaaDoor
open Go.RowKit

theorem info_parts {t : TypeId} {z : Value} {s b : Nat} (h : (Tryd.prog.info? t).map (fun i => (i.zero, i.size, i.bytes)) = some (some z, s, b)) : ∃ i0, Tryd.prog.info? t = some i0 ∧ i0.zero = some z ∧ i0.size = s ∧ i0.bytes = b := by
  cases hq : Tryd.prog.info? t with
  | none => simp [hq] at h
  | some i =>
    simp [hq] at h
    exact ⟨i, rfl, h.1, h.2.1, h.2.2⟩
theorem add_off (b o j : Nat) : (⟨b, o, none⟩ : Addr).add j = ⟨b, o + j, none⟩ := Addr.add_mid b o j
/-- Numbers in a list, in blocks below H. -/
def ArgN (k : IntKind) (H : Nat) (w : World) (A : Option Addr) (n : Nat) (q : Nat → Int) : Prop := ∀ i, i < n → ∃ b o, A = some ⟨b, o, none⟩ ∧ b < H ∧ w.cell? ⟨b, o + i, none⟩ = some (.int k (q i))
theorem ArgN.keep {k : IntKind} {H : Nat} {w w' : World} {A : Option Addr} {n : Nat} {q : Nat → Int} (h : ArgN k H w A n q) (hB : Below H w w') : ArgN k H w' A n q := fun i hi => by
  obtain ⟨b, o, e, hb, hc⟩ := h i hi
  exact ⟨b, o, e, hb, by rw [hB.cell (p := ⟨b, o + i, none⟩) hb]; exact hc⟩
theorem ArgN.cell {k : IntKind} {H : Nat} {w : World} {b o n : Nat} {q : Nat → Int} (h : ArgN k H w (some ⟨b, o, none⟩) n q) {i : Nat} (hi : i < n) : w.cell? ⟨b, o + i, none⟩ = some (.int k (q i)) := by
  obtain ⟨b', o', e, _, hc⟩ := h i hi
  injection e with e
  injection e with e1 e2
  subst e1 e2
  exact hc
theorem ArgN.head {k : IntKind} {H : Nat} {w : World} {A : Option Addr} {n : Nat} {q : Nat → Int} (h : ArgN k H w A n q) {i : Nat} (hi : i < n) : ∃ b o, A = some ⟨b, o, none⟩ := by
  obtain ⟨b, o, e, _⟩ := h i hi
  exact ⟨b, o, e⟩
theorem ArgN.us {H : Nat} {w : World} {A : Option Addr} {n : Nat} {q : Nat → Int} (h : ArgN .u32 H w A n q) : Us w A n q := fun i hi => by
  obtain ⟨b, o, e, _, hc⟩ := h i hi
  exact ⟨b, o, e, hc⟩
/-- A version as it is given: where, how many words, how much room, the words. -/
structure Ver where
  p : Option Addr
  n : Nat
  c : Nat
  v : Nat → Int
/-- A list of versions, in blocks below H. -/
def VersN (H : Nat) (w : World) (A : Option Addr) (L : Nat) (F : Nat → Ver) : Prop :=
  ∀ i, i < L → ∃ b o, A = some ⟨b, o, none⟩ ∧ b < H ∧ w.cell? ⟨b, o + i, none⟩ = some (.slice (F i).p (F i).n (F i).c) ∧ ArgN .u32 H w (F i).p (F i).n (F i).v
theorem VersN.keep {H : Nat} {w w' : World} {A : Option Addr} {L : Nat} {F : Nat → Ver} (h : VersN H w A L F) (hB : Below H w w') : VersN H w' A L F := fun i hi => by
  obtain ⟨b, o, e, hb, hc, hv⟩ := h i hi
  exact ⟨b, o, e, hb, by rw [hB.cell (p := ⟨b, o + i, none⟩) hb]; exact hc, hv.keep hB⟩
theorem VersN.cell {H : Nat} {w : World} {b o L : Nat} {F : Nat → Ver} (h : VersN H w (some ⟨b, o, none⟩) L F) {i : Nat} (hi : i < L) : w.cell? ⟨b, o + i, none⟩ = some (.slice (F i).p (F i).n (F i).c) := by
  obtain ⟨b', o', e, _, hc, _⟩ := h i hi
  injection e with e
  injection e with e1 e2
  subst e1 e2
  exact hc
theorem VersN.head {H : Nat} {w : World} {A : Option Addr} {L : Nat} {F : Nat → Ver} (h : VersN H w A L F) {i : Nat} (hi : i < L) : ∃ b o, A = some ⟨b, o, none⟩ := by
  obtain ⟨b, o, e, _⟩ := h i hi
  exact ⟨b, o, e⟩
theorem VersN.ver {H : Nat} {w : World} {A : Option Addr} {L : Nat} {F : Nat → Ver} (h : VersN H w A L F) {i : Nat} (hi : i < L) : ArgN .u32 H w (F i).p (F i).n (F i).v := by
  obtain ⟨_, _, _, _, _, hv⟩ := h i hi
  exact hv
theorem VersN.up {H H' : Nat} {w : World} {A : Option Addr} {L : Nat} {F : Nat → Ver} (h : VersN H w A L F) (hH : H ≤ H') : VersN H' w A L F := fun i hi => by
  obtain ⟨b, o, e, hb, hc, hv⟩ := h i hi
  exact ⟨b, o, e, by omega, hc, fun j hj => by
    obtain ⟨b', o', e', hb', hc'⟩ := hv j hj
    exact ⟨b', o', e', by omega, hc'⟩⟩

/-- Whether there may be so many words. -/
def fitB (x : Int) : Bool := decide (1 ≤ x ∧ x ≤ 32)
theorem fitB_yes {x : Int} (h : 1 ≤ x ∧ x ≤ 32) : fitB x = true := decide_eq_true h
theorem fitB_no {x : Int} (h : ¬ (1 ≤ x ∧ x ≤ 32)) : fitB x = false := decide_eq_false h
set_option maxHeartbeats 1000000 in
theorem fits_any (x : Int) (w : World) : Calls Tryd.prog 28 #[.int .i64 x] w fun e w' => e = .returned (.bool (fitB x)) ∧ w' = w := by
  by_cases h1 : 1 ≤ x
  · by_cases h2 : x ≤ 32
    · rw [fitB_yes ⟨h1, h2⟩]
      go_enter Tryd.func28, Tryd.ntmps28
      go_wp2_with fail
      go_ret
      exact ⟨rfl, rfl⟩
    · rw [fitB_no (by omega)]
      go_enter Tryd.func28, Tryd.ntmps28
      go_wp2_with fail
      go_ret
      exact ⟨rfl, rfl⟩
  · rw [fitB_no (by omega)]
    go_enter Tryd.func28, Tryd.ntmps28
    go_wp2_with fail
    go_ret
    exact ⟨rfl, rfl⟩
/-- A new reader. -/
def rd0 (at' : Int) (n : Nat) : Rd := ⟨⟨at', n, 0, 0⟩, 0, 0, fun _ => 0⟩
set_option maxHeartbeats 1000000 in
theorem newr_no (at' x : Int) (w : World) (h : ¬ (1 ≤ x ∧ x ≤ 32)) : Calls Tryd.prog 13 #[.int .i64 at', .int .i64 x] w fun e w' => e = .returned (.tuple #[.pointer none, .int .i64 100]) ∧ w' = w := by
  have HF := fun W => Lib.hid (fits_any x W)
  rw [fitB_no h] at HF
  clear h
  go_enter Tryd.func13, Tryd.ntmps13
  go_wp2_with fail
  with_reducible refine (HF _).out.mono ?_
  rintro e w1 ⟨rfl, rfl⟩
  go_wp2_with fail
  go_ret2
  exact ⟨rfl, rfl⟩
theorem reader_new (at' : Int) (n : Nat) (w : World) (h1 : 1 ≤ n) (h2 : n ≤ 32) (ha : -1000 ≤ at' ∧ at' ≤ 1000) (c : Array Value) (hc : c = (([.int .i64 at', .int .i64 n, .int .i64 0, .int .i64 0, .int .u32 0, .int .i64 0] : List Value) ++ List.replicate 32 (Value.int .u32 0)).toArray) :
    ReaderAt (w.alloc (.cells c 77)) w.heap.size 0 (rd0 at' n) := by
  subst hc
  refine ⟨⟨al_new _ _ _ _ _ rfl rfl, al_new _ _ _ _ _ rfl rfl, al_new _ _ _ _ _ rfl rfl, al_new _ _ _ _ _ rfl rfl, fun j => frozen_new _ _ _ _, ha, h2, ?_⟩, al_new _ _ _ _ _ rfl rfl, al_new _ _ _ _ _ rfl rfl, fun i hi => al_new _ _ _ _ _ rfl ?_, ?_⟩
  · exact ⟨by show 0 < 32; omega, by show 0 ≤ 4; omega, fun _ => ⟨by show 0 < n; omega, fun _ => rfl⟩⟩
  · rw [List.getElem?_toArray, List.getElem?_append_right (by simp), List.getElem?_replicate]
    rw [if_pos (by simpa using hi)]
    rfl
  · show 0 ≤ 1000000; omega
set_option maxHeartbeats 4000000 in
set_option maxRecDepth 100000 in
theorem newr_yes (at' x : Int) (n : Nat) (w : World) (hx : x = n) (h1 : 1 ≤ n) (h2 : n ≤ 32) (ha : -1000 ≤ at' ∧ at' ≤ 1000) :
    Calls Tryd.prog 13 #[.int .i64 at', .int .i64 x] w fun e w' => e = .returned (.tuple #[.pointer (some ⟨w.heap.size, 0, none⟩), .int .i64 0]) ∧ ReaderAt w' w.heap.size 0 (rd0 at' n) ∧ Below w.heap.size w w' ∧ w'.heap.size = w.heap.size + 1 := by
  have HF := fun W => Lib.hid (fits_any x W)
  rw [fitB_yes (show 1 ≤ x ∧ x ≤ 32 by omega)] at HF
  have HH := Lib.hid (And.intro hx (And.intro h1 h2))
  have HA := Lib.hid ha
  clear hx h1 h2 ha
  go_enter Tryd.func13, Tryd.ntmps13
  go_wp2_with fail
  with_reducible refine (HF _).out.mono ?_
  rintro e w1 ⟨rfl, rfl⟩
  go_wp2_with fail
  go_ret2
  obtain ⟨rfl, h1, h2⟩ := HH.out
  exact ⟨rfl, reader_new at' n _ h1 h2 HA.out _ rfl, (Below.refl _ _).alloc (Nat.le_refl _) _, by simp⟩

set_option maxHeartbeats 1000000 in
set_option maxRecDepth 100000 in
theorem grow_nil (n : Nat) (w : World) (h0 : 0 < n) (hn : n ≤ 2000000) :
    Calls Tryd.prog 34 #[.slice none 0 0, .int .i64 n] w fun e w' => e = .returned (.slice (some ⟨w.heap.size, 0, none⟩) 0 (grownCap w n 0 22)) ∧
      ∃ cur : Array Value, w' = w.drew.alloc (.cells cur 22) ∧ cur.size = grownCap w n 0 22 := by
  obtain ⟨i0, hi, hz0, hz1, hz2⟩ := info_parts info22
  have hold : (Builtin.firstCells i0.size 0 (.slice none 0 0)).run Tryd.prog w.drew = .ok ([] : List Value).toArray w.drew := run_firstCells_none w.drew i0.size 0 0 0
  have hfit : Builtin.nextslicecap (0 + n) 0 * i0.bytes ≤ 281474976710656 := growslice_fits (by omega) (by rw [hz2]; omega)
  have hG : n ≤ grownCap w n 0 22 := grownCap_ge w _ _ _
  have hrz : ∀ ty, (Builtin.append_ #[37, 3] ty #[.slice none 0 0, .int .i64 (n : Int)]).run Tryd.prog w =
      .ok (.slice (some ⟨w.heap.size, 0, none⟩) n (grownCap w n 0 22)) (w.drew.alloc (.cells (#[] ++ Builtin.zeroCells (Value.int .u32 0).cells n ++ Builtin.zeroCells (Value.int .u32 0).cells (grownCap w n 0 22 - n)) 22)) := fun ty => by
    have h := Lib.run_append_grow_zeros w 37 3 ty 22 i0 (.int .u32 0) .i64 .i64 Tryd.underlying37 Tryd.underlying3 hi hz0 none 0 0 [] hold n (by omega) (by omega) (by omega) (by omega) (by rw [hz2]; omega) hfit
    simp only [Nat.zero_add] at h
    exact h
  obtain ⟨cur, hcur⟩ : ∃ cur, cur = (#[] ++ Builtin.zeroCells (Value.int .u32 0).cells n ++ Builtin.zeroCells (Value.int .u32 0).cells (grownCap w n 0 22 - n)) := ⟨_, rfl⟩
  have hsz : cur.size = grownCap w n 0 22 := by
    rw [hcur]
    simp [size_zeroCells, Value.cells]
    omega
  rw [← hcur] at hrz
  clear hcur hold hfit
  have hG63 : grownCap w n 0 22 ≤ 9223372036854775807 := by
    have := grownCap_le_maxLen w n 0 22 (by unfold maxLen; omega)
    unfold maxLen at this
    omega
  generalize grownCap w n 0 22 = G at *
  have HS := Lib.hid hsz
  clear hsz
  go_enter Tryd.func34, Tryd.ntmps34
  go_wp2_with (at_builtin; refine Lib.wpList_append_run _ rfl _ _ _ _ rfl _ _ rfl rfl _ _ (hrz _) ?_)
  all_goals (go_ret; exact ⟨rfl, _, rfl, HS.out⟩)
theorem grow_own (n : Nat) (w : World) (h0 : 0 < n) (hn : n ≤ 2000000) :
    Calls Tryd.prog 34 #[.slice none 0 0, .int .i64 n] w fun e w' => ∃ v, e = .returned v ∧ w'.ownsRow w.heap.size 22 1 v 0 [] ∧ v ≠ .slice none 0 0 ∧ Below w.heap.size w w' :=
  (grow_nil n w h0 hn).mono fun _ _ ⟨he, cur, hw, hc⟩ => by
    subst hw
    refine ⟨_, he, World.ownsRow_made w.drew cur _ (Nat.le_refl _) ?_ (by rw [hc]; omega), by simp, ((Below.refl _ _).drew).alloc (Nat.le_refl _) _⟩
    exact grownCap_le_maxLen w n 0 22 (by unfold maxLen; omega)
theorem words_own {w : World} {base : Nat} {v : Value} {n : Nat} {f : Nat → Int} (hn : 0 < n) (h : w.ownsRow base 22 1 v n ((List.range n).map fun i => .int .u32 (f i))) : ∃ G cap, v = .slice (some ⟨G, 0, none⟩) n cap ∧ base ≤ G ∧ G < w.heap.size ∧ Us w (some ⟨G, 0, none⟩) n f ∧ ∀ j, w.frozen? ⟨G, j, none⟩ = false := by
  rcases h.2 with ⟨_, h0⟩ | ⟨g, cap, cur, rfl, hg, hr, _, _, _, _⟩
  · omega
  · have hc : ∀ i, i < n → w.cell? ⟨g, 0 + i, none⟩ = some (.int .u32 (f i)) := fun i hi => by
      rw [Nat.zero_add, World.ownsRow.cellAt h i (by omega), List.getElem?_map, List.getElem?_range hi]
      rfl
    exact ⟨g, cap, rfl, hg, by have := cell_lt (hc 0 (by omega)); exact this, fun i hi => ⟨g, 0, rfl, hc i hi⟩, fun j => World.ownsRow.frozenAt h j⟩
/-- All versions' words in order. -/
def flatV (n : Nat) (F : Nat → Ver) (q : Nat) : Int := (F (q / n)).v (q % n)
theorem flatV_at {n : Nat} {F : Nat → Ver} {k j : Nat} (hj : j < n) : flatV n F (k * n + j) = (F k).v j := by
  unfold flatV
  rw [Nat.mul_comm, Nat.mul_add_div (by omega), Nat.div_eq_of_lt hj, Nat.add_zero, Nat.mul_add_mod, Nat.mod_eq_of_lt hj]
def flL (n : Nat) (F : Nat → Ver) (k : Nat) : List Value := (List.range (k * n)).map fun q => .int .u32 (flatV n F q)
theorem flL_next (n : Nat) (F : Nat → Ver) (k : Nat) : flL n F k ++ ((List.range n).map fun j => Value.int .u32 ((F k).v j)) = flL n F (k + 1) := by
  apply List.ext_getElem
  · simp [flL, Nat.succ_mul]
  · intro q h1 h2
    simp only [flL, List.length_append, List.length_map, List.length_range] at h1
    rcases Nat.lt_or_ge q (k * n) with h | h
    · rw [List.getElem_append_left (by simpa [flL] using h)]
      simp [flL]
    · obtain ⟨j, rfl⟩ : ∃ j, q = k * n + j := ⟨q - k * n, by omega⟩
      have hj : j < n := by omega
      rw [List.getElem_append_right (by simp [flL])]
      simp [flL, flatV_at hj]
def ConQ (n L : Nat) (F : Nat → Ver) (w : World) (e : Ending) (w' : World) : Prop :=
  ∃ G cap, e = .returned (.slice (some ⟨G, 0, none⟩) (L * n) cap) ∧ w.heap.size ≤ G ∧ G < w'.heap.size ∧ Us w' (some ⟨G, 0, none⟩) (L * n) (flatV n F) ∧ Below w.heap.size w w'
def ConRel (n L : Nat) (F : Nat → Ver) (w : World) (v i : Value) (wr : World) : Prop :=
  ∃ k : Nat, k ≤ L ∧ i = .int .i64 k ∧ wr.ownsRow w.heap.size 22 1 v (k * n) (flL n F k) ∧ v ≠ .slice none 0 0 ∧ Below w.heap.size w wr
set_option maxHeartbeats 4000000 in
set_option maxRecDepth 100000 in
theorem concat_any (A : Option Addr) (L ca n : Nat) (F : Nat → Ver) (w : World) (hV : VersN w.heap.size w A L F) (hn : ∀ i, i < L → (F i).n = n) (h1 : 1 ≤ n) (hL : 1 ≤ L) (hm : L * n ≤ 2000000) :
    Calls Tryd.prog 29 #[.slice A L ca] w fun e w' => ConQ n L F w e w' := by
  obtain ⟨i0, hi, hz0, hz1, hz2⟩ := info_parts info22
  have HV := Lib.hid hV
  have HN := Lib.hid hn
  have HL := Lib.hid (And.intro h1 hL)
  have HM := Lib.hid hm
  have hL2 : L ≤ 2000000 := Nat.le_trans (Nat.le_mul_of_pos_right _ (by omega)) hm
  have GN := fun W (x : Nat) (h : 0 < x ∧ x ≤ 2000000) => Lib.hid (grow_own x W h.1 h.2)
  have GH := Lib.hid GN
  have HZ := Lib.hid (And.intro hi (And.intro hz0 (And.intro hz1 hz2)))
  clear hV hn h1 hL hm GN hi hz0 hz1 hz2
  go_enter Tryd.func29, Tryd.ntmps29
  go_wp2_with fail
  go_loop [3, 11] (fun su i => ∃ k x : Nat, k ≤ L ∧ x = k * n ∧ su = .int .i64 x ∧ i = .int .i64 k) (fun _ i => L - (intOf i).toNat)
  case atStart => exact ⟨0, 0, by omega, by omega, rfl, rfl⟩
  case round =>
    obtain ⟨k, x, hk, hx, rfl, rfl⟩ := hrel
    by_cases hlt : k < L
    · obtain ⟨b, o, rfl⟩ := HV.out.head hlt
      have c1 := HV.out.cell hlt
      rw [HN.out k hlt] at c1
      have hle : (k + 1) * n ≤ L * n := Nat.mul_le_mul_right _ hlt
      rw [Nat.succ_mul, ← hx] at hle
      have hadd : IntKind.i64.wrap ((x : Int) + n) = (x : Int) + n := IntWalk.i64_in _ (by have := HM.out; omega)
      have hz : (0 : Int) ≤ (x : Int) + n := by omega
      have HX := Lib.hid hx
      clear hx hle
      go_wp2_with fail
      go_round
      case rel => exact ⟨k + 1, x + n, by omega, by rw [Nat.succ_mul, ← HX.out], by simp, by go_num⟩
      case measure => simp [intOf]; omega
    · obtain rfl : k = L := by omega
      have hN0 : 0 < x := by rw [hx]; exact Nat.mul_pos HL.out.2 HL.out.1
      have hN1 : x ≤ 2000000 := by rw [hx]; exact HM.out
      have HX := Lib.hid hx
      clear hx
      go_wp2_with fail
      with_reducible refine (GH.out _ x ⟨hN0, hN1⟩).out.mono ?_
      rintro e w1 ⟨v, rfl, hown, hv, hB⟩
      have HOWN := Lib.hid hown
      have HV1 := Lib.hid hv
      have HB1 := Lib.hid hB
      clear hown hv hB hN0 hN1
      go_wp2_with fail
      go_loopw [6, 27] (fun v i wr => ConRel n k F w v i wr) (fun _ i _ => k - (intOf i).toNat)
      case atStart => exact ⟨0, by omega, rfl, by simpa [flL] using HOWN.out, HV1.out, HB1.out⟩
      case round =>
        obtain ⟨j, hj, rfl, hown, hv, hB⟩ := hrel
        have HO := Lib.hid hown
        have HB2 := Lib.hid hB
        have HVV := Lib.hid hv
        by_cases hlt2 : j < k
        · have HVB := Lib.hid (HV.out.keep hB)
          obtain ⟨b, o, rfl⟩ := HV.out.head hlt2
          have c1 := HVB.out.cell hlt2
          rw [HN.out j hlt2] at c1
          have hver := HVB.out.ver hlt2
          rw [HN.out j hlt2] at hver
          have HVER := Lib.hid hver
          obtain ⟨pb, po, hp⟩ := hver.head (i := 0) (by have := HL.out.1; omega)
          rw [hp] at c1
          have HPP := Lib.hid hp
          clear hown hB hv hver hp
          go_wp2_with (at_builtin; (refine wpList_append_own _ rfl _ _ 37 rfl w.heap.size 22 i0 (.int .u32 0) 1 4 Tryd.underlying37 HZ.out.1 HZ.out.2.1 HZ.out.2.2.1 HZ.out.2.2.2 rfl (by decide) u6 (j * n) (flL n F j) rfl HO.out ⟨pb, po, none⟩ n _ ((List.range n).map fun q => .int .u32 ((F j).v q)) rfl ?c0 ?c1 ?c2 ?c3 ?c4 ?c5 ?_))
          case c0 => simp
          case c1 =>
            intro q u hu
            have hq : q < n := by have := (List.getElem?_eq_some_iff.1 hu).1; simpa using this
            rw [List.getElem?_map, List.getElem?_range hq] at hu
            injection hu with hu
            subst hu
            obtain ⟨b', o', e', _, hc⟩ := HVER.out q hq
            rw [HPP.out] at e'
            injection e' with e'
            injection e' with e1 e2
            subst e1 e2
            rw [add_off]
            exact hc
          case c2 =>
            intro u hu
            obtain ⟨_, _, rfl⟩ := List.mem_map.1 hu
            rfl
          case c3 => have : (j + 1) * n ≤ k * n := Nat.mul_le_mul_right _ hlt2; rw [Nat.succ_mul] at this; have := HM.out; unfold maxLen; omega
          case c4 => have : (j + 1) * n ≤ k * n := Nat.mul_le_mul_right _ hlt2; rw [Nat.succ_mul] at this; have := HM.out; omega
          case c5 => exact HB2.out.size
          intro v2 w2 hown2 hg2 hnil2
          rw [flL_next, ← Nat.succ_mul] at hown2
          have HO2 := Lib.hid hown2
          have HB3 := Lib.hid (HB2.out.grown hg2 HB2.out.size (fun q hq => (World.ownsRow.lt HO.out q hq).1))
          have HV2 := Lib.hid (show v2 ≠ .slice none 0 0 from fun e => HVV.out (hnil2.1 e).1)
          clear hown2 hg2 hnil2 c1
          go_wp2_with fail
          go_roundw
          case rel => exact ⟨j + 1, hlt2, by go_num, HO2.out, HV2.out, HB3.out⟩
          case measure => simp [intOf]; omega
        · obtain rfl : j = k := by omega
          clear hown hB hv
          go_wp2_with fail
          go_ret
          obtain ⟨G, cap, rfl, h1, h2, h3, _⟩ := words_own (Nat.mul_pos HL.out.2 HL.out.1) HO.out
          exact ⟨G, cap, rfl, h1, h2, h3, HB2.out⟩
end Go.Proofs.YtoaaeamogpdcgaaDoor
