/-
  A new sender, a new receiver; lists of messages.
-/
import Derived.Test.YtnmobalgghggnaaDoorRcvA
namespace Go.Proofs.YtnmobalgghggnaaDoor
open Go.RowKit

/-- Messages in a list. -/
def Strs (H : Nat) (w : World) (A : Option Addr) (L : List ByteArray) : Prop := ∀ i (h : i < L.length), ∃ b o, A = some ⟨b, o, none⟩ ∧ b < H ∧ w.cell? ⟨b, o + i, none⟩ = some (.string L[i])
theorem Strs.keep {H : Nat} {w w' : World} {A : Option Addr} {L : List ByteArray} (h : Strs H w A L) (hB : Below H w w') : Strs H w' A L := fun i hi => by
  obtain ⟨b, o, e, hb, hc⟩ := h i hi
  exact ⟨b, o, e, hb, by rw [hB.cell (p := ⟨b, o + i, none⟩) hb]; exact hc⟩
theorem Strs.head {H : Nat} {w : World} {A : Option Addr} {L : List ByteArray} (h : Strs H w A L) {i : Nat} (hi : i < L.length) : ∃ b o, A = some ⟨b, o, none⟩ := by
  obtain ⟨b, o, e, _⟩ := h i hi
  exact ⟨b, o, e⟩
theorem Strs.cell {H : Nat} {w : World} {b o : Nat} {L : List ByteArray} (h : Strs H w (some ⟨b, o, none⟩) L) {i : Nat} (hi : i < L.length) : w.cell? ⟨b, o + i, none⟩ = some (.string (L.getD i ByteArray.empty)) := by
  obtain ⟨b', o', e, _, hc⟩ := h i hi
  injection e with e
  injection e with e1 e2
  subst e1 e2
  rw [hc, List.getD_eq_getElem?_getD, List.getElem?_eq_getElem hi, Option.getD_some]
theorem Strs.up {H H' : Nat} {w : World} {A : Option Addr} {L : List ByteArray} (h : Strs H w A L) (hH : H ≤ H') : Strs H' w A L := fun i hi => by
  obtain ⟨b, o, e, hb, hc⟩ := h i hi
  exact ⟨b, o, e, by omega, hc⟩
theorem rowIs_setCells {b t n : Nat} : ∀ (vs : List Value) {w : World} {f : Nat → Value} (_ : w.rowIs b t n f) (o : Nat), (w.setCells b o vs).rowIs b t n (fun j => if o ≤ j then vs.getD (j - o) (f j) else f j)
  | [], w, f, h, o => by
    unfold World.setCells
    exact h.congr fun j _ => by simp
  | v :: vs, w, f, h, o => by
    unfold World.setCells
    refine (rowIs_setCells vs (h.set o v) (o + 1)).congr fun j _ => ?_
    by_cases h1 : o + 1 ≤ j
    · rw [if_pos h1, if_neg (show ¬ j = o by omega), if_pos (show o ≤ j by omega), show j - o = (j - (o + 1)) + 1 by omega, List.getD_cons_succ]
    · rw [if_neg h1]
      by_cases h2 : o ≤ j
      · obtain rfl : j = o := by omega
        rw [if_pos rfl, if_pos h2, Nat.sub_self, List.getD_cons_zero]
      · rw [if_neg h2, if_neg (by omega)]
theorem below_setCells {n b : Nat} (hn : n ≤ b) : ∀ (vs : List Value) {w0 w : World} (_ : Below n w0 w) (o : Nat), Below n w0 (w.setCells b o vs)
  | [], _, _, h, _ => h
  | v :: vs, _, _, h, o => below_setCells hn vs (h.setCell (p := ⟨b, o, none⟩) hn v) (o + 1)
/-- The letters of the first so many messages. -/
def letsF (L : List ByteArray) (k : Nat) (j : Nat) : Int := if j / 9 < k then letter (L.getD (j / 9) ByteArray.empty) (j % 9) else 0
theorem z71 : ∃ i0, Tryd.prog.info? 71 = some i0 ∧ i0.zero = some (.agg (madeCells #[.int .u32 0] 9)) ∧ i0.size = 9 ∧ i0.bytes = 36 := info_parts (by kernel_rfl)
theorem cells_z9 : (Value.agg (madeCells #[.int .u32 0] 9)).cells = #[.int .u32 0, .int .u32 0, .int .u32 0, .int .u32 0, .int .u32 0, .int .u32 0, .int .u32 0, .int .u32 0, .int .u32 0] := by kernel_rfl
theorem zero9 (r : Nat) (h : r < 9) : (Value.agg (madeCells #[.int .u32 0] 9)).cells[r]! = .int .u32 0 := by
  rw [cells_z9]
  have h9 : r = 0 ∨ r = 1 ∨ r = 2 ∨ r = 3 ∨ r = 4 ∨ r = 5 ∨ r = 6 ∨ r = 7 ∨ r = 8 := by omega
  rcases h9 with rfl | rfl | rfl | rfl | rfl | rfl | rfl | rfl | rfl
  all_goals rfl
theorem size9 : (Value.agg (madeCells #[.int .u32 0] 9)).cells.size = 9 := by kernel_rfl
theorem made9 (w : World) (n : Nat) : (w.alloc (.cells (madeCells (Value.agg (madeCells #[.int .u32 0] 9)).cells (n * 9)) 71)).rowIs w.heap.size 71 (9 * n) (fun _ => .int .u32 0) := by
  have h9 := zero9
  have hs := size9
  generalize (Value.agg (madeCells #[.int .u32 0] 9)).cells = Z at *
  refine ⟨_, heap_alloc_new _ _, by rw [size_madeCells]; omega, fun i hi => ?_⟩
  unfold madeCells
  rw [Array.getElem?_map, Array.getElem?_range, if_pos (by omega), Option.map_some, hs, h9 _ (by omega)]
theorem letsF_zero (L : List ByteArray) (j : Nat) : letsF L 0 j = 0 := by unfold letsF; rw [if_neg (by omega)]
theorem letsF_step {w : World} {b n k : Nat} {L : List ByteArray} (h : w.rowIs b 71 (9 * n) (fun j => .int .u32 (letsF L k j))) (o : Nat) (ho : o = k * 9) : (w.setCells b o (cells9 (letter (L.getD k ByteArray.empty)))).rowIs b 71 (9 * n) (fun j => .int .u32 (letsF L (k + 1) j)) := by
  subst ho
  refine (rowIs_setCells _ h (k * 9)).congr fun j _ => ?_
  by_cases h1 : k * 9 ≤ j
  · rw [if_pos h1]
    by_cases h2 : j < k * 9 + 9
    · have hq : j / 9 = k := by omega
      have hr : j % 9 = j - k * 9 := by omega
      rw [List.getD_eq_getElem?_getD, cells9, List.getElem?_map, List.getElem?_range (by omega), Option.map_some, Option.getD_some]
      unfold letsF
      rw [if_pos (by omega), hq, hr]
    · rw [List.getD_eq_getElem?_getD, List.getElem?_eq_none (by rw [cells9_len]; omega), Option.getD_none]
      unfold letsF
      rw [if_neg (by omega), if_neg (by omega)]
  · rw [if_neg h1]
    unfold letsF
    by_cases h3 : j / 9 < k
    · rw [if_pos h3, if_pos (by omega)]
    · rw [if_neg h3, if_neg (by omega)]
theorem words_ok {p z : Int} (hp : capP p = true) (hz : 1 ≤ z ∧ z ≤ 32) : wordsE p z = 0 := by unfold wordsE; rw [if_pos hp, if_pos hz]
set_option maxHeartbeats 1000000 in
theorem news_words (a p z : Int) (v : Value) (w : World) (h : wordsE p z ≠ 0) : Calls Tryd.prog 12 #[.int .i64 a, .int .i64 p, .int .i64 z, v] w fun e w' => e = .returned (.tuple #[.pointer none, .int .i64 (wordsE p z)]) ∧ w = w' := by
  have HA := Lib.hid (fun W => rwords_any p z W)
  generalize wordsE p z = x at *
  go_enter Tryd.func12, Tryd.ntmps12
  go_wp2_with fail
  with_reducible refine (HA.out _).mono ?_
  rintro e w1 ⟨rfl, rfl⟩
  go_wp2_with fail
  go_ret2
  exact ⟨rfl, rfl⟩
/-- What a new sender is. -/
def NewS (a : Int) (pl sz : Nat) (L : List ByteArray) (w : World) (e : Ending) (w' : World) : Prop :=
  ∃ B LB, e = .returned (.tuple #[.pointer (some ⟨B, 0, none⟩), .int .i64 0]) ∧ SenderAt w' B LB (.slice none 0 0) (sd0 a pl sz L).ph (sd0 a pl sz L) ∧ w.heap.size ≤ B ∧ w.heap.size ≤ LB ∧ B ≠ LB ∧ Below w.heap.size w w'
/-- Whether a message may be sent. -/
def goodM (z : Int) (m : ByteArray) : Prop := 1 ≤ m.size ∧ (m.size : Int) ≤ z
theorem letsF_at {L : List ByteArray} {i j : Nat} (hi : i < L.length) (hj : j < 9) : letsF L L.length (9 * i + j) = letter (L.getD i ByteArray.empty) j := by
  unfold letsF
  rw [show (9 * i + j) / 9 = i by omega, show (9 * i + j) % 9 = j by omega, if_pos hi]
theorem snd_new {a : Int} {pl sz : Nat} {L : List ByteArray} {w1 : World} {LB : Nat} {q : Nat} (hr : w1.rowIs LB 71 (9 * L.length) (fun j => .int .u32 (letsF L L.length j))) :
    SenderAt (w1.alloc (.cells #[.int .i64 a, .int .i64 pl, .int .i64 sz, .int .u32 0, .int .u32 0, .int .i64 0, nextS q, .slice (some ⟨LB, 0, none⟩) L.length L.length, .slice none 0 0] 78)) w1.heap.size LB (.slice none 0 0) q (sd0 a pl sz L) := by
  have hlt := hr.lt
  have hz : ∀ j, (w1.alloc (.cells #[.int .i64 a, .int .i64 pl, .int .i64 sz, .int .u32 0, .int .u32 0, .int .i64 0, nextS q, .slice (some ⟨LB, 0, none⟩) L.length L.length, .slice none 0 0] 78)).frozen? ⟨w1.heap.size, j, none⟩ = false := fun j => frozen_new _ _ _ j
  have hE : EndAt (w1.alloc (.cells #[.int .i64 a, .int .i64 pl, .int .i64 sz, .int .u32 0, .int .u32 0, .int .i64 0, nextS q, .slice (some ⟨LB, 0, none⟩) L.length L.length, .slice none 0 0] 78)) w1.heap.size a pl sz 0 0 0 :=
    ⟨al_new _ _ _ _ _ rfl rfl, al_new _ _ _ _ _ rfl rfl, al_new _ _ _ _ _ rfl rfl, al_new _ _ _ _ _ rfl rfl, al_new _ _ _ _ _ rfl rfl, al_new _ _ _ _ _ rfl rfl, hz⟩
  refine ⟨⟨0, 0, 0, hE, fun _ => ⟨rfl, rfl, rfl⟩⟩, al_new _ _ _ _ _ rfl rfl, ⟨some ⟨LB, 0, none⟩, al_new _ _ _ _ _ rfl rfl, fun _ => rfl⟩, al_new _ _ _ _ _ rfl rfl, fun i hi j hj => ?_, Grow.nil _ _, ⟨by omega, by simp [Value.ownBlock], by simp [Value.ownBlock]⟩, by simp; omega⟩
  have hi : i < L.length := hi
  rw [al_cell (hr.cell (by omega)), letsF_at hi hj]
  rfl
set_option maxHeartbeats 8000000 in
set_option maxRecDepth 100000 in
theorem news_ok (a p z : Int) (pl sz n ca : Nat) (A : Option Addr) (L : List ByteArray) (w : World) (hp : p = pl) (hzz : z = sz) (hA : Strs w.heap.size w A L) (hn : n = L.length) (hfew : n ≤ 1000) (hc : capP p = true) (hz : 1 ≤ z ∧ z ≤ 32) (hg : ∀ m ∈ L, goodM z m) :
    Calls Tryd.prog 12 #[.int .i64 a, .int .i64 p, .int .i64 z, .slice A n ca] w fun e w' => NewS a pl sz L w e w' := by
  have HA0 := Lib.hid (fun W => rwords_any p z W)
  rw [words_ok hc hz] at HA0
  have HS := Lib.hid hA
  have HG := Lib.hid hg
  have HZ := Lib.hid hz
  have HN := Lib.hid hn
  have HP := Lib.hid (And.intro hp hzz)
  obtain ⟨i0, hi0, hz0, hs0, hb0⟩ := z71
  have hmk : ∀ W : World, (Instr.makeSlice 69 (.int .i64 n) (.int .i64 n)).run Tryd.prog W = .ok (.slice (some ⟨W.heap.size, 0, none⟩) n n) (W.alloc (.cells (madeCells (Value.agg (madeCells #[.int .u32 0] 9)).cells (n * 9)) 71)) := fun W => by
    have h := run_make (P := Tryd.prog) W 69 71 i0 _ Tryd.underlying69 hi0 hz0 .i64 .i64 n n (by omega) (by omega) (by rw [hb0]; omega) (by omega)
    rw [hs0] at h
    simpa using h
  have hmade := Lib.hid (fun W : World => made9 W n)
  generalize (madeCells (Value.agg (madeCells #[.int .u32 0] 9)).cells (n * 9)) = Z at hmk hmade
  clear hA hn hc hz hg hi0 hz0 hs0 hb0 hp hzz
  go_enter Tryd.func12, Tryd.ntmps12
  go_wp2_with fail
  with_reducible refine (HA0.out _).mono ?_
  rintro e w1 ⟨rfl, rfl⟩
  go_wp2_with fail
  go_loopw [13, 14, 30] (fun _ _ i wr => ∃ k : Nat, k ≤ n ∧ i = .int .i64 k ∧ wr.rowIs w.heap.size 71 (9 * n) (fun j => .int .u32 (letsF L k j)) ∧ Below w.heap.size w wr) (fun _ _ i _ => n - (intOf i).toNat)
  case atStart => exact ⟨0, Nat.zero_le _, rfl, (hmade.out w).congr fun j _ => by rw [letsF_zero], (Below.refl _ _).alloc (Nat.le_refl _) _⟩
  case round =>
    obtain ⟨k, hk, rfl, hr, hB⟩ := hrel
    have HR := Lib.hid hr
    have HB := Lib.hid hB
    by_cases hlt : k < n
    · have hkL : k < L.length := by rw [← HN.out]; exact hlt
      obtain ⟨b, o, rfl⟩ := HS.out.head hkL
      have c0 := (HS.out.keep hB).cell hkL
      have hgm := HG.out (L.getD k ByteArray.empty) (by rw [List.getD_eq_getElem?_getD, List.getElem?_eq_getElem hkL, Option.getD_some]; exact List.getElem_mem hkL)
      have HPK := Lib.hid (fun W => pack_any (L.getD k ByteArray.empty) W hgm.1 (by have := hgm.2; have := HZ.out; omega))
      have HLS := Lib.hid (fun (W : World) (h : W.rowIs w.heap.size 71 (9 * n) (fun j => .int .u32 (letsF L k j))) (o : Nat) (ho : o = k * 9) => letsF_step h o ho)
      generalize L.getD k ByteArray.empty = m at *
      have g1 : ¬ (m.size : Int) < 1 := by have := hgm.1; omega
      have g2 : ¬ z < (m.size : Int) := by have := hgm.2; omega
      clear hr hB hgm hkL
      go_wp2_with fail
      with_reducible refine (HPK.out _).mono ?_
      rintro e w2 ⟨rfl, hB2⟩
      have HR2 := Lib.hid (HR.out.of_block (hB2.block _ HR.out.lt))
      have HB2 := Lib.hid (below_two HB.out (hB2.mono (by have := HB.out.size; omega)))
      clear hB2 c0
      have hkn : (k : Int) < n := by omega
      go_wp2_with (with_reducible refine wpList_store_mid rfl 71 (.tmp 48) (.tmp 47) rfl w.heap.size (k * 9) (cells9 (letter m)).toArray rfl rfl ?s1 ?s2 ?s3 ?_)
      case s1 =>
        intro j hj
        rw [List.size_toArray, cells9_len] at hj
        exact ⟨by rw [HR2.out.cell (by omega)]; rfl, HR2.out.frozen _⟩
      case s2 => rw [List.size_toArray, cells9_len]; exact size71
      case s3 =>
        refine all_oneCell_toArray fun v hv => ?_
        obtain ⟨j, _, rfl⟩ := List.mem_map.1 hv
        rfl
      go_wp2_with fail
      go_roundw
      case rel => exact ⟨k + 1, by omega, by go_num, HLS.out _ HR2.out _ rfl, below_setCells (Nat.le_refl _) _ HB2.out _⟩
      case measure => simp [intOf]; omega
    · obtain rfl : k = n := by omega
      clear hr hB
      have hN := HN.out
      subst hN
      obtain ⟨rfl, rfl⟩ := HP.out
      have hA : ∀ W A, W.cell? ⟨wr.heap.size, 7, none⟩ = some (.slice A L.length L.length) → Calls Tryd.prog 32 #[.pointer (some ⟨wr.heap.size, 0, none⟩)] W fun e w' => e = .returned (.int .i64 ((sd0 a pl sz L).ph : Nat)) ∧ W = w' := fun W A h => sahead_any wr.heap.size A L.length L.length W h
      obtain ⟨R, hR⟩ : ∃ R, R = (sd0 a pl sz L).ph := ⟨_, rfl⟩
      rw [← hR] at hA
      have hR5 : R ≤ 5 := by rw [hR]; show (if L.length = 0 then 5 else 0) ≤ 5; split <;> omega
      have HAH := Lib.hid hA
      have HRR := Lib.hid hR
      have HSE := Lib.hid (fun W => sends_any R W hR5)
      clear hA hR hR5
      go_wp2_with fail
      with_reducible refine (HAH.out _ (some ⟨w.heap.size, 0, none⟩) (al_new _ _ _ _ _ rfl rfl)).mono ?_
      rintro e w3 ⟨rfl, rfl⟩
      go_wp2_with fail
      with_reducible refine (HSE.out _).mono ?_
      rintro e w4 ⟨rfl, rfl⟩
      have HFI := Lib.hid (snd_new (a := a) (pl := pl) (sz := sz) (q := R) HR.out)
      by_cases h5 : 5 ≤ R
      · rw [nextS_nil h5] at HFI ⊢
        go_wp2_with fail
        go_ret2
        refine ⟨wr.heap.size, w.heap.size, rfl, ?_, HB.out.size, Nat.le_refl _, by have := HR.out.lt; omega, ?_⟩
        · rw [← HRR.out]
          exact HFI.out
        · exact HB.out.alloc HB.out.size _
      · obtain ⟨K2, hK2⟩ := nextS_func (q := R) (by omega)
        rw [hK2] at HFI ⊢
        go_wp2_with fail
        go_ret2
        refine ⟨wr.heap.size, w.heap.size, rfl, ?_, HB.out.size, Nat.le_refl _, by have := HR.out.lt; omega, ?_⟩
        · rw [← HRR.out]
          exact HFI.out
        · exact HB.out.alloc HB.out.size _
end Go.Proofs.YtnmobalgghggnaaDoor
