/-
  What a sender and a receiver tell; a sender that is refused; a new receiver.
-/
import Derived.Test.YtnmobalgghggnaaDoorCtor
namespace Go.Proofs.YtnmobalgghggnaaDoor
open Go.RowKit

/-- Values in a row of its own. -/
def RowL (w : World) (d : Nat) (e : TypeId) (xs : List Value) : Prop := w.rowIs d e xs.length fun i => xs.getD i undef
theorem splice_all {z : Value} {xs : List Value} : splice (madeCells #[z] xs.length).toList 0 xs = xs := by
  unfold splice
  rw [List.drop_eq_nil_of_le (by rw [Array.length_toList, size_madeCells]; omega)]
  simp
theorem rowL_of {w : World} {d : Nat} {e : TypeId} {z : Value} {xs : List Value} (h : w.heap[d]? = some (.cells (splice (madeCells #[z] xs.length).toList 0 xs).toArray e (0, 0))) : RowL w d e xs := by
  rw [splice_all] at h
  refine ⟨_, h, by simp, fun i hi => ?_⟩
  simp [hi]
theorem Grow.at {w : World} {e : TypeId} {xs : List Value} {g n cap j : Nat} {u : Value} (h : Grow w e (.slice (some ⟨g, 0, none⟩) n cap) xs) (hu : xs[j]? = some u) : w.cell? ⟨g, j, none⟩ = some u := by
  have hj : j < xs.length := (List.getElem?_eq_some_iff.1 hu).1
  obtain ⟨g2, cap2, hv2, hc⟩ := h.cell hj
  injection hv2 with hv2 _ _
  injection hv2 with hv2
  injection hv2 with hv2
  subst hv2
  rw [hc, ← hu, List.getElem?_eq_getElem hj]
theorem RowL.cell {w : World} {d : Nat} {e : TypeId} {xs : List Value} (h : RowL w d e xs) {i : Nat} (hi : i < xs.length) : w.cell? ⟨d, i, none⟩ = some xs[i] := by
  rw [World.rowIs.cell h hi, List.getD_eq_getElem?_getD, List.getElem?_eq_getElem hi, Option.getD_some]
theorem RowL.keep {w w' : World} {d : Nat} {e : TypeId} {xs : List Value} (h : RowL w d e xs) (hB : Below w.heap.size w w') : RowL w' d e xs := World.rowIs.of_block h (hB.block _ (World.rowIs.lt h))
/-- What telling leaves. -/
def TellP (e0 : TypeId) (xs : List Value) (w : World) (e : Ending) (w' : World) : Prop :=
  ∃ d, e = .returned (.slice (some ⟨d, 0, none⟩) xs.length xs.length) ∧ RowL w' d e0 xs ∧ w.heap.size ≤ d ∧ Below w.heap.size w w'
set_option maxHeartbeats 4000000 in
set_option maxRecDepth 100000 in
theorem copied_bool (v : Value) (xs : List Value) (w : World) (h : Grow w 4 v xs) (h1 : ∀ u ∈ xs, u.oneCell' = true) (hn : xs.length ≤ 100000) : Calls Tryd.prog 35 #[v] w fun e w' => TellP 4 xs w e w' := by
  have hmk := fun W => run_make_row' (P := Tryd.prog) 36 4 (.bool false) 1 Tryd.underlying36 info4 rfl .i64 .i64 xs.length (by omega) (by omega) W
  have hsz : (Tryd.prog.info? 4).map (·.size) = some 1 := by kernel_rfl
  have HSZ := Lib.hid hsz
  have hb1 : Below w.heap.size w (w.alloc (.cells (madeCells #[.bool false] xs.length) 4)) := (Below.refl _ _).alloc (Nat.le_refl _) _
  have hrow : (w.alloc (.cells (madeCells #[.bool false] xs.length) 4)).heap[w.heap.size]? = some (.cells (madeCells #[.bool false] xs.length).toList.toArray 4 (0, 0)) := by rw [Array.toArray_toList]; exact heap_alloc_new _ _
  have HROW := Lib.hid hrow
  have HB1 := Lib.hid hb1
  have H1 := Lib.hid h1
  clear h1 hsz hb1 hrow
  rcases h.shape with ⟨rfl, rfl⟩ | ⟨g, cap, rfl, _, _, _⟩
  · clear h
    simp only [List.length_nil] at *
    have hmk0 : ∀ W : World, (Instr.makeSlice 36 (.int .i64 0) (.int .i64 0)).run Tryd.prog W = .ok (.slice (some ⟨W.heap.size, 0, none⟩) 0 0) (W.alloc (.cells (madeCells #[.bool false] 0) 4)) := fun W => by have h := hmk W; simpa using h
    clear hmk
    go_enter Tryd.func35, Tryd.ntmps35
    go_wp2_with (with_reducible refine wpList_copy_splice rfl (.tmp 7) (.tmp 8) 36 36 rfl 4 Tryd.underlying36 HSZ.out (some ⟨w.heap.size, 0, none⟩) none 0 0 0 0 rfl rfl w.heap.size 0 (madeCells #[.bool false] 0).toList 4 HROW.out [] rfl (fun h => absurd h (by decide)) (by simp) (by simp) w.heap.size w HB1.out (Nat.le_refl _) ?_)
    intro w2 HG2 hB2
    have HB2 := Lib.hid hB2
    clear hB2
    go_wp2_with fail
    go_ret
    exact ⟨w.heap.size, rfl, rowL_of (xs := []) HG2.out, Nat.le_refl _, HB2.out⟩
  · have HAT := Lib.hid (fun j u (hu : xs[j]? = some u) => h.at hu)
    clear h
    go_enter Tryd.func35, Tryd.ntmps35
    go_wp2_with (with_reducible refine wpList_copy_splice rfl (.tmp 7) (.tmp 8) 36 36 rfl 4 Tryd.underlying36 HSZ.out (some ⟨w.heap.size, 0, none⟩) (some ⟨g, 0, none⟩) xs.length xs.length xs.length cap rfl rfl w.heap.size 0 (madeCells #[.bool false] xs.length).toList 4 HROW.out xs (by simp) ?s1 (by simp [size_madeCells]) H1.out w.heap.size w HB1.out (Nat.le_refl _) ?_)
    case s1 =>
      intro _
      exact fun j u hu => HAT.out j u hu
    intro w2 HG2 hB2
    have HB2 := Lib.hid hB2
    clear hB2
    go_wp2_with fail
    go_ret
    exact ⟨w.heap.size, rfl, rowL_of HG2.out, Nat.le_refl _, HB2.out⟩
set_option maxHeartbeats 4000000 in
set_option maxRecDepth 100000 in
theorem copied_str (v : Value) (xs : List Value) (w : World) (h : Grow w 9 v xs) (h1 : ∀ u ∈ xs, u.oneCell' = true) (hn : xs.length ≤ 100000) : Calls Tryd.prog 36 #[v] w fun e w' => TellP 9 xs w e w' := by
  have hmk := fun W => run_make_row' (P := Tryd.prog) 24 9 (.string ⟨#[]⟩) 16 Tryd.underlying24 info9 rfl .i64 .i64 xs.length (by omega) (by omega) W
  have hsz : (Tryd.prog.info? 9).map (·.size) = some 1 := by kernel_rfl
  have HSZ := Lib.hid hsz
  have hb1 : Below w.heap.size w (w.alloc (.cells (madeCells #[.string ⟨#[]⟩] xs.length) 9)) := (Below.refl _ _).alloc (Nat.le_refl _) _
  have hrow : (w.alloc (.cells (madeCells #[.string ⟨#[]⟩] xs.length) 9)).heap[w.heap.size]? = some (.cells (madeCells #[.string ⟨#[]⟩] xs.length).toList.toArray 9 (0, 0)) := by rw [Array.toArray_toList]; exact heap_alloc_new _ _
  have HROW := Lib.hid hrow
  have HB1 := Lib.hid hb1
  have H1 := Lib.hid h1
  clear h1 hsz hb1 hrow
  rcases h.shape with ⟨rfl, rfl⟩ | ⟨g, cap, rfl, _, _, _⟩
  · clear h
    simp only [List.length_nil] at *
    have hmk0 : ∀ W : World, (Instr.makeSlice 24 (.int .i64 0) (.int .i64 0)).run Tryd.prog W = .ok (.slice (some ⟨W.heap.size, 0, none⟩) 0 0) (W.alloc (.cells (madeCells #[.string ⟨#[]⟩] 0) 9)) := fun W => by have h := hmk W; simpa using h
    clear hmk
    go_enter Tryd.func36, Tryd.ntmps36
    go_wp2_with (with_reducible refine wpList_copy_splice rfl (.tmp 7) (.tmp 8) 24 24 rfl 9 Tryd.underlying24 HSZ.out (some ⟨w.heap.size, 0, none⟩) none 0 0 0 0 rfl rfl w.heap.size 0 (madeCells #[.string ⟨#[]⟩] 0).toList 9 HROW.out [] rfl (fun h => absurd h (by decide)) (by simp) (by simp) w.heap.size w HB1.out (Nat.le_refl _) ?_)
    intro w2 HG2 hB2
    have HB2 := Lib.hid hB2
    clear hB2
    go_wp2_with fail
    go_ret
    exact ⟨w.heap.size, rfl, rowL_of (xs := []) HG2.out, Nat.le_refl _, HB2.out⟩
  · have HAT := Lib.hid (fun j u (hu : xs[j]? = some u) => h.at hu)
    clear h
    go_enter Tryd.func36, Tryd.ntmps36
    go_wp2_with (with_reducible refine wpList_copy_splice rfl (.tmp 7) (.tmp 8) 24 24 rfl 9 Tryd.underlying24 HSZ.out (some ⟨w.heap.size, 0, none⟩) (some ⟨g, 0, none⟩) xs.length xs.length xs.length cap rfl rfl w.heap.size 0 (madeCells #[.string ⟨#[]⟩] xs.length).toList 9 HROW.out xs (by simp) ?s1 (by simp [size_madeCells]) H1.out w.heap.size w HB1.out (Nat.le_refl _) ?_)
    case s1 =>
      intro _
      exact fun j u hu => HAT.out j u hu
    intro w2 HG2 hB2
    have HB2 := Lib.hid hB2
    clear hB2
    go_wp2_with fail
    go_ret
    exact ⟨w.heap.size, rfl, rowL_of HG2.out, Nat.le_refl _, HB2.out⟩
set_option maxHeartbeats 1000000 in
theorem sent_any (B LB : Nat) (v : Value) (q : Nat) (s : Sd) (w : World) (h : SenderAt w B LB v q s) (hn : s.sent.length ≤ 100000) : Calls Tryd.prog 14 #[.pointer (some ⟨B, 0, none⟩)] w fun e w' => TellP 4 (s.sent.map Value.bool) w e w' := by
  have h8 := h.c8
  have HC := Lib.hid (copied_bool v _ w h.own (fun u hu => by obtain ⟨_, _, rfl⟩ := List.mem_map.1 hu; rfl) (by rw [List.length_map]; exact hn))
  clear h
  go_enter Tryd.func14, Tryd.ntmps14
  go_wp2_with fail
  with_reducible refine HC.out.mono ?_
  rintro e w1 ⟨d, rfl, h1, h2, h3⟩
  have H := Lib.hid (And.intro h1 (And.intro h2 h3))
  clear h1 h2 h3
  go_wp2_with fail
  go_ret
  exact ⟨d, by first | rfl | simp, H.out.1, H.out.2.1, H.out.2.2⟩
set_option maxHeartbeats 1000000 in
theorem got_any (B : Nat) (v : Value) (q : Nat) (r : Rv) (w : World) (h : ReceiverAt w B v q r) (hn : r.got.length ≤ 100000) : Calls Tryd.prog 15 #[.pointer (some ⟨B, 0, none⟩)] w fun e w' => TellP 9 (r.got.map Value.string) w e w' := by
  have h8 := h.c17
  have HC := Lib.hid (copied_str v _ w h.own (fun u hu => by obtain ⟨_, _, rfl⟩ := List.mem_map.1 hu; rfl) (by rw [List.length_map]; exact hn))
  clear h
  go_enter Tryd.func15, Tryd.ntmps15
  go_wp2_with fail
  with_reducible refine HC.out.mono ?_
  rintro e w1 ⟨d, rfl, h1, h2, h3⟩
  have H := Lib.hid (And.intro h1 (And.intro h2 h3))
  clear h1 h2 h3
  go_wp2_with fail
  go_ret
  exact ⟨d, by first | rfl | simp, H.out.1, H.out.2.1, H.out.2.2⟩
set_option maxHeartbeats 1000000 in
theorem newr_words (a p z t : Int) (w : World) (h : wordsE p z ≠ 0) : Calls Tryd.prog 13 #[.int .i64 a, .int .i64 p, .int .i64 z, .int .i64 t] w fun e w' => e = .returned (.tuple #[.pointer none, .int .i64 (wordsE p z)]) ∧ w = w' := by
  have HA := Lib.hid (fun W => rwords_any p z W)
  generalize wordsE p z = x at *
  go_enter Tryd.func13, Tryd.ntmps13
  go_wp2_with fail
  with_reducible refine (HA.out _).mono ?_
  rintro e w1 ⟨rfl, rfl⟩
  go_wp2_with fail
  go_ret2
  exact ⟨rfl, rfl⟩
/-- What a new receiver is. -/
def NewR (a : Int) (pl sz t : Nat) (w : World) (e : Ending) (w' : World) : Prop :=
  ∃ B, e = .returned (.tuple #[.pointer (some ⟨B, 0, none⟩), .int .i64 0]) ∧ ReceiverAt w' B (.slice none 0 0) (rv0 a pl sz t).ph (rv0 a pl sz t) ∧ w.heap.size ≤ B ∧ Below w.heap.size w w'
theorem rcv_cells {a : Int} {pl sz t : Nat} {w1 : World} {u : Value} {c : Array Value} (hc : c = #[.int .i64 a, .int .i64 pl, .int .i64 sz, .int .u32 0, .int .u32 0, .int .i64 0, u, .int .i64 t, .int .u32 0, .int .u32 0, .int .u32 0, .int .u32 0, .int .u32 0, .int .u32 0, .int .u32 0, .int .u32 0, .int .u32 0, .slice none 0 0]) {q : Nat} (hu : u = nextR q) :
    ReceiverAt (w1.alloc (.cells c 85)) w1.heap.size (.slice none 0 0) q (rv0 a pl sz t) := by
  subst hc hu
  refine ⟨⟨0, 0, 0, ⟨al_new _ _ _ _ _ rfl rfl, al_new _ _ _ _ _ rfl rfl, al_new _ _ _ _ _ rfl rfl, al_new _ _ _ _ _ rfl rfl, al_new _ _ _ _ _ rfl rfl, al_new _ _ _ _ _ rfl rfl, fun j => frozen_new _ _ _ j⟩, fun _ => ⟨rfl, rfl, rfl⟩⟩, al_new _ _ _ _ _ rfl rfl, al_new _ _ _ _ _ rfl rfl, ⟨fun _ => 0, fun j hj => al_new _ _ _ _ _ rfl ?_, fun _ _ _ => rfl⟩, al_new _ _ _ _ _ rfl rfl, Grow.nil _ _, by simp [Value.ownBlock]⟩
  match j, hj with
  | 0, _ => rfl
  | 1, _ => rfl
  | 2, _ => rfl
  | 3, _ => rfl
  | 4, _ => rfl
  | 5, _ => rfl
  | 6, _ => rfl
  | 7, _ => rfl
  | 8, _ => rfl
set_option maxHeartbeats 4000000 in
set_option maxRecDepth 100000 in
theorem newr_ok (a p z t : Int) (pl sz T : Nat) (w : World) (hp : p = pl) (hzz : z = sz) (hT : max t 0 = T) (hc : capP p = true) (hz : 1 ≤ z ∧ z ≤ 32) :
    Calls Tryd.prog 13 #[.int .i64 a, .int .i64 p, .int .i64 z, .int .i64 t] w fun e w' => NewR a pl sz T w e w' := by
  have HA0 := Lib.hid (fun W => rwords_any p z W)
  rw [words_ok hc hz] at HA0
  subst hp hzz
  have hA : ∀ W A, W.cell? ⟨w.heap.size, 17, none⟩ = some (.slice A 0 0) → W.cell? ⟨w.heap.size, 7, none⟩ = some (.int .i64 T) → Calls Tryd.prog 34 #[.pointer (some ⟨w.heap.size, 0, none⟩)] W fun e w' => e = .returned (.int .i64 ((rv0 a pl sz T).ph : Nat)) ∧ ∃ m, w' = W.drewN m := fun W A h h7 => rahead_any w.heap.size A 0 0 T W h h7
  obtain ⟨R, hR⟩ : ∃ R, R = (rv0 a pl sz T).ph := ⟨_, rfl⟩
  rw [← hR] at hA
  have hR5 : R ≤ 5 := by rw [hR]; show (if 0 = T then 5 else 0) ≤ 5; split <;> omega
  have HAH := Lib.hid hA
  have HRR := Lib.hid hR
  have HSE := Lib.hid (fun W => receives_any R W hR5)
  clear hA hR hR5 hc hz
  go_enter Tryd.func13, Tryd.ntmps13
  go_wp2_with fail
  with_reducible refine (HA0.out _).mono ?_
  rintro e w1 ⟨rfl, rfl⟩
  go_wp2_with fail
  with_reducible refine (HAH.out _ none (al_new _ _ _ _ _ rfl rfl) (al_new _ _ _ _ _ rfl rfl)).mono ?_
  rintro e w3 ⟨rfl, m3, rfl⟩
  go_wp2_with fail
  with_reducible refine (HSE.out _).mono ?_
  rintro e w4 ⟨rfl, rfl⟩
  have HFI := Lib.hid (((rcv_cells (a := a) (pl := pl) (sz := sz) (t := T) (w1 := w) (u := .nilFunc) (q := 5) rfl rfl).drewN m3).next R)
  have HAL := Lib.hid (fun c u => (((Below.refl w.heap.size w).alloc (Nat.le_refl _) (.cells c 85)).trans (Qt.below ⟨m3, rfl⟩)).setCell (p := ⟨w.heap.size, 6, none⟩) (Nat.le_refl _) u)
  by_cases h5 : 5 ≤ R
  · have hn := nextR_nil h5
    rw [hn] at HFI ⊢
    go_wp2_with fail
    go_ret2
    refine ⟨w.heap.size, rfl, ?_, Nat.le_refl _, ?_⟩
    · rw [← HRR.out]
      exact HFI.out
    · exact HAL.out _ _
  · obtain ⟨K2, hK2⟩ := nextR_func (q := R) (by omega)
    rw [hK2] at HFI ⊢
    go_wp2_with fail
    go_ret2
    refine ⟨w.heap.size, rfl, ?_, Nat.le_refl _, ?_⟩
    · rw [← HRR.out]
      exact HFI.out
    · exact HAL.out _ _
set_option maxHeartbeats 8000000 in
set_option maxRecDepth 100000 in
/-- A message that may not be sent. -/
theorem news_bad (a p z : Int) (n ca : Nat) (A : Option Addr) (L : List ByteArray) (w : World) (hA : Strs w.heap.size w A L) (hn : n = L.length) (hfew : n ≤ 1000) (hc : capP p = true) (hz : 1 ≤ z ∧ z ≤ 32) (hg : ¬ ∀ m ∈ L, goodM z m) :
    Calls Tryd.prog 12 #[.int .i64 a, .int .i64 p, .int .i64 z, .slice A n ca] w fun e w' => e = .returned (.tuple #[.pointer none, .int .i64 121]) ∧ Below w.heap.size w w' := by
  have HA0 := Lib.hid (fun W => rwords_any p z W)
  rw [words_ok hc hz] at HA0
  have HS := Lib.hid hA
  have HG := Lib.hid hg
  have HZ := Lib.hid hz
  have HN := Lib.hid hn
  obtain ⟨i0, hi0, hz0, hs0, hb0⟩ := z71
  have hmk : ∀ W : World, (Instr.makeSlice 69 (.int .i64 n) (.int .i64 n)).run Tryd.prog W = .ok (.slice (some ⟨W.heap.size, 0, none⟩) n n) (W.alloc (.cells (madeCells (Value.agg (madeCells #[.int .u32 0] 9)).cells (n * 9)) 71)) := fun W => by
    have h := run_make (P := Tryd.prog) W 69 71 i0 _ Tryd.underlying69 hi0 hz0 .i64 .i64 n n (by omega) (by omega) (by rw [hb0]; omega) (by omega)
    rw [hs0] at h
    simpa using h
  have hmade := Lib.hid (fun W : World => made9 W n)
  generalize (madeCells (Value.agg (madeCells #[.int .u32 0] 9)).cells (n * 9)) = Z at hmk hmade
  clear hA hn hc hz hg hi0 hz0 hs0 hb0
  go_enter Tryd.func12, Tryd.ntmps12
  go_wp2_with fail
  with_reducible refine (HA0.out _).mono ?_
  rintro e w1 ⟨rfl, rfl⟩
  go_wp2_with fail
  go_loopw [13, 14, 30] (fun _ _ i wr => ∃ k : Nat, k ≤ n ∧ i = .int .i64 k ∧ wr.rowIs w.heap.size 71 (9 * n) (fun j => .int .u32 (letsF L k j)) ∧ (∀ i (h : i < L.length), i < k → goodM z L[i]) ∧ Below w.heap.size w wr) (fun _ _ i _ => n - (intOf i).toNat)
  case atStart => exact ⟨0, Nat.zero_le _, rfl, (hmade.out w).congr fun j _ => by rw [letsF_zero], fun i _ h => absurd h (by omega), (Below.refl _ _).alloc (Nat.le_refl _) _⟩
  case round =>
    obtain ⟨k, hk, rfl, hr, hgk, hB⟩ := hrel
    have HR := Lib.hid hr
    have HB := Lib.hid hB
    have HGK := Lib.hid hgk
    by_cases hlt : k < n
    · have hkL : k < L.length := by rw [← HN.out]; exact hlt
      obtain ⟨b, o, rfl⟩ := HS.out.head hkL
      have c0 := (HS.out.keep hB).cell hkL
      have hLk : L.getD k ByteArray.empty = L[k] := by rw [List.getD_eq_getElem?_getD, List.getElem?_eq_getElem hkL, Option.getD_some]
      have HLK := Lib.hid hLk
      have HKL := Lib.hid hkL
      have hkn : (k : Int) < n := by omega
      by_cases hgm : goodM z (L.getD k ByteArray.empty)
      · have HPK := Lib.hid (fun W => pack_any (L.getD k ByteArray.empty) W hgm.1 (by have := hgm.2; have := HZ.out; omega))
        have HLS := Lib.hid (fun (W : World) (h : W.rowIs w.heap.size 71 (9 * n) (fun j => .int .u32 (letsF L k j))) (o : Nat) (ho : o = k * 9) => letsF_step h o ho)
        have HGM := Lib.hid hgm
        generalize L.getD k ByteArray.empty = m at *
        have g1 : ¬ (m.size : Int) < 1 := by have := hgm.1; omega
        have g2 : ¬ z < (m.size : Int) := by have := hgm.2; omega
        clear hr hB hgm hgk hLk
        go_wp2_with fail
        with_reducible refine (HPK.out _).mono ?_
        rintro e w2 ⟨rfl, hB2⟩
        have HR2 := Lib.hid (HR.out.of_block (hB2.block _ HR.out.lt))
        have HB2 := Lib.hid (below_two HB.out (hB2.mono (by have := HB.out.size; omega)))
        clear hB2 c0
        go_wp2_with (with_reducible refine wpList_store_mid rfl 71 (.tmp 48) (.tmp 47) rfl w.heap.size (k * 9) (cells9 (letter m)).toArray rfl rfl ?s1 ?s2 ?s3 ?_)
        case s1 =>
          intro j hj
          rw [List.size_toArray, cells9_len] at hj
          exact ⟨by rw [HR2.out.cell (by omega)]; rfl, HR2.out.frozen _⟩
        case s2 => rw [List.size_toArray, cells9_len]; exact size71
        case s3 =>
          refine all_oneCell_toArray fun v hv => ?_
          obtain ⟨j, _, rfl⟩ := List.mem_map.1 hv
          rfl
        go_wp2_with fail
        go_roundw
        case rel =>
          refine ⟨k + 1, by omega, by go_num, HLS.out _ HR2.out _ rfl, fun i hi h => ?_, below_setCells (Nat.le_refl _) _ HB2.out _⟩
          by_cases e : i = k
          · subst e; rw [← HLK.out]; exact HGM.out
          · exact HGK.out i hi (by omega)
        case measure => simp [intOf]; omega
      · generalize L.getD k ByteArray.empty = m at *
        by_cases g1 : (m.size : Int) < 1
        · clear hr hB hgm hgk hLk
          go_wp2_with fail
          go_ret2
          exact ⟨rfl, HB.out⟩
        · have g2 : z < (m.size : Int) := by
            by_cases g3 : z < (m.size : Int)
            · exact g3
            · exact absurd ⟨by omega, by omega⟩ hgm
          clear hr hB hgm hgk hLk
          go_wp2_with fail
          go_ret2
          exact ⟨rfl, HB.out⟩
    · exact absurd (fun m hm => by
        obtain ⟨i, hi, rfl⟩ := List.mem_iff_getElem.1 hm
        exact HGK.out i hi (by have := HN.out; omega)) HG.out
end Go.Proofs.YtnmobalgghggnaaDoor
