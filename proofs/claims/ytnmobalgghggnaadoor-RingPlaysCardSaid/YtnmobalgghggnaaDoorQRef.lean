/-
  The document's helpers: words that a length needs, how many are used, a message's word, a word's bytes.
-/
import Derived.Test.YtnmobalgghggnaaDoorRefWords
import Derived.Test.YtnmobalgghggnaaDoorTell
import Derived.Test.YtnmobalgghggnaaDoorMakes
namespace Go.Proofs.YtnmobalgghggnaaDoor
open Go.RowKit

set_option maxHeartbeats 1000000 in
theorem needs_any (x : Int) (n : Nat) (w : World) (hx : x = n) (hn : n ≤ 1000000) : Calls Tryd.prog 39 #[.int .i64 x] w fun e w' => e = .returned (.int .i64 (need n : Nat)) ∧ w = w' := by
  subst hx
  go_enter Tryd.func39, Tryd.ntmps39
  go_wp2_with fail
  go_loop [3] (fun i => ∃ k : Nat, 4 * k < n + 4 ∧ i = .int .i64 k) (fun i => n + 4 - 4 * (intOf i).toNat)
  case atStart => exact ⟨0, by omega, rfl⟩
  case round =>
    obtain ⟨k, hk, rfl⟩ := hrel
    by_cases hlt : (k : Int) * 4 < n
    · go_wp2_with fail
      go_round
      case rel => exact ⟨k + 1, by omega, by go_num⟩
      case measure => simp [intOf]; omega
    · have hkn : Hid (k = need n) := Lib.hid (by unfold need; omega)
      go_wp2_with fail
      go_ret
      exact ⟨by rw [← hkn.out]; rfl, rfl⟩
set_option maxHeartbeats 1000000 in
theorem refused_any (h t : Int) (w : World) (hh : 0 ≤ h ∧ h < 4294967296) (ht : 0 ≤ t ∧ t < 4294967296) : Calls Tryd.prog 41 #[.int .u32 h, .int .u32 t] w fun e w' => e = .returned (.int .u32 (used h t)) ∧ w = w' := by
  by_cases hle : h ≤ t
  · have hu : used h t = t - h := by unfold used; omega
    have hw : IntKind.u32.wrap (t - h) = t - h := by rw [IntKind.wrap_u32']; omega
    rw [hu]
    go_enter Tryd.func41, Tryd.ntmps41
    go_wp2_with fail
    go_ret
    exact ⟨rfl, rfl⟩
  · have hu : used h t = 4294967295 - h + t + 1 := by unfold used; omega
    have h1 : IntKind.u32.wrap (4294967295 - h) = 4294967295 - h := by rw [IntKind.wrap_u32']; omega
    have h2 : IntKind.u32.wrap (4294967295 - h + t) = 4294967295 - h + t := by rw [IntKind.wrap_u32']; omega
    have h3 : IntKind.u32.wrap (4294967295 - h + t + 1) = 4294967295 - h + t + 1 := by rw [IntKind.wrap_u32']; omega
    rw [hu]
    clear hu
    go_enter Tryd.func41, Tryd.ntmps41
    go_wp2_with fail
    go_ret
    exact ⟨rfl, rfl⟩
/-- Of a message's word so many bytes. -/
def wpart (m : ByteArray) (q : Nat) : Nat → Int
  | 0 => 0
  | k + 1 => wpart m q k * 256 + byteOf m (4 * q + k)
theorem wpart_four (m : ByteArray) (q : Nat) : wpart m q 4 = wordOf m q := by
  simp only [wpart, wordOf, Nat.add_zero]
  omega
theorem wpart_rng (m : ByteArray) (q : Nat) : ∀ k, k ≤ 4 → 0 ≤ wpart m q k ∧ (k ≤ 3 → wpart m q k < 16777216)
  | 0, _ => ⟨Int.le_refl _, fun _ => by show (0 : Int) < _; omega⟩
  | 1, _ => by have := byteOf_rng m (4 * q + 0); simp only [wpart]; omega
  | 2, _ => by have := byteOf_rng m (4 * q + 0); have := byteOf_rng m (4 * q + 1); simp only [wpart]; omega
  | 3, _ => by have := byteOf_rng m (4 * q + 0); have := byteOf_rng m (4 * q + 1); have := byteOf_rng m (4 * q + 2); simp only [wpart]; omega
  | 4, _ => by have := byteOf_rng m (4 * q + 0); have := byteOf_rng m (4 * q + 1); have := byteOf_rng m (4 * q + 2); have := byteOf_rng m (4 * q + 3); simp only [wpart]; omega
set_option maxHeartbeats 4000000 in
theorem refword_any (m : ByteArray) (x : Int) (q : Nat) (w : World) (hx : x = q) (hq : q ≤ 1000) (hm : m.size ≤ 1000000) : Calls Tryd.prog 42 #[.string m, .int .i64 x] w fun e w' => e = .returned (.int .u32 (wordOf m q)) ∧ w = w' := by
  subst hx
  go_enter Tryd.func42, Tryd.ntmps42
  go_wp2_with fail
  go_loop [5, 6] (fun v i => ∃ k : Nat, k ≤ 4 ∧ v = .int .u32 (wpart m q k) ∧ i = .int .i64 (4 * q + k)) (fun _ i => 4 * q + 4 - (intOf i).toNat)
  case atStart => exact ⟨0, by omega, rfl, by go_num⟩
  case round =>
    obtain ⟨k, hk, rfl, rfl⟩ := hrel
    by_cases hlt : k < 4
    · have hr := wpart_rng m q k hk
      have hb := byteOf_rng m (4 * q + k)
      have h1 : IntKind.u32.wrap (wpart m q k * 256) = wpart m q k * 256 := by rw [IntKind.wrap_u32']; omega
      have hst : wpart m q (k + 1) = wpart m q k * 256 + byteOf m (4 * q + k) := rfl
      have HST := Lib.hid hst
      have hi : (4 * (q : Int) + k) < 4 * q + 4 := by omega
      by_cases hs : 4 * q + k < m.size
      · have hat := byteOf_at hs
        have hs1 : 4 * (q : Int) + k < m.size := by omega
        have hs0 : (0 : Int) ≤ 4 * (q : Int) + k := by omega
        have hs2 : (4 * (q : Int) + k).toNat = 4 * q + k := by omega
        have h2 : IntKind.u32.wrap (wpart m q k * 256 + byteOf m (4 * q + k)) = wpart m q k * 256 + byteOf m (4 * q + k) := by rw [IntKind.wrap_u32']; omega
        have h3 : IntKind.u32.wrap (byteOf m (4 * q + k)) = byteOf m (4 * q + k) := by rw [IntKind.wrap_u32']; omega
        generalize wpart m q k = W at *
        generalize byteOf m (4 * q + k) = b at *
        clear hst hr
        go_wp2_with fail
        go_round
        case rel => exact ⟨k + 1, by omega, by rw [HST.out], by go_num⟩
        case measure => simp [intOf]; omega
      · have hb0 : byteOf m (4 * q + k) = 0 := byteOf_out (by omega)
        have hs1 : (m.size : Int) ≤ 4 * (q : Int) + k := by omega
        rw [hb0] at hst HST
        generalize wpart m q k = W at *
        clear hst hr hb hb0
        go_wp2_with fail
        go_round
        case rel => exact ⟨k + 1, by omega, by rw [HST.out, Int.add_zero], by go_num⟩
        case measure => simp [intOf]; omega
    · obtain rfl : k = 4 := by omega
      rw [wpart_four]
      go_wp2_with fail
      go_ret
      exact ⟨rfl, rfl⟩
theorem u8_of {y : Int} (h0 : 0 ≤ y) (h1 : y < 256) : ((UInt8.ofNat y.toNat).toNat : Int) = y := by
  rw [UInt8.toNat_ofNat']
  omega
/-- The bytes of a word. -/
def bytesOf (x : Int) : ByteArray := ⟨#[UInt8.ofNat (x / 16777216).toNat, UInt8.ofNat (x / 65536 % 256).toNat, UInt8.ofNat (x / 256 % 256).toNat, UInt8.ofNat (x % 256).toNat]⟩
theorem bytesOf_lies {x : Int} (hx : 0 ≤ x ∧ x < 4294967296) (w : World) : Lib.Bytes (w.alloc (.cells #[.int .u8 (x / 16777216), .int .u8 (x / 65536 % 256), .int .u8 (x / 256 % 256), .int .u8 (x % 256)] 5)) w.heap.size 0 (bytesOf x) := fun i hi => by
  have h4 : i < 4 := hi
  have h6 : i = 0 ∨ i = 1 ∨ i = 2 ∨ i = 3 := by omega
  rcases h6 with rfl | rfl | rfl | rfl
  · show _ = some (Value.int .u8 (((UInt8.ofNat (x / 16777216).toNat).toNat : Nat) : Int))
    rw [u8_of (by omega) (by omega)]
    exact al_new _ _ _ _ _ rfl rfl
  · show _ = some (Value.int .u8 (((UInt8.ofNat (x / 65536 % 256).toNat).toNat : Nat) : Int))
    rw [u8_of (by omega) (by omega)]
    exact al_new _ _ _ _ _ rfl rfl
  · show _ = some (Value.int .u8 (((UInt8.ofNat (x / 256 % 256).toNat).toNat : Nat) : Int))
    rw [u8_of (by omega) (by omega)]
    exact al_new _ _ _ _ _ rfl rfl
  · show _ = some (Value.int .u8 (((UInt8.ofNat (x % 256).toNat).toNat : Nat) : Int))
    rw [u8_of (by omega) (by omega)]
    exact al_new _ _ _ _ _ rfl rfl
set_option maxHeartbeats 1000000 in
set_option maxRecDepth 100000 in
theorem refbytes_any (x : Int) (w : World) (hx : 0 ≤ x ∧ x < 4294967296) : Calls Tryd.prog 43 #[.int .u32 x] w fun e w' => e = .returned (.string (bytesOf x)) ∧ Below w.heap.size w w' := by
  have hcv := Lib.run_convert_whole (P := Tryd.prog) _ 41 5 9 Tryd.underlying41 Tryd.underlying5 Tryd.underlying9 w.heap.size 0 (bytesOf x) (bytesOf_lies hx w) 4
  have hs : (bytesOf x).size = 4 := rfl
  rw [hs] at hcv
  clear hs
  go_enter Tryd.func43, Tryd.ntmps43
  go_wp2_with fail
  go_ret
  exact ⟨rfl, (Below.refl _ _).alloc (Nat.le_refl _) _⟩
end Go.Proofs.YtnmobalgghggnaaDoor
/-
  The document's Side; whether it is over; a place's first word.
-/
namespace Go.Proofs.YtnmobalgghggnaaDoor
open Go.RowKit

/-- A Side's cells. -/
def sideC (at' pl sz : Int) (vm : Value) (ti did hd tl ln : Int) (tx : ByteArray) (v10 v11 : Value) (ov : Bool) : List Value :=
  [.int .i64 at', .int .i64 pl, .int .i64 sz, vm, .int .i64 ti, .int .i64 did, .int .u32 hd, .int .u32 tl, .int .i64 ln, .string tx, v10, v11, .bool ov]
set_option maxHeartbeats 1000000 in
set_option maxRecDepth 100000 in
theorem over_s (at' pl sz ti did hd tl ln : Int) (A1 A10 : Option Addr) (n1 c1 n10 c10 : Nat) (tx : ByteArray) (v11 : Value) (ov : Bool) (w : World) :
    Calls Tryd.prog 38 #[.agg (sideC at' pl sz (.slice A1 n1 c1) ti did hd tl ln tx (.slice A10 n10 c10) v11 ov).toArray, .bool true] w fun e w' => e = .returned (.bool ((n10 : Int) == n1)) ∧ Below w.heap.size w w' := by
  simp only [sideC]
  go_enter Tryd.func38, Tryd.ntmps38
  go_wp2_with fail
  go_ret
  exact ⟨rfl, (Below.refl _ _).alloc (Nat.le_refl _) _⟩
set_option maxHeartbeats 1000000 in
set_option maxRecDepth 100000 in
theorem over_r (at' pl sz ti did hd tl ln : Int) (A11 : Option Addr) (n11 c11 : Nat) (tx : ByteArray) (vm v10 : Value) (ov : Bool) (w : World) :
    Calls Tryd.prog 38 #[.agg (sideC at' pl sz vm ti did hd tl ln tx v10 (.slice A11 n11 c11) ov).toArray, .bool false] w fun e w' => e = .returned (.bool ((n11 : Int) == ti)) ∧ Below w.heap.size w w' := by
  simp only [sideC]
  go_enter Tryd.func38, Tryd.ntmps38
  go_wp2_with fail
  go_ret
  exact ⟨rfl, (Below.refl _ _).alloc (Nat.le_refl _) _⟩
set_option maxHeartbeats 1000000 in
theorem refslot_any (i p : Int) (w : World) (hi : 0 ≤ i ∧ i < 4294967296) (hc : capP p = true) : Calls Tryd.prog 60 #[.int .u32 i, .int .u32 p] w fun e w' => e = .returned (.tuple #[.int .u32 (i % p), .int .i64 0]) ∧ w = w' := by
  have hb := cap_bounds p hc
  have HA := Lib.hid (fun W => refplaces_any p W (by omega) (by omega))
  rw [hc] at HA
  clear hc
  go_enter Tryd.func60, Tryd.ntmps60
  go_wp2_with fail
  with_reducible refine (HA.out _).mono ?_
  rintro e w1 ⟨rfl, rfl⟩
  go_wp2_with fail
  go_ret2
  exact ⟨by first | rfl | trace_state, rfl⟩
set_option maxHeartbeats 4000000 in
set_option maxRecDepth 100000 in
theorem refplace_any (at' sz ti did hd tl ln i : Int) (pl s : Nat) (tx : ByteArray) (vm v10 v11 : Value) (ov : Bool) (w : World) (ha : -1000 ≤ at' ∧ at' ≤ 1000) (hc : capP (pl : Int) = true) (hz : 1 ≤ s ∧ s ≤ 32) (hsz : sz = s) (hi : 0 ≤ i ∧ i < 4294967296) :
    Calls Tryd.prog 40 #[.agg (sideC at' pl sz vm ti did hd tl ln tx v10 v11 ov).toArray, .int .u32 i] w fun e w' => e = .returned (.int .i64 (base at' pl s i)) ∧ Below w.heap.size w w' := by
  subst hsz
  have hb := cap_bounds pl hc
  have HS := Lib.hid (fun W => refslot_any i pl W hi hc)
  have HW := Lib.hid (fun W => refwords_any pl s (by omega) W)
  have hV : wordsV pl s = 2 + (pl : Int) * (per s : Nat) := by unfold wordsV; rw [if_pos ⟨hc, by omega⟩, Int.toNat_natCast]
  have hp9 : per s ≤ 9 := by have := need_le (n := s) (by omega); unfold per; omega
  have hr : 0 ≤ i % (pl : Int) ∧ i % (pl : Int) < pl := ⟨Int.emod_nonneg _ (by omega), Int.emod_lt_of_pos _ (by omega)⟩
  have hbase : base at' pl s i = at' + 2 + i % pl * per s := rfl
  rw [hbase]
  rw [hV] at HW
  generalize i % (pl : Int) = r at *
  generalize wordsE pl s = E at *
  obtain ⟨y, hy⟩ : ∃ y, y = per s := ⟨_, rfl⟩
  rw [← hy] at HW hp9 ⊢
  obtain ⟨N, hN⟩ : ∃ N : Int, N = (pl : Int) * (y : Nat) := ⟨_, rfl⟩
  rw [← hN] at HW
  have hN2 : 0 ≤ N ∧ N ≤ 294912 := by
    rw [hN]
    refine ⟨Int.mul_nonneg (by omega) (by omega), ?_⟩
    calc (pl : Int) * (y : Nat) ≤ 32768 * 9 := Int.mul_le_mul hb.2 (by omega) (by omega) (by omega)
      _ = 294912 := rfl
  have hq : N / (pl : Int) = y := by rw [hN]; exact Int.mul_ediv_cancel_left _ (by omega)
  have hqt : Int.tdiv N (pl : Int) = y := by rw [hN]; exact Int.mul_tdiv_cancel_left _ (by omega)
  obtain ⟨Z, hZ⟩ : ∃ Z : Int, Z = r * y := ⟨_, rfl⟩
  have hZ2 : 0 ≤ Z ∧ Z ≤ 294912 := by
    rw [hZ]
    refine ⟨Int.mul_nonneg hr.1 (by omega), ?_⟩
    calc r * (y : Nat) ≤ 32768 * 9 := Int.mul_le_mul (by omega) (by omega) (by omega) (by omega)
      _ = 294912 := rfl
  rw [← hZ]
  have w0 : IntKind.u32.wrap (pl : Int) = pl := by rw [IntKind.wrap_u32']; omega
  have w1 : IntKind.i64.wrap (2 + N - 2) = N := by rw [IntWalk.i64_in _ (by omega)]; omega
  have w2 : IntKind.i64.wrap (r * y) = Z := by rw [← hZ]; exact IntWalk.i64_in _ (by omega)
  have w3 : IntKind.i64.wrap (at' + 2) = at' + 2 := IntWalk.i64_in _ (by omega)
  have w4 : IntKind.i64.wrap (at' + 2 + Z) = at' + 2 + Z := IntWalk.i64_in _ (by omega)
  have w5 : IntKind.i64.wrap N = N := IntWalk.i64_in _ (by omega)
  have w6 : IntKind.i64.wrap r = r := IntWalk.i64_in _ (by omega)
  have w7 : IntKind.i64.wrap (y : Int) = y := IntWalk.i64_in _ (by omega)
  have hp0 : ¬ (pl : Int) = 0 := by omega
  have hp1 : ((pl : Int) == 0) = false := by simpa using hp0
  clear hN hZ hc hV hy hbase
  simp only [sideC]
  go_enter Tryd.func40, Tryd.ntmps40
  go_wp2_with fail
  with_reducible refine (HS.out _).mono ?_
  rintro e w8 ⟨rfl, rfl⟩
  go_wp2_with fail
  with_reducible refine (HW.out _).mono ?_
  rintro e w8 ⟨rfl, rfl⟩
  go_wp2_with fail
  go_quiet (fail)
  go_wp2_with fail
  go_ret
  exact ⟨rfl, ((Below.refl _ _).alloc (Nat.le_refl _) _).trans (Qt.below ⟨_, rfl⟩)⟩
end Go.Proofs.YtnmobalgghggnaaDoor
/-
  The document's Side in a box, beside its result.
-/
namespace Go.Proofs.YtnmobalgghggnaaDoor
open Go.RowKit

/-- A Side. -/
structure DS where
  a : Int
  n : Int
  z : Int
  vm : Value
  ti : Int
  did : Int
  hd : Int
  tl : Int
  ln : Int
  tx : ByteArray
  v10 : Value
  v11 : Value
  ov : Bool
def DS.C (d : DS) : List Value := sideC d.a d.n d.z d.vm d.ti d.did d.hd d.tl d.ln d.tx d.v10 d.v11 d.ov
def DS.V (d : DS) : Value := .agg #[.int .i64 d.a, .int .i64 d.n, .int .i64 d.z, d.vm, .int .i64 d.ti, .int .i64 d.did, .int .u32 d.hd, .int .u32 d.tl, .int .i64 d.ln, .string d.tx, d.v10, d.v11, .bool d.ov]
def dZ : DS := ⟨0, 0, 0, .slice none 0 0, 0, 0, 0, 0, 0, ByteArray.empty, .slice none 0 0, .slice none 0 0, false⟩
/-- Cells of a block. -/
def BoxC (w : World) (b : Nat) (C : List Value) : Prop := ∀ j u, C[j]? = some u → w.cell? ⟨b, j, none⟩ = some u
theorem BoxC.keep {w w' : World} {b : Nat} {C : List Value} (h : BoxC w b C) (hB : Below w.heap.size w w') : BoxC w' b C := fun j u hu => kept (h j u hu) hB
theorem BoxC.out {w : World} {b : Nat} {C : List Value} (h : BoxC w b C) {a : Addr} (ha : a.block ≠ b) (v : Value) : BoxC (w.setCell a v) b C := fun j u hu => by
  rw [World.cell?_setCell_other _ _ _ _ (by intro e; first | exact ha (by rw [e]) | exact ha (by rw [← e]))]; exact h j u hu
theorem BoxC.set {w : World} {b : Nat} {C : List Value} (h : BoxC w b C) (j : Nat) (v : Value) : BoxC (w.setCell ⟨b, j, none⟩ v) b (C.set j v) := fun i u hu => by
  by_cases e : i = j
  · subst e
    have hi : i < C.length := by
      have := (List.getElem?_eq_some_iff.1 hu).1
      simpa using this
    rw [List.getElem?_set_self hi] at hu
    injection hu with hu
    subst hu
    exact World.cell?_setCell_same _ _ _ (h i _ (List.getElem?_eq_getElem hi))
  · rw [List.getElem?_set_ne (Ne.symm e)] at hu
    rw [World.cell?_setCell_other _ _ _ _ (by simp only [ne_eq, Addr.mk.injEq, not_and]; omega)]
    exact h i u hu
theorem BoxC.all {w : World} {b : Nat} {d : DS} (h : BoxC w b d.C) : w.cell? ⟨b, 0, none⟩ = some (.int .i64 d.a) ∧ w.cell? ⟨b, 1, none⟩ = some (.int .i64 d.n) ∧ w.cell? ⟨b, 2, none⟩ = some (.int .i64 d.z) ∧ w.cell? ⟨b, 3, none⟩ = some d.vm ∧ w.cell? ⟨b, 4, none⟩ = some (.int .i64 d.ti) ∧ w.cell? ⟨b, 5, none⟩ = some (.int .i64 d.did) ∧ w.cell? ⟨b, 6, none⟩ = some (.int .u32 d.hd) ∧ w.cell? ⟨b, 7, none⟩ = some (.int .u32 d.tl) ∧ w.cell? ⟨b, 8, none⟩ = some (.int .i64 d.ln) ∧ w.cell? ⟨b, 9, none⟩ = some (.string d.tx) ∧ w.cell? ⟨b, 10, none⟩ = some d.v10 ∧ w.cell? ⟨b, 11, none⟩ = some d.v11 ∧ w.cell? ⟨b, 12, none⟩ = some (.bool d.ov) :=
  ⟨h 0 _ rfl, h 1 _ rfl, h 2 _ rfl, h 3 _ rfl, h 4 _ rfl, h 5 _ rfl, h 6 _ rfl, h 7 _ rfl, h 8 _ rfl, h 9 _ rfl, h 10 _ rfl, h 11 _ rfl, h 12 _ rfl⟩
/-- The Side and the result, that can be written. -/
structure FD (w : World) (H : Nat) (d : DS) : Prop where
  b : BoxC w H d.C
  z : BoxC w (H + 1) dZ.C
  fb : ∀ j, w.frozen? ⟨H, j, none⟩ = false
  fz : ∀ j, w.frozen? ⟨H + 1, j, none⟩ = false
theorem FD.lt {w : World} {H : Nat} {d : DS} (h : FD w H d) : H + 1 < w.heap.size := by
  have := cell_lt (h.z 0 _ rfl)
  exact this
theorem FD.keep {w w' : World} {H : Nat} {d : DS} (h : FD w H d) (hB : Below w.heap.size w w') : FD w' H d := by
  have hl := h.lt
  exact ⟨h.b.keep hB, h.z.keep hB, fun j => by rw [hB.frozen (p := ⟨H, j, none⟩) (by show H < _; omega)]; exact h.fb j, fun j => by rw [hB.frozen (p := ⟨H + 1, j, none⟩) (by show H + 1 < _; omega)]; exact h.fz j⟩
theorem FD.out {w : World} {H : Nat} {d : DS} (h : FD w H d) {a : Addr} (h1 : a.block ≠ H) (h2 : a.block ≠ H + 1) (v : Value) : FD (w.setCell a v) H d :=
  ⟨h.b.out h1 v, h.z.out h2 v, fun j => by rw [World.frozen?_setCell]; exact h.fb j, fun j => by rw [World.frozen?_setCell]; exact h.fz j⟩
theorem FD.set {w : World} {H : Nat} {d d' : DS} (h : FD w H d) (j : Nat) (v : Value) (e : d'.C = d.C.set j v) : FD (w.setCell ⟨H, j, none⟩ v) H d' :=
  ⟨by rw [e]; exact h.b.set j v, h.z.out (by show H ≠ H + 1; omega) v, fun j => by rw [World.frozen?_setCell]; exact h.fb j, fun j => by rw [World.frozen?_setCell]; exact h.fz j⟩
theorem fd_new (w : World) (d : DS) : FD ((w.alloc (.cells d.C.toArray 50)).alloc (.cells dZ.C.toArray 50)) w.heap.size d := by
  refine ⟨fun j u hu => al_cell (al_new _ _ _ _ _ rfl (by simpa using hu)), fun j u hu => al_new _ _ _ _ _ (by simp) (by simpa using hu), fun j => ?_, fun j => frozen_at _ _ _ j _ (by simp)⟩
  rw [Below.frozen (B := w.heap.size + 1) ((Below.refl _ _).alloc (by simp) _) (p := ⟨w.heap.size, j, none⟩) (by simp)]
  exact frozen_new _ _ _ j
/-- Words in an own row. -/
theorem info40' : (Tryd.prog.info? 40).map (fun i => (i.zero, i.size, i.bytes)) = some (some (.int .u32 0), 1, 4) := by kernel_rfl
/-- Words that a slice names. -/
def Ws (w : World) (U : Option Addr) (n : Nat) (f : Nat → Int) : Prop := ∀ i, i < n → ∃ b o, U = some ⟨b, o, none⟩ ∧ w.cell? ⟨b, o + i, none⟩ = some (.int .u32 (f i))
theorem Ws.keep {w w' : World} {U : Option Addr} {n : Nat} {f : Nat → Int} (h : Ws w U n f) (hB : Below w.heap.size w w') : Ws w' U n f := fun i hi => by
  obtain ⟨b, o, e, hc⟩ := h i hi
  exact ⟨b, o, e, kept hc hB⟩
theorem Ws.cell {w : World} {b o n : Nat} {f : Nat → Int} (h : Ws w (some ⟨b, o, none⟩) n f) {i : Nat} (hi : i < n) : w.cell? ⟨b, o + i, none⟩ = some (.int .u32 (f i)) := by
  obtain ⟨b', o', e, hc⟩ := h i hi
  injection e with e
  injection e with e1 e2
  subst e1 e2
  exact hc
theorem Ws.head {w : World} {U : Option Addr} {n : Nat} {f : Nat → Int} (h : Ws w U n f) {i : Nat} (hi : i < n) : ∃ b o, U = some ⟨b, o, none⟩ := by
  obtain ⟨b, o, e, _⟩ := h i hi
  exact ⟨b, o, e⟩
theorem Ws.set0 {w : World} {b n : Nat} {f : Nat → Int} (h : Ws w (some ⟨b, 0, none⟩) n f) {i : Nat} (hi : i < n) (v : Int) : Ws (w.setCell ⟨b, i, none⟩ (.int .u32 v)) (some ⟨b, 0, none⟩) n (upd f i v) := fun j hj => by
  refine ⟨b, 0, rfl, ?_⟩
  have h1 := h.cell hj
  have h2 := h.cell hi
  rw [Nat.zero_add] at h1 h2 ⊢
  by_cases e : j = i
  · subst e
    rw [upd_same]
    exact World.cell?_setCell_same _ _ _ h2
  · rw [upd_other e, World.cell?_setCell_other _ _ _ _ (by simp only [ne_eq, Addr.mk.injEq, not_and]; omega)]
    exact h1
theorem Ws.out {w : World} {b n : Nat} {f : Nat → Int} {a : Addr} {v : Value} (h : Ws w (some ⟨b, 0, none⟩) n f) (ha : a.block ≠ b) : Ws (w.setCell a v) (some ⟨b, 0, none⟩) n f := fun j hj => by
  refine ⟨b, 0, rfl, ?_⟩
  rw [World.cell?_setCell_other _ _ _ _ (by intro e; first | exact ha (by rw [e]) | exact ha (by rw [← e]))]
  exact h.cell hj
theorem ws_own {w : World} {base n : Nat} {v : Value} {f : Nat → Int} (h0 : 0 < n) (h : w.ownsRow base 40 1 v n ((List.range n).map fun i => .int .u32 (f i))) : ∃ G cap, v = .slice (some ⟨G, 0, none⟩) n cap ∧ base ≤ G ∧ G < w.heap.size ∧ Ws w (some ⟨G, 0, none⟩) n f ∧ ∀ j, w.frozen? ⟨G, j, none⟩ = false := by
  rcases h.2 with ⟨_, h1⟩ | ⟨g, cap, cur, rfl, hg, hr, _, _, _, _⟩
  · omega
  · have hc : ∀ i, i < n → w.cell? ⟨g, 0 + i, none⟩ = some (.int .u32 (f i)) := fun i hi => by
      rw [Nat.zero_add, World.ownsRow.cellAt h i (by omega), List.getElem?_map, List.getElem?_range hi]
      rfl
    exact ⟨g, cap, rfl, hg, by have := cell_lt (hc 0 h0); exact this, fun i hi => ⟨g, 0, rfl, hc i hi⟩, fun j => World.ownsRow.frozenAt h j⟩
set_option maxRecDepth 100000 in
/-- The append of the words to an empty list. -/
theorem wpList_append_ws {ops : Array Oper} {rest : List Oper} {o : Oper} {a : Act} {Q : Exit → Act → World → Prop} (hgd : o.guard = none) (s x : Operand)
    (ho : o.op = .call { callee := .builtin .append, args := #[s, x], argTypes := #[47, 47] }) {w : World} {n cp : Nat} {U : Option Addr} {f : Nat → Int} (h0 : 0 < n) (hn : n ≤ 4096) (hU : Ws w U n f)
    (hs : a.eval s = .slice (some ⟨w.heap.size, 0, none⟩) 0 0) (hx : a.eval x = .slice U n cp)
    (hQ : ∀ G cap' w2, w.heap.size ≤ G → G < w2.heap.size → Ws w2 (some ⟨G, 0, none⟩) n f → (∀ j, w2.frozen? ⟨G, j, none⟩ = false) → Below w.heap.size w w2 → wpList Tryd.prog ops Q rest (a.put o.dst (.slice (some ⟨G, 0, none⟩) n cap')) w2) :
    wpList Tryd.prog ops Q (o :: rest) a (w.alloc (.cells #[] 40)) := by
  obtain ⟨i0, hi, hz0, hz1, hz2⟩ := info_parts info40'
  have hA : Below w.heap.size w (w.alloc (.cells #[] 40)) := (Below.refl _ _).alloc (Nat.le_refl _) _
  have hown : (w.alloc (.cells #[] 40)).ownsRow w.heap.size 40 1 (.slice (some ⟨w.heap.size, 0, none⟩) 0 0) 0 [] := World.ownsRow_lit w #[] 0 (Nat.le_refl _) (by decide) rfl
  obtain ⟨b, o', rfl⟩ := hU.head h0
  refine wpList_append_own _ hgd s x 47 ho w.heap.size 40 i0 (.int .u32 0) 1 4 Tryd.underlying47 hi hz0 hz1 hz2 rfl (by decide) _ 0 [] hs hown ⟨b, o', none⟩ n cp ((List.range n).map fun i => .int .u32 (f i)) hx (by simp) ?_ ?_ (by unfold maxLen; omega) (by omega) (by simp) ?_
  · intro j u hu
    have hj : j < n := by have := (List.getElem?_eq_some_iff.1 hu).1; simpa using this
    rw [List.getElem?_map, List.getElem?_range hj] at hu
    injection hu with hu
    subst hu
    rw [Go.WideShapes.add_plain]
    exact kept (hU.cell hj) hA
  · intro u hu
    obtain ⟨i, _, rfl⟩ := List.mem_map.1 hu
    rfl
  · intro v' w' hown' hgrow _
    have hO : w'.ownsRow w.heap.size 40 1 v' n ((List.range n).map fun i => .int .u32 (f i)) := by simpa using hown'
    obtain ⟨G, cap', rfl, h1, h2, h3, h4⟩ := ws_own h0 hO
    exact hQ G cap' w' h1 h2 h3 h4 (hA.grown hgrow (by simp) (fun k hk => (World.ownsRow.lt hown k hk).1))
/-- What Step leaves. -/
def DGo (d' : DS) (n : Nat) (f' : Nat → Int) (w : World) (e : Ending) (w' : World) : Prop := ∃ U' c', e = .returned (.tuple #[d'.V, .slice U' n c']) ∧ Ws w' U' n f' ∧ Below w.heap.size w w'
end Go.Proofs.YtnmobalgghggnaaDoor
/-
  Lists copied, and one thing more.
-/
namespace Go.Proofs.YtnmobalgghggnaaDoor
open Go.RowKit

/-- What a slice names. -/
def Vals (w : World) (P : Option Addr) (xs : List Value) : Prop := ∀ j u, xs[j]? = some u → ∃ b o, P = some ⟨b, o, none⟩ ∧ w.cell? ⟨b, o + j, none⟩ = some u
theorem Vals.keep {w w' : World} {P : Option Addr} {xs : List Value} (h : Vals w P xs) (hB : Below w.heap.size w w') : Vals w' P xs := fun j u hu => by
  obtain ⟨b, o, e, hc⟩ := h j u hu
  exact ⟨b, o, e, kept hc hB⟩
theorem Vals.drewN {w : World} {P : Option Addr} {xs : List Value} {m : Nat} (h : Vals w P xs) : Vals (w.drewN m) P xs := h.keep (Qt.below ⟨m, rfl⟩)
theorem Grow.vals {w : World} {e : TypeId} {P : Option Addr} {n cap : Nat} {xs : List Value} (h : Grow w e (.slice P n cap) xs) : Vals w P xs := fun j u hu => by
  have hj := (List.getElem?_eq_some_iff.1 hu).1
  obtain ⟨g, cap', e1, hc⟩ := h.cell hj
  injection e1 with e1 _ _
  subst e1
  refine ⟨g, 0, rfl, ?_⟩
  rw [Nat.zero_add, hc, ← hu, List.getElem?_eq_getElem hj]
set_option maxRecDepth 100000 in
/-- The append of all to an empty list. -/
theorem wpList_spread {ops : Array Oper} {rest : List Oper} {o : Oper} {a : Act} {Q : Exit → Act → World → Prop} (hgd : o.guard = none) (s x : Operand) (t e : TypeId) (z : Value) (bytes : Nat)
    (ho : o.op = .call { callee := .builtin .append, args := #[s, x], argTypes := #[t, t] }) (ht : Tryd.prog.underlying t = some (.slice e)) (hi : (Tryd.prog.info? e).map (fun i => (i.zero, i.size, i.bytes)) = some (some z, 1, bytes)) (hz : z.cells.size = 1) (hb : bytes ≤ 16)
    {w : World} {P : Option Addr} {xs : List Value} {n cp : Nat} (hn : n = xs.length) (hP : Vals w P xs) (hnil : P = none → cp = 0) (hk : xs.length ≤ 100000) (h1 : ∀ u ∈ xs, u.oneCell' = true)
    (hs : a.eval s = .slice (some ⟨w.heap.size, 0, none⟩) 0 0) (hx : a.eval x = .slice P n cp)
    (hQ : ∀ g' cap' w2, w.heap.size ≤ g' → g' < w2.heap.size → Grow w2 e (.slice (some ⟨g', 0, none⟩) n cap') xs → Below w.heap.size w w2 → wpList Tryd.prog ops Q rest (a.put o.dst (.slice (some ⟨g', 0, none⟩) n cap')) w2) :
    wpList Tryd.prog ops Q (o :: rest) a (w.alloc (.cells #[] e)) := by
  subst hn
  obtain ⟨i0, hi, hz0, hz1, hz2⟩ := info_parts hi
  have hA : Below w.heap.size w (w.alloc (.cells #[] e)) := (Below.refl _ _).alloc (Nat.le_refl _) _
  have hown : (w.alloc (.cells #[] e)).ownsRow w.heap.size e 1 (.slice (some ⟨w.heap.size, 0, none⟩) 0 0) 0 [] := World.ownsRow_lit w #[] 0 (Nat.le_refl _) (by decide) rfl
  have key : ∀ v' w', w'.ownsRow w.heap.size e 1 v' xs.length xs → v' ≠ .slice none 0 0 → Below w.heap.size w w' → wpList Tryd.prog ops Q rest (a.put o.dst v') w' := fun v' w' h hne hB => by
    rcases h.2 with ⟨h2, _⟩ | ⟨g, cap, cur, rfl, hg, rest⟩
    · exact absurd h2 hne
    · exact hQ g cap w' hg (World.ownsRow.lt h g rfl).2 ⟨h.1, .inr ⟨g, cap, cur, rfl, Nat.zero_le _, rest⟩⟩ hB
  cases P with
  | none =>
    obtain rfl : cp = 0 := hnil rfl
    have hL0 : xs = [] := by
      rcases Nat.eq_zero_or_pos xs.length with h | h
      · exact List.length_eq_zero_iff.1 h
      · obtain ⟨_, _, e, _⟩ := hP 0 _ (List.getElem?_eq_getElem h); cases e
    subst hL0
    refine wpList_append_own_none hgd s x t ho w.heap.size e i0 1 ht hi _ 0 [] hs hown hx ?_
    exact key _ _ hown (by simp) hA
  | some ad =>
    refine wpList_append_own _ hgd s x t ho w.heap.size e i0 z 1 bytes ht hi hz0 hz1 hz2 hz (by decide) _ 0 [] hs hown ad xs.length cp xs hx (by simp) ?_ h1 (by unfold maxLen; omega) (by have := Nat.mul_le_mul (show 0 + xs.length ≤ 100000 by omega) hb; omega) (by simp) ?_
    · intro j u hu
      obtain ⟨b, o', e, hc⟩ := hP j u hu
      injection e with e
      subst e
      rw [Go.WideShapes.add_plain]
      exact kept hc hA
    · intro v' w' hown' hgrow hiff
      have hO : w'.ownsRow w.heap.size e 1 v' xs.length xs := by simpa using hown'
      refine key v' w' hO (fun e => ?_) (hA.grown hgrow (by simp) (fun k hk => (World.ownsRow.lt hown k hk).1))
      have := (hiff.1 e).1
      simp at this
theorem FD.chg {S : Nat → Prop} {w w' : World} {H : Nat} {d : DS} (h : FD w H d) (hC : Chg S w w') (h1 : ¬ S H) (h2 : ¬ S (H + 1)) : FD w' H d := by
  have hl := h.lt
  exact ⟨fun j u hu => hC.cell (h.b j u hu) h1, fun j u hu => hC.cell (h.z j u hu) h2, fun j => by rw [hC.frozen (a := ⟨H, j, none⟩) (by show H < _; omega) h1]; exact h.fb j, fun j => by rw [hC.frozen (a := ⟨H + 1, j, none⟩) (by show H + 1 < _; omega) h2]; exact h.fz j⟩
theorem Ws.chg {S : Nat → Prop} {w w' : World} {b n : Nat} {f : Nat → Int} (h : Ws w (some ⟨b, 0, none⟩) n f) (hC : Chg S w w') (h1 : ¬ S b) : Ws w' (some ⟨b, 0, none⟩) n f := fun _ hi => ⟨b, 0, rfl, hC.cell (h.cell hi) h1⟩
/-- What Step leaves, and a new list. -/
def DGoS (d' : Value → DS) (xs : List Value) (n : Nat) (f' : Nat → Int) (w : World) (e : Ending) (w' : World) : Prop := ∃ U' c' g c, e = .returned (.tuple #[(d' (.slice (some ⟨g, 0, none⟩) xs.length c)).V, .slice U' n c']) ∧ Ws w' U' n f' ∧ Vals w' (some ⟨g, 0, none⟩) xs ∧ Below w.heap.size w w'
theorem info4' : (Tryd.prog.info? 4).map (fun i => (i.zero, i.size, i.bytes)) = some (some (.bool false), 1, 1) := by kernel_rfl
theorem Vals.out {w : World} {b : Nat} {xs : List Value} {a : Addr} {v : Value} (h : Vals w (some ⟨b, 0, none⟩) xs) (ha : a.block ≠ b) : Vals (w.setCell a v) (some ⟨b, 0, none⟩) xs := fun j u hu => by
  obtain ⟨b', o', e, hc⟩ := h j u hu
  injection e with e
  injection e with e1 e2
  subst e1 e2
  refine ⟨b, 0, rfl, ?_⟩
  rw [World.cell?_setCell_other _ _ _ _ (by intro e; first | exact ha (by rw [e]) | exact ha (by rw [← e]))]
  exact hc
theorem tail_vals {V : World} {G H : Nat} {xs : List Value} (h : Vals V (some ⟨G, 0, none⟩) xs) (h2 : H ≠ G) (u0 u1 u2 u3 u4 u5 u6 u7 u8 u9 u10 u11 u12 : Value) :
    Vals (((((((((((((V.setCell ⟨H, 0, none⟩ u0).setCell ⟨H, 1, none⟩ u1).setCell ⟨H, 2, none⟩ u2).setCell ⟨H, 3, none⟩ u3).setCell ⟨H, 4, none⟩ u4).setCell ⟨H, 5, none⟩ u5).setCell ⟨H, 6, none⟩ u6).setCell ⟨H, 7, none⟩ u7).setCell ⟨H, 8, none⟩ u8).setCell ⟨H, 9, none⟩ u9).setCell ⟨H, 10, none⟩ u10).setCell ⟨H, 11, none⟩ u11).setCell ⟨H, 12, none⟩ u12) (some ⟨G, 0, none⟩) xs :=
  Vals.out (Vals.out (Vals.out (Vals.out (Vals.out (Vals.out (Vals.out (Vals.out (Vals.out (Vals.out (Vals.out (Vals.out (Vals.out h h2) h2) h2) h2) h2) h2) h2) h2) h2) h2) h2) h2) h2
theorem ws_lt {w : World} {b n : Nat} {f : Nat → Int} (h : Ws w (some ⟨b, 0, none⟩) n f) (h0 : 0 < n) : b < w.heap.size := by
  have := cell_lt (h.cell h0)
  exact this
end Go.Proofs.YtnmobalgghggnaaDoor
/-
  What Step leaves, and where its words and lists lie.
-/
namespace Go.Proofs.YtnmobalgghggnaaDoor
open Go.RowKit

theorem same_some {w : World} {a : Addr} {v : Value} (h : (w.cell? a).isSome = true) : (w.setCell a v).cell? a = some v := by
  obtain ⟨o, ho⟩ := Option.isSome_iff_exists.1 h
  exact World.cell?_setCell_same _ _ _ ho
theorem bset {n : Nat} {w0 w : World} {a : Addr} {v : Value} (h : Below n w0 w) (ha : n ≤ a.block) : Below n w0 (w.setCell a v) := h.setCell (p := a) ha v
theorem tail_ws {V : World} {G H n : Nat} {f : Nat → Int} (h : Ws V (some ⟨G, 0, none⟩) n f) (h2 : H ≠ G) (u0 u1 u2 u3 u4 u5 u6 u7 u8 u9 u10 u11 u12 : Value) : Ws (((((((((((((V.setCell ⟨H, 0, none⟩ u0).setCell ⟨H, 1, none⟩ u1).setCell ⟨H, 2, none⟩ u2).setCell ⟨H, 3, none⟩ u3).setCell ⟨H, 4, none⟩ u4).setCell ⟨H, 5, none⟩ u5).setCell ⟨H, 6, none⟩ u6).setCell ⟨H, 7, none⟩ u7).setCell ⟨H, 8, none⟩ u8).setCell ⟨H, 9, none⟩ u9).setCell ⟨H, 10, none⟩ u10).setCell ⟨H, 11, none⟩ u11).setCell ⟨H, 12, none⟩ u12) (some ⟨G, 0, none⟩) n f :=
  (Ws.out (a := ⟨H, 12, none⟩) (Ws.out (a := ⟨H, 11, none⟩) (Ws.out (a := ⟨H, 10, none⟩) (Ws.out (a := ⟨H, 9, none⟩) (Ws.out (a := ⟨H, 8, none⟩) (Ws.out (a := ⟨H, 7, none⟩) (Ws.out (a := ⟨H, 6, none⟩) (Ws.out (a := ⟨H, 5, none⟩) (Ws.out (a := ⟨H, 4, none⟩) (Ws.out (a := ⟨H, 3, none⟩) (Ws.out (a := ⟨H, 2, none⟩) (Ws.out (a := ⟨H, 1, none⟩) (Ws.out (a := ⟨H, 0, none⟩) h h2) h2) h2) h2) h2) h2) h2) h2) h2) h2) h2) h2) h2)
theorem tail_be {n : Nat} {w0 V : World} {H : Nat} (h : Below n w0 V) (hn : n ≤ H) (u0 u1 u2 u3 u4 u5 u6 u7 u8 u9 u10 u11 u12 : Value) : Below n w0 (((((((((((((V.setCell ⟨H, 0, none⟩ u0).setCell ⟨H, 1, none⟩ u1).setCell ⟨H, 2, none⟩ u2).setCell ⟨H, 3, none⟩ u3).setCell ⟨H, 4, none⟩ u4).setCell ⟨H, 5, none⟩ u5).setCell ⟨H, 6, none⟩ u6).setCell ⟨H, 7, none⟩ u7).setCell ⟨H, 8, none⟩ u8).setCell ⟨H, 9, none⟩ u9).setCell ⟨H, 10, none⟩ u10).setCell ⟨H, 11, none⟩ u11).setCell ⟨H, 12, none⟩ u12) :=
  (bset (a := ⟨H, 12, none⟩) (bset (a := ⟨H, 11, none⟩) (bset (a := ⟨H, 10, none⟩) (bset (a := ⟨H, 9, none⟩) (bset (a := ⟨H, 8, none⟩) (bset (a := ⟨H, 7, none⟩) (bset (a := ⟨H, 6, none⟩) (bset (a := ⟨H, 5, none⟩) (bset (a := ⟨H, 4, none⟩) (bset (a := ⟨H, 3, none⟩) (bset (a := ⟨H, 2, none⟩) (bset (a := ⟨H, 1, none⟩) (bset (a := ⟨H, 0, none⟩) h hn) hn) hn) hn) hn) hn) hn) hn) hn) hn) hn) hn) hn)
theorem base_rng2 {at' : Int} {pl s : Nat} {i : Int} (ha : -1000 ≤ at' ∧ at' ≤ 1000) (hc : capP (pl : Int) = true) (hz : 1 ≤ s ∧ s ≤ 32) : -1000 ≤ base at' pl s i ∧ base at' pl s i ≤ 1000000 := by
  have hb := cap_bounds _ hc
  have h1 : 0 ≤ i % (pl : Int) := Int.emod_nonneg _ (by omega)
  have h2 : i % (pl : Int) < pl := Int.emod_lt_of_pos _ (by omega)
  have h3 : per s ≤ 9 := by unfold per need; omega
  unfold base
  have h4 : 0 ≤ i % (pl : Int) * (per s : Nat) := Int.mul_nonneg h1 (by omega)
  have h5 : i % (pl : Int) * (per s : Nat) ≤ 32768 * 9 := Int.mul_le_mul (by omega) (by omega) (by omega) (by omega)
  omega
def DGoL (U : Option Addr) (d' : DS) (n : Nat) (f' : Nat → Int) (w : World) (e : Ending) (w' : World) : Prop := ∃ U' c', e = .returned (.tuple #[d'.V, .slice U' n c']) ∧ Ws w' U' n f' ∧ Below w.heap.size w w' ∧ (U' = U ∨ ∃ G, U' = some ⟨G, 0, none⟩ ∧ w.heap.size ≤ G)
def DGoT (U : Option Addr) (d' : Value → DS) (xs : List Value) (n : Nat) (f' : Nat → Int) (w : World) (e : Ending) (w' : World) : Prop := ∃ U' c' g c, e = .returned (.tuple #[(d' (.slice (some ⟨g, 0, none⟩) xs.length c)).V, .slice U' n c']) ∧ Ws w' U' n f' ∧ Vals w' (some ⟨g, 0, none⟩) xs ∧ Below w.heap.size w w' ∧ w.heap.size ≤ g ∧ (U' = U ∨ ∃ G, U' = some ⟨G, 0, none⟩ ∧ w.heap.size ≤ G)
/-- A list that is new. -/
def Fresh (w w' : World) (v : Value) : Prop := ∃ g n c, v = .slice (some ⟨g, 0, none⟩) n c ∧ w.heap.size ≤ g ∧ g < w'.heap.size
/-- Where a Side's lists lie behind a step, and the words. -/
def Loc (w w' : World) (D D' : DS) (U U' : Option Addr) : Prop := D'.vm = D.vm ∧ (D'.v10 = D.v10 ∨ Fresh w w' D'.v10) ∧ (D'.v11 = D.v11 ∨ Fresh w w' D'.v11) ∧ (U' = U ∨ ∃ G, U' = some ⟨G, 0, none⟩ ∧ w.heap.size ≤ G)
theorem vals_lt {w : World} {g : Nat} {xs : List Value} {u : Value} (h : Vals w (some ⟨g, 0, none⟩) (xs ++ [u])) : g < w.heap.size := by
  obtain ⟨b, o, e, hc⟩ := h xs.length u (by simp)
  injection e with e
  injection e with e1 _
  subst e1
  exact cell_lt hc
end Go.Proofs.YtnmobalgghggnaaDoor
