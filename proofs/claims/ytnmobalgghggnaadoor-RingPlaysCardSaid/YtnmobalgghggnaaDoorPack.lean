/-
  A message as a letter.
-/
import Derived.Test.YtnmobalgghggnaaDoorEndW
import Derived.Deep.RegionLaw
import Derived.Lib.SlBytesRow
namespace Go.Proofs.YtnmobalgghggnaaDoor
open Go.RowKit

theorem byteOf_at {s : ByteArray} {k : Nat} (h : k < s.size) : ((s[k]).toNat : Int) = byteOf s k := by
  unfold byteOf
  rw [List.getD_eq_getElem?_getD, List.getElem?_eq_getElem (by rw [Array.length_toList]; exact h), Option.getD_some]
  rfl
set_option maxHeartbeats 1000000 in
theorem shift_any (i : Nat) (x : Int) (hx : x = i) (w : World) (hi : i < 1000000) : Calls Tryd.prog 48 #[.int .i64 x] w fun e w' => e = .returned (.int .i64 (24 - 8 * ((i : Int) % 4))) ∧ w = w' := by
  subst hx
  have h0 : (i : Int).tmod 4 = (i : Int) % 4 := Int.tmod_eq_emod_of_nonneg (by omega)
  have h1 : 0 ≤ (i : Int) % 4 ∧ (i : Int) % 4 < 4 := by omega
  have w1 : IntKind.i64.wrap (8 * ((i : Int) % 4)) = 8 * ((i : Int) % 4) := IntWalk.i64_in _ (by omega)
  have w2 : IntKind.i64.wrap (24 - 8 * ((i : Int) % 4)) = 24 - 8 * ((i : Int) % 4) := IntWalk.i64_in _ (by omega)
  have w0 : IntKind.i64.wrap ((i : Int) % 4) = (i : Int) % 4 := IntWalk.i64_in _ (by omega)
  generalize (i : Int) % 4 = r at *
  go_enter Tryd.func48, Tryd.ntmps48
  go_wp2_with fail
  go_ret
  exact ⟨rfl, rfl⟩
/-- The first so many bytes. -/
def byteTr (m : ByteArray) (n i : Nat) : Int := if i < n then byteOf m i else 0
/-- A word of them. -/
def wordTr (m : ByteArray) (n q : Nat) : Int := byteTr m n (4 * q) * 16777216 + byteTr m n (4 * q + 1) * 65536 + byteTr m n (4 * q + 2) * 256 + byteTr m n (4 * q + 3)
/-- The letter behind so many rounds. -/
def accL (m : ByteArray) (n j : Nat) : Int := match j with
  | 0 => m.size
  | q + 1 => wordTr m n q
theorem byteTr_rng (m : ByteArray) (n i : Nat) : 0 ≤ byteTr m n i ∧ byteTr m n i ≤ 255 := by
  unfold byteTr; split
  · exact byteOf_rng m i
  · omega
theorem accL_zero (m : ByteArray) (j : Nat) : accL m 0 j = if j = 0 then (m.size : Int) else 0 := by
  match j with
  | 0 => rfl
  | q + 1 => simp [accL, wordTr, byteTr]
theorem accL_end (m : ByteArray) (j : Nat) : accL m m.size j = letter m j := by
  have e : ∀ i, byteTr m m.size i = byteOf m i := fun i => by
    unfold byteTr; split
    · rfl
    · rw [byteOf_out (by omega)]
  match j with
  | 0 => rfl
  | q + 1 => simp only [accL, letter, wordTr, wordOf, e]
theorem or_add (X b : Nat) (s : Nat) (hb : b < 256) : X * 2 ^ (s + 8) ||| b * 2 ^ s = X * 2 ^ (s + 8) + b * 2 ^ s := by
  have h : b * 2 ^ s < 2 ^ (s + 8) := by
    rw [Nat.pow_add, Nat.mul_comm]
    exact Nat.mul_lt_mul_of_pos_left hb (Nat.two_pow_pos s)
  rw [Nat.mul_comm X, Nat.two_pow_add_eq_or_of_lt h]
/-- What is made of the word by the next byte. -/
theorem accL_step (m : ByteArray) (n : Nat) (j : Nat) : accL m (n + 1) j = if j = 1 + n / 4 then accL m n j + byteOf m n * (2 ^ (24 - 8 * (n % 4)) : Nat) else accL m n j := by
  match j with
  | 0 => rw [if_neg (by omega)]; rfl
  | q + 1 =>
    have e : ∀ i, i ≠ n → byteTr m (n + 1) i = byteTr m n i := fun i hi => by
      unfold byteTr
      by_cases h : i < n
      · rw [if_pos h, if_pos (by omega)]
      · rw [if_neg h, if_neg (by omega)]
    have e1 : byteTr m (n + 1) n = byteOf m n := by unfold byteTr; rw [if_pos (by omega)]
    have e0 : byteTr m n n = 0 := by unfold byteTr; rw [if_neg (by omega)]
    simp only [accL]
    unfold wordTr
    by_cases hq : q = n / 4
    · rw [if_pos (by omega)]
      have hr : n % 4 = 0 ∨ n % 4 = 1 ∨ n % 4 = 2 ∨ n % 4 = 3 := by omega
      rcases hr with h | h | h | h
      · have en : n = 4 * q := by omega
        rw [h, show ((2 ^ (24 - 8 * 0) : Nat) : Int) = 16777216 from rfl, e (4 * q + 1) (by omega), e (4 * q + 2) (by omega), e (4 * q + 3) (by omega)]
        rw [← en, e1, e0]; omega
      · have en : n = 4 * q + 1 := by omega
        rw [h, show ((2 ^ (24 - 8 * 1) : Nat) : Int) = 65536 from rfl, e (4 * q) (by omega), e (4 * q + 2) (by omega), e (4 * q + 3) (by omega)]
        rw [← en, e1, e0]; omega
      · have en : n = 4 * q + 2 := by omega
        rw [h, show ((2 ^ (24 - 8 * 2) : Nat) : Int) = 256 from rfl, e (4 * q) (by omega), e (4 * q + 1) (by omega), e (4 * q + 3) (by omega)]
        rw [← en, e1, e0]; omega
      · have en : n = 4 * q + 3 := by omega
        rw [h, show ((2 ^ (24 - 8 * 3) : Nat) : Int) = 1 from rfl, e (4 * q) (by omega), e (4 * q + 1) (by omega), e (4 * q + 2) (by omega)]
        rw [← en, e1, e0]; omega
    · rw [if_neg (by omega), e (4 * q) (by omega), e (4 * q + 1) (by omega), e (4 * q + 2) (by omega), e (4 * q + 3) (by omega)]
/-- The word ahead of it has nothing at and behind the byte. -/
theorem accL_low (m : ByteArray) (n : Nat) : ∃ X : Nat, accL m n (1 + n / 4) = ((X * 2 ^ (24 - 8 * (n % 4) + 8) : Nat) : Int) ∧ accL m n (1 + n / 4) < 4294967296 := by
  have e : ∀ i, n ≤ i → byteTr m n i = 0 := fun i hi => by unfold byteTr; rw [if_neg (by omega)]
  have e1 : 1 + n / 4 = n / 4 + 1 := by omega
  rw [e1]
  simp only [accL]
  unfold wordTr
  have hr : n % 4 = 0 ∨ n % 4 = 1 ∨ n % 4 = 2 ∨ n % 4 = 3 := by omega
  have b0 := byteTr_rng m n (4 * (n / 4))
  have b1 := byteTr_rng m n (4 * (n / 4) + 1)
  have b2 := byteTr_rng m n (4 * (n / 4) + 2)
  rcases hr with h | h | h | h
  · rw [e (4 * (n / 4)) (by omega), e (4 * (n / 4) + 1) (by omega), e (4 * (n / 4) + 2) (by omega), e (4 * (n / 4) + 3) (by omega)]
    exact ⟨0, by simp, by omega⟩
  · rw [e (4 * (n / 4) + 1) (by omega), e (4 * (n / 4) + 2) (by omega), e (4 * (n / 4) + 3) (by omega), h, show 2 ^ (24 - 8 * 1 + 8) = 16777216 from rfl]
    exact ⟨(byteTr m n (4 * (n / 4))).toNat, by omega, by omega⟩
  · rw [e (4 * (n / 4) + 2) (by omega), e (4 * (n / 4) + 3) (by omega), h, show 2 ^ (24 - 8 * 2 + 8) = 65536 from rfl]
    exact ⟨(byteTr m n (4 * (n / 4)) * 256 + byteTr m n (4 * (n / 4) + 1)).toNat, by omega, by omega⟩
  · rw [e (4 * (n / 4) + 3) (by omega), h, show 2 ^ (24 - 8 * 3 + 8) = 256 from rfl]
    exact ⟨(byteTr m n (4 * (n / 4)) * 65536 + byteTr m n (4 * (n / 4) + 1) * 256 + byteTr m n (4 * (n / 4) + 2)).toNat, by omega, by omega⟩
/-- A letter as a value. -/
def cells9 (f : Nat → Int) : List Value := (List.range 9).map fun i => Value.int .u32 (f i)
def letV (f : Nat → Int) : Value := .agg (cells9 f).toArray
theorem or_byte (m : ByteArray) (n : Nat) : bits .or .u32 (accL m n (1 + n / 4)) (byteOf m n * (2 ^ (24 - 8 * (n % 4)) : Nat)) = accL m n (1 + n / 4) + byteOf m n * (2 ^ (24 - 8 * (n % 4)) : Nat) := by
  obtain ⟨X, hX, hlt⟩ := accL_low m n
  have hb := byteOf_rng m n
  have hp : 2 ^ (24 - 8 * (n % 4)) ≤ 16777216 := by
    have : 2 ^ (24 - 8 * (n % 4)) ≤ 2 ^ 24 := Nat.pow_le_pow_right (by omega) (by omega)
    omega
  obtain ⟨b, hbn⟩ : ∃ b : Nat, byteOf m n = b := ⟨(byteOf m n).toNat, by omega⟩
  have hb2 : b < 256 := by omega
  rw [hX] at hlt ⊢
  rw [hbn, ← Int.natCast_mul]
  have hbb : b * 2 ^ (24 - 8 * (n % 4)) ≤ 255 * 16777216 := Nat.mul_le_mul (by omega) hp
  rw [u32_or_nat _ _ (by omega) (by omega), or_add X b _ hb2]
  omega
theorem cells9_len (f : Nat → Int) : (cells9 f).length = 9 := by simp [cells9]
theorem info71 : (Tryd.prog.info? 71).map (fun i => (i.zero, i.size)) = some (some (.agg (madeCells #[.int .u32 0] 9)), 9) := by kernel_rfl
theorem size71 : (Tryd.prog.info? 71).map (·.size) = some 9 := by kernel_rfl
theorem u71 : Tryd.prog.underlying 71 = some (.array 9 40) := by kernel_rfl
theorem range9 {w : World} {b o : Nat} {f : Nat → Int} (h : ∀ j, j < 9 → w.cell? ⟨b, o + j, none⟩ = some (.int .u32 (f j))) : w.rangeAt b o (cells9 f) := fun j v hv => by
  have hj : j < 9 := by
    rcases Nat.lt_or_ge j 9 with h | h
    · exact h
    · rw [List.getElem?_eq_none (by rw [cells9_len]; omega)] at hv; cases hv
  simp only [cells9, List.getElem?_map, List.getElem?_range hj, Option.map_some, Option.some.injEq] at hv
  subst hv
  exact h j hj
theorem res30 {a : Act} {W : World} {H : Nat} {f : Nat → Int} (ht : a.tmps.getD 2 undef = .pointer (some ⟨H, 0, none⟩)) (hr : W.rangeAt H 0 (cells9 f)) : (results Tryd.f30 a.tmps).run Tryd.prog W = .ok (letV f) W := by
  have h1 := run_loadVar_mid (P := Tryd.prog) W H 0 71 (cells9 f) (.array 9 40) hr u71 rfl (by rw [cells9_len]; exact size71)
  simp only [results, Tryd.results30]
  have ht' : a.tmps[2]?.getD undef = .pointer (some ⟨H, 0, none⟩) := by rw [← ht]; simp
  simp [ht', asAddr, h1, letV]
theorem rowIs_drew {w : World} {b t n : Nat} {f : Nat → Value} (h : w.rowIs b t n f) : w.drew.rowIs b t n f := h
theorem lit9 (a : Int) (i : Nat) (h : i < 9) : (#[Value.int .u32 a, .int .u32 0, .int .u32 0, .int .u32 0, .int .u32 0, .int .u32 0, .int .u32 0, .int .u32 0, .int .u32 0] : Array Value)[i]? = some (.int .u32 (if i = 0 then a else 0)) := by
  match i, h with
  | 0, _ => rfl
  | 1, _ => rfl
  | 2, _ => rfl
  | 3, _ => rfl
  | 4, _ => rfl
  | 5, _ => rfl
  | 6, _ => rfl
  | 7, _ => rfl
  | 8, _ => rfl
theorem row9 (w : World) (a : Int) : (w.alloc (.cells #[.int .u32 a, .int .u32 0, .int .u32 0, .int .u32 0, .int .u32 0, .int .u32 0, .int .u32 0, .int .u32 0, .int .u32 0] 71)).rowIs w.heap.size 71 9 (fun j => .int .u32 (if j = 0 then a else 0)) :=
  ⟨_, heap_alloc_new _ _, rfl, fun i hi => lit9 a i hi⟩
theorem below_cells {n g : Nat} {w : World} (hn : n ≤ g) : ∀ (l : List (Nat × Value)) {w0 : World}, Below n w0 w → Below n w0 (l.foldl (fun x p => x.setCell ⟨g, p.1, none⟩ p.2) w)
  | [], _, h => h
  | p :: l, _, h => below_cells (w := w.setCell ⟨g, p.1, none⟩ p.2) hn l (h.setCell (p := ⟨g, p.1, none⟩) hn _)
set_option maxHeartbeats 4000000 in
set_option maxRecDepth 100000 in
theorem pack_any (m : ByteArray) (w : World) (h1 : 1 ≤ m.size) (h32 : m.size ≤ 32) : Calls Tryd.prog 30 #[.string m] w fun e w' => e = .returned (letV (letter m)) ∧ Below w.heap.size w w' := by
  have hw0 : IntKind.u32.wrap (m.size : Int) = m.size := by rw [IntKind.wrap_u32']; omega
  have HSH := Lib.hid (fun (i : Nat) W (hi : i < 1000000) => shift_any i i rfl W hi)
  go_enter Tryd.func30, Tryd.ntmps30
  go_wp2_with fail
  go_loopw [4, 11] (fun x i wr => ∃ k : Nat, k ≤ m.size ∧ i = .int .i64 k ∧ wr.rowIs (w.heap.size + 1) 71 9 (fun j => .int .u32 (accL m k j)) ∧ wr.rowIs w.heap.size 71 9 (fun _ => .int .u32 0) ∧ Below w.heap.size w wr) (fun _ i _ => m.size - (intOf i).toNat)
  case atStart =>
    have ha : Below w.heap.size w (w.alloc (.cells #[.int .u32 0, .int .u32 0, .int .u32 0, .int .u32 0, .int .u32 0, .int .u32 0, .int .u32 0, .int .u32 0, .int .u32 0] 71)) := (Below.refl _ _).alloc (Nat.le_refl _) _
    refine ⟨0, Nat.zero_le _, rfl, ?_, ?_, ha.alloc ha.size _⟩
    · have := row9 (w.alloc (.cells #[.int .u32 0, .int .u32 0, .int .u32 0, .int .u32 0, .int .u32 0, .int .u32 0, .int .u32 0, .int .u32 0, .int .u32 0] 71)) m.size
      rw [show (w.alloc (.cells #[.int .u32 0, .int .u32 0, .int .u32 0, .int .u32 0, .int .u32 0, .int .u32 0, .int .u32 0, .int .u32 0, .int .u32 0] 71)).heap.size = w.heap.size + 1 by simp] at this
      exact this.congr fun j _ => by rw [accL_zero]
    · exact ((row9 w 0).alloc _).congr fun j _ => by simp
  case round =>
    obtain ⟨k, hk, rfl, hr, hr2, hB⟩ := hrel
    have HR := Lib.hid hr
    have HR2 := Lib.hid hr2
    have HB := Lib.hid hB
    by_cases hlt : k < m.size
    · obtain ⟨q, hq⟩ : ∃ q, q = k / 4 := ⟨_, rfl⟩
      obtain ⟨sh, hsh⟩ : ∃ sh : Int, sh = 24 - 8 * ((k : Int) % 4) := ⟨_, rfl⟩
      obtain ⟨x, hx⟩ : ∃ x, x = accL m k (1 + q) := ⟨_, rfl⟩
      obtain ⟨y, hy⟩ : ∃ y : Int, y = (2 ^ (24 - 8 * (k % 4)) : Nat) := ⟨_, rfl⟩
      have c0 := hr.cell (i := 1 + q) (by omega)
      have z0 := hr.frozen (1 + q)
      have hd : IntKind.i64.wrap ((k : Int) / 4) = (q : Int) := by rw [IntWalk.i64_in _ (by omega)]; omega
      have hb0 := byteOf_rng m k
      have hat := byteOf_at hlt
      have hor := or_byte m k
      have hpw : (2 : Int) ^ min sh.toNat 32 = y := by
        rw [hy, hsh, show min (24 - 8 * ((k : Int) % 4)).toNat 32 = 24 - 8 * (k % 4) by omega]; simp
      have hy1 : y ≤ 16777216 := by
        have : 2 ^ (24 - 8 * (k % 4)) ≤ 2 ^ 24 := Nat.pow_le_pow_right (by omega) (by omega)
        omega
      have hy0 : 0 ≤ y := by rw [hy]; exact Int.natCast_nonneg _
      rw [← hy, ← hq, ← hx] at hor
      rw [← hx] at c0
      have HST := Lib.hid (fun j => accL_step m k j)
      rw [← hy, ← hq] at HST
      have hprod : 0 ≤ byteOf m k * y ∧ byteOf m k * y ≤ 255 * 16777216 := ⟨Int.mul_nonneg (by omega) hy0, Int.mul_le_mul (by omega) hy1 hy0 (by omega)⟩
      have hwr : IntKind.u32.wrap (byteOf m k * y) = byteOf m k * y := by rw [IntKind.wrap_u32']; omega
      have hwb : IntKind.u32.wrap (byteOf m k) = byteOf m k := by rw [IntKind.wrap_u32']; omega
      have hi0 : (0 : Int) ≤ 1 + (q : Int) := by omega
      have hi1 : 1 + (q : Int) < 9 := by omega
      have hi2 : (1 + (q : Int)).toNat = 1 + q := by omega
      have hi3 : IntKind.i64.wrap (1 + (q : Int)) = 1 + (q : Int) := IntWalk.i64_in _ (by omega)
      have hk0 : (0 : Int) ≤ sh := by omega
      have HSH := Lib.hid (fun W => HSH.out k W (by omega))
      rw [← hsh] at HSH
      have HQ := Lib.hid (And.intro hq hx)
      clear hq hsh hx hy hprod hy1
      clear hr hr2 hB
      go_wp2_with fail
      go_region_law ((go_simp; refine (HSH.out _).mono ?_; rintro e w3 ⟨rfl, rfl⟩))
      all_goals
        go_wp2_with fail
        go_roundw
        case rel =>
          refine ⟨k + 1, by omega, by go_num, rowIs_drew ?_, rowIs_drew (HR2.out.setOther (by simp) _), ?_⟩
          · refine (HR.out.set (1 + q) _).congr fun j _ => ?_
            rw [HST.out j]
            by_cases e : j = 1 + q
            · rw [if_pos e, if_pos e, e, HQ.out.2]
            · rw [if_neg e, if_neg e]
          · exact (HB.out.setCell (p := ⟨w.heap.size + 1, 1 + q, none⟩) (by simp) _).drew
        case measure => simp [intOf]; omega
    · obtain rfl : k = m.size := by omega
      have q0 := hr.cell (i := 0) (by omega)
      have q1 := hr.cell (i := 1) (by omega)
      have q2 := hr.cell (i := 2) (by omega)
      have q3 := hr.cell (i := 3) (by omega)
      have q4 := hr.cell (i := 4) (by omega)
      have q5 := hr.cell (i := 5) (by omega)
      have q6 := hr.cell (i := 6) (by omega)
      have q7 := hr.cell (i := 7) (by omega)
      have q8 := hr.cell (i := 8) (by omega)
      have p0 := hr2.cell (i := 0) (by omega)
      have p1 := hr2.cell (i := 1) (by omega)
      have p2 := hr2.cell (i := 2) (by omega)
      have p3 := hr2.cell (i := 3) (by omega)
      have p4 := hr2.cell (i := 4) (by omega)
      have p5 := hr2.cell (i := 5) (by omega)
      have p6 := hr2.cell (i := 6) (by omega)
      have p7 := hr2.cell (i := 7) (by omega)
      have p8 := hr2.cell (i := 8) (by omega)
      have hz : ∀ j, wr.frozen? ⟨w.heap.size, j, none⟩ = false := fun j => hr2.frozen j
      clear hr hr2 hB
      go_wp2_with fail
      have hrow := ((((((((((HR2.out.set 0 (.int .u32 (accL m m.size 0))).set 1 (.int .u32 (accL m m.size 1))).set 2 (.int .u32 (accL m m.size 2))).set 3 (.int .u32 (accL m m.size 3))).set 4 (.int .u32 (accL m m.size 4))).set 5 (.int .u32 (accL m m.size 5))).set 6 (.int .u32 (accL m m.size 6))).set 7 (.int .u32 (accL m m.size 7))).set 8 (.int .u32 (accL m m.size 8)))).congr (g := fun j => .int .u32 (letter m j)) fun j hj => by
        rw [← accL_end]
        match j, hj with
        | 0, _ => rfl
        | 1, _ => rfl
        | 2, _ => rfl
        | 3, _ => rfl
        | 4, _ => rfl
        | 5, _ => rfl
        | 6, _ => rfl
        | 7, _ => rfl
        | 8, _ => rfl
      refine ⟨rfl, letV (letter m), res30 rfl (range9 fun j hj => by rw [Nat.zero_add]; exact hrow.cell hj), rfl, ?_⟩
      exact ((((((((HB.out.setCell (p := ⟨_, 0, none⟩) (Nat.le_refl _) _).setCell (p := ⟨_, 1, none⟩) (Nat.le_refl _) _).setCell (p := ⟨_, 2, none⟩) (Nat.le_refl _) _).setCell (p := ⟨_, 3, none⟩) (Nat.le_refl _) _).setCell (p := ⟨_, 4, none⟩) (Nat.le_refl _) _).setCell (p := ⟨_, 5, none⟩) (Nat.le_refl _) _).setCell (p := ⟨_, 6, none⟩) (Nat.le_refl _) _).setCell (p := ⟨_, 7, none⟩) (Nat.le_refl _) _).setCell (p := ⟨_, 8, none⟩) (Nat.le_refl _) _
end Go.Proofs.YtnmobalgghggnaaDoor
