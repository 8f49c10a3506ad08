/-
  A letter's text.
-/
import Derived.Test.YtnmobalgghggnaaDoorPack
namespace Go.Proofs.YtnmobalgghggnaaDoor
open Go.RowKit

theorem info5 : (Tryd.prog.info? 5).map (fun i => (i.zero, i.size, i.bytes)) = some (some (.int .u8 0), 1, 1) := by kernel_rfl
theorem textOf_at {f : Nat → Int} {i : Nat} (h : i < (textOf f).size) : (((textOf f)[i]).toNat : Int) = byteAt f i := by
  rw [byteOf_at h]
  unfold byteOf
  have hi : i < (f 0).toNat := by rw [textOf_size] at h; exact h
  have hb := byteAt_rng f i
  have e : (textOf f).data.toList = (List.range (f 0).toNat).map fun i => UInt8.ofNat (byteAt f i).toNat := rfl
  rw [e, List.getD_eq_getElem?_getD, List.getElem?_map, List.getElem?_range hi]
  simp only [Option.map_some, Option.getD_some, UInt8.toNat_ofNat']
  omega
/-- A letter that lies at an offset of a block. -/
def LetAt (w : World) (B o : Nat) (f : Nat → Int) : Prop := ∀ j, j < 9 → w.cell? ⟨B, o + j, none⟩ = some (.int .u32 (f j))
theorem LetAt.keep {w w' : World} {B o : Nat} {f : Nat → Int} (h : LetAt w B o f) (hB : Below w.heap.size w w') : LetAt w' B o f := fun j hj => kept (h j hj) hB
set_option maxHeartbeats 4000000 in
set_option maxRecDepth 100000 in
theorem text_any (B o : Nat) (f : Nat → Int) (n : Nat) (w : World) (hL : LetAt w B o f) (h0 : f 0 = n) (h1 : 1 ≤ n) (h32 : n ≤ 32) (hu : ∀ j, 0 ≤ f j ∧ f j < 4294967296) :
    Calls Tryd.prog 70 #[.pointer (some ⟨B, o, none⟩)] w fun e w' => e = .returned (.string (textOf f)) ∧ Below w.heap.size w w' := by
  have hmk := fun W => run_make_row' (P := Tryd.prog) 41 5 (.int .u8 0) 1 Tryd.underlying41 info5 rfl .u32 .u32 n (by omega) (by omega) W
  have k0 := hL 0 (by omega)
  rw [h0, Nat.add_zero] at k0
  have HL := Lib.hid hL
  have HU := Lib.hid hu
  have H0 := Lib.hid h0
  have HSH0 := Lib.hid (fun (i : Nat) W (hi : i < 1000000) => shift_any i i rfl W hi)
  have hlt0 : B < w.heap.size := cell_lt k0
  clear hL hu h0
  go_enter Tryd.func70, Tryd.ntmps70
  go_wp2_with fail
  go_loopw [4, 12] (fun x i wr => ∃ k : Nat, k ≤ n ∧ i = .int .i64 k ∧ wr.rowIs w.heap.size 5 n (fun j => .int .u8 (if j < k then byteAt f j else 0)) ∧ Below w.heap.size w wr) (fun _ i _ => n - (intOf i).toNat)
  case atStart =>
    refine ⟨0, Nat.zero_le _, rfl, ?_, (Below.refl _ _).alloc (Nat.le_refl _) _⟩
    exact (World.rowIs_made w (.int .u8 0) n 5).congr fun j _ => by simp
  case round =>
    obtain ⟨k, hk, rfl, hr, hB⟩ := hrel
    have HR := Lib.hid hr
    have HB := Lib.hid hB
    by_cases hlt : k < n
    · obtain ⟨q, hq⟩ : ∃ q, q = k / 4 := ⟨_, rfl⟩
      obtain ⟨sh, hsh⟩ : ∃ sh : Int, sh = 24 - 8 * ((k : Int) % 4) := ⟨_, rfl⟩
      obtain ⟨x, hx⟩ : ∃ x, x = f (1 + q) := ⟨_, rfl⟩
      obtain ⟨y, hy⟩ : ∃ y : Int, y = x / (2 ^ (24 - 8 * (k % 4)) : Nat) := ⟨_, rfl⟩
      have c0 := kept (HL.out (1 + q) (by omega)) hB
      rw [← hx] at c0
      have d0 := hr.cell hlt
      have z0 := hr.frozen k
      have hd : IntKind.i64.wrap ((k : Int) / 4) = (q : Int) := by rw [IntWalk.i64_in _ (by omega)]; omega
      have hpw : x / (2 : Int) ^ min sh.toNat 32 = y := by
        rw [hy, hsh, show min (24 - 8 * ((k : Int) % 4)).toNat 32 = 24 - 8 * (k % 4) by omega]; simp
      have hxr := HU.out (1 + q)
      rw [← hx] at hxr
      have hy0 : y % 256 = byteAt f k := by rw [hy, hx, hq]; rfl
      have hwb : IntKind.u8.wrap y = byteAt f k := by rw [IntKind.wrap_u8', hy0]
      have hi0 : (0 : Int) ≤ 1 + (q : Int) := by omega
      have hi1 : 1 + (q : Int) < 9 := by omega
      have hi2 : (1 + (q : Int)).toNat = 1 + q := by omega
      have hi3 : IntKind.i64.wrap (1 + (q : Int)) = 1 + (q : Int) := IntWalk.i64_in _ (by omega)
      have hk0 : (0 : Int) ≤ sh := by omega
      have hkn : (k : Int) < n := by omega
      have HSH := Lib.hid (fun W => HSH0.out k W (by omega))
      rw [← hsh] at HSH
      clear hq hsh hx hy hy0 hr hB hxr
      go_wp2_with fail
      go_region_law ((go_simp; refine (HSH.out _).mono ?_; rintro e w3 ⟨rfl, rfl⟩))
      all_goals
        go_wp2_with fail
        go_roundw
        case rel =>
          refine ⟨k + 1, by omega, by go_num, rowIs_drew ?_, (HB.out.setCell (p := ⟨w.heap.size, k, none⟩) (Nat.le_refl _) _).drew⟩
          refine (HR.out.set k _).congr fun j _ => ?_
          by_cases e : j = k
          · subst e; rw [if_pos rfl, if_pos (by omega)]
          · rw [if_neg e]
            by_cases e2 : j < k
            · rw [if_pos e2, if_pos (by omega)]
            · rw [if_neg e2, if_neg (by omega)]
        case measure => simp [intOf]; omega
    · obtain rfl : k = n := by omega
      have hs : (textOf f).size = k := by rw [textOf_size, H0.out]; omega
      have hby : Lib.Bytes wr w.heap.size 0 (textOf f) := fun i hi => by
        rw [Nat.zero_add, hr.cell (by omega), textOf_at hi, if_pos (by omega)]
      have hcv := Lib.run_convert_whole (P := Tryd.prog) wr 41 5 9 Tryd.underlying41 Tryd.underlying5 Tryd.underlying9 w.heap.size 0 (textOf f) hby k
      rw [hs] at hcv
      clear hr hB
      go_wp2_with fail
      go_ret
      exact ⟨rfl, HB.out⟩
end Go.Proofs.YtnmobalgghggnaaDoor
