/-
  Two lays some bytes, and two more, in memory of its own: by slices.Concat, slices.Grow and two appends.
-/
import Derived.Test.YtkgkjkghdllkhaaDoorClone
import Derived.Lib.AppendZerosOnto
import Derived.Laws.AppendOwnNone
import Derived.Lib.SliceRun
namespace Go.Proofs.YtkgkjkghdllkhaaDoor
open Go.RowKit

set_option maxHeartbeats 1000000 in
set_option maxRecDepth 100000 in
theorem grow_nil (n : Nat) (w : World) (h0 : 0 < n) (hn : n ≤ 100000) :
    Calls Tryd.prog 89 #[.slice none 0 0, .int .i64 n] w fun e w' => e = .returned (.slice (some ⟨w.heap.size, 0, none⟩) 0 (grownCap w n 0 5)) ∧
      ∃ cur : Array Value, w' = w.drew.alloc (.cells cur 5) ∧ cur.size = grownCap w n 0 5 := by
  obtain ⟨i0, hi, hz0, hz1, hz2⟩ := info_parts info5
  have hold : (Builtin.firstCells i0.size 0 (.slice none 0 0)).run Tryd.prog w.drew = .ok ([] : List Value).toArray w.drew := run_firstCells_none w.drew i0.size 0 0 0
  have hfit : Builtin.nextslicecap (0 + n) 0 * i0.bytes ≤ 281474976710656 := growslice_fits (by omega) (by rw [hz2]; omega)
  have hG : n ≤ grownCap w n 0 5 := grownCap_ge w _ _ _
  have hrz : ∀ ty, (Builtin.append_ #[31, 3] ty #[.slice none 0 0, .int .i64 (n : Int)]).run Tryd.prog w =
      .ok (.slice (some ⟨w.heap.size, 0, none⟩) n (grownCap w n 0 5)) (w.drew.alloc (.cells (#[] ++ Builtin.zeroCells (Value.int .u8 0).cells n ++ Builtin.zeroCells (Value.int .u8 0).cells (grownCap w n 0 5 - n)) 5)) := fun ty => by
    have h := Lib.run_append_grow_zeros w 31 3 ty 5 i0 (.int .u8 0) .i64 .i64 Tryd.underlying31 Tryd.underlying3 hi hz0 none 0 0 [] hold n (by omega) (by omega) (by omega) (by omega) (by rw [hz2]; omega) hfit
    simp only [Nat.zero_add] at h
    exact h
  obtain ⟨cur, hcur⟩ : ∃ cur, cur = (#[] ++ Builtin.zeroCells (Value.int .u8 0).cells n ++ Builtin.zeroCells (Value.int .u8 0).cells (grownCap w n 0 5 - n)) := ⟨_, rfl⟩
  have hsz : cur.size = grownCap w n 0 5 := by
    rw [hcur]
    simp [size_zeroCells, Value.cells]
    omega
  rw [← hcur] at hrz
  clear hcur hold hfit
  have hG63 : grownCap w n 0 5 ≤ 9223372036854775807 := by
    have := grownCap_le_maxLen w n 0 5 (by unfold maxLen; omega)
    unfold maxLen at this
    omega
  generalize grownCap w n 0 5 = G at *
  have HS := Lib.hid hsz
  clear hsz
  go_enter Tryd.func89, Tryd.ntmps89
  go_wp2_with (at_builtin; refine Lib.wpList_append_run _ rfl _ _ _ _ rfl _ _ rfl rfl _ _ (hrz _) ?_)
  all_goals (go_ret; exact ⟨rfl, _, rfl, HS.out⟩)

theorem At.grown {w w' : World} {A : Addr} {t : ByteArray} {row : Option Nat} (h : At w A t) (hg : w.grownBy w' row) (hne : some A.block ≠ row) : At w' A t := fun i hi => by
  have e : (A.add i).block = A.block := by unfold Addr.add; split <;> rfl
  exact hg.cell (h i hi) (by rw [e]; exact hne)

theorem grow_own (n : Nat) (w : World) (h0 : 0 < n) (hn : n ≤ 100000) :
    Calls Tryd.prog 89 #[.slice none 0 0, .int .i64 n] w fun e w' => ∃ v, e = .returned v ∧ w'.ownsRow w.heap.size 5 1 v 0 [] ∧ v ≠ .slice none 0 0 ∧ Below w.heap.size w w' :=
  (grow_nil n w h0 hn).mono fun _ _ ⟨he, cur, hw, hc⟩ => by
    subst hw
    refine ⟨_, he, World.ownsRow_made w.drew cur _ (Nat.le_refl _) ?_ (by rw [hc]; omega), by simp, ((Below.refl _ _).drew).alloc (Nat.le_refl _) _⟩
    exact grownCap_le_maxLen w n 0 5 (by unfold maxLen; omega)

set_option maxHeartbeats 2000000 in
set_option maxRecDepth 100000 in
theorem concat_some (h c : Nat) (A P : Addr) (t u : ByteArray) (c1 c2 : Nat) (w : World) (ht : At w A t) (hu : At w P u) (hn : t.size ≤ 90000) (hu2 : 0 < u.size) (hu3 : u.size ≤ 100)
    (h0 : w.cell? ⟨h, 0, none⟩ = some (.slice (some A) t.size c1)) (h1 : w.cell? ⟨h, 1, none⟩ = some (.slice (some P) u.size c2)) :
    Calls Tryd.prog 74 #[.slice (some ⟨h, 0, none⟩) 2 c] w fun e w' => ∃ v, e = .returned v ∧ w'.ownsRow w.heap.size 5 1 v (t.size + u.size) (cellsOf t ++ cellsOf u) ∧ v ≠ .slice none 0 0 ∧ Below w.heap.size w w' := by
  obtain ⟨i0, hi, hz0, hz1, hz2⟩ := info_parts info5
  have HT := Lib.hid ht
  have HU := Lib.hid hu
  clear ht hu
  have hlt := cell_lt' h0
  have HP : Hid (P.block < w.heap.size) := by
    have h2 := cell_lt' (HU.out 0 hu2)
    have e : (P.add 0).block = P.block := by unfold Addr.add; split <;> rfl
    rwa [e] at h2
  have hp1 : 0 ≤ (t.size : Int) := by omega
  have hp2 : 0 ≤ (t.size : Int) + u.size := by omega
  have GN := fun W => Lib.hid (grow_own (t.size + u.size) W (by omega) (by omega))
  simp only [Int.natCast_add] at GN
  go_enter Tryd.func74, Tryd.ntmps74
  go_wp2
  refine wp_loop_rounds 3 ?_
  rw [rounds_succ]
  go_wp2
  rw [rounds_succ]
  go_wp2
  rw [rounds_succ]
  go_wp2_with fail
  refine (GN _).out.mono ?_
  rintro e w1 ⟨v, rfl, hown, hv, hB⟩
  have k0 : w1.cell? ⟨h, 0, none⟩ = some (.slice (some A) t.size c1) := (hB.cell (p := ⟨h, 0, none⟩) hlt).trans h0
  have k1 : w1.cell? ⟨h, 1, none⟩ = some (.slice (some P) u.size c2) := (hB.cell (p := ⟨h, 1, none⟩) hlt).trans h1
  have HT1 := Lib.hid (HT.out.keep hB)
  have HU1 := Lib.hid (HU.out.keep hB)
  have HB := Lib.hid hB
  have HV := Lib.hid hv
  have hs1 := hB.size
  clear h0 h1 hB hv GN
  go_wp2_with fail
  refine wp_loop_rounds 3 ?_
  rw [rounds_succ]
  go_wp2_with (at_builtin; refine wpList_append_own _ rfl _ _ 31 rfl w.heap.size 5 i0 (.int .u8 0) 1 1 Tryd.underlying31 hi hz0 hz1 hz2 rfl (by decide) v 0 [] rfl hown A t.size c1 (cellsOf t) rfl ?c0 ?c1 ?c2 ?c3 ?c4 ?c5 ?_)
  case c0 => rw [cellsOf_length]; omega
  case c1 => exact HT1.out.cells
  case c2 => exact cellsOf_one t
  case c3 => unfold maxLen; omega
  case c4 => omega
  case c5 => exact hs1
  intro v2 w2 hown2 hg2 hnil2
  have hown2' : w2.ownsRow w.heap.size 5 1 v2 t.size (cellsOf t) := by simpa using hown2
  have hlo : ∀ k, v.ownBlock = some k → w.heap.size ≤ k := fun k hk => (World.ownsRow.lt hown k hk).1
  have k1' : w2.cell? ⟨h, 1, none⟩ = some (.slice (some P) u.size c2) := hg2.cell k1 (fun e => by have := hlo _ e.symm; simp at this; omega)
  have HU2 := Lib.hid (HU1.out.grown hg2 (fun e => by have := hlo _ e.symm; have := HP.out; omega))
  have HB2 := Lib.hid (HB.out.grown hg2 hs1 hlo)
  have HV2 : Hid (v2 ≠ .slice none 0 0) := by first | exact hnil2 | exact fun e => HV.out (hnil2.1 e).1
  have hs2 := HB2.out.size
  clear hown2 hown hlo hg2 hnil2 k0 k1
  go_wp2_with fail
  rw [rounds_succ]
  go_wp2_with (at_builtin; refine wpList_append_own _ rfl _ _ 31 rfl w.heap.size 5 i0 (.int .u8 0) 1 1 Tryd.underlying31 hi hz0 hz1 hz2 rfl (by decide) v2 t.size (cellsOf t) rfl hown2' P u.size c2 (cellsOf u) rfl ?d0 ?d1 ?d2 ?d3 ?d4 ?d5 ?_)
  case d0 => rw [cellsOf_length]; omega
  case d1 => exact HU2.out.cells
  case d2 => exact cellsOf_one u
  case d3 => unfold maxLen; omega
  case d4 => omega
  case d5 => exact hs2
  intro v3 w3 hown3 hg3 hnil3
  have HO3 : Hid (w3.ownsRow w.heap.size 5 1 v3 (t.size + u.size) (cellsOf t ++ cellsOf u)) := hown3
  have HB3 := Lib.hid (HB2.out.grown hg3 hs2 (fun k hk => (World.ownsRow.lt hown2' k hk).1))
  have HV3 : Hid (v3 ≠ .slice none 0 0) := by first | exact hnil3 | exact fun e => HV2.out (hnil3.1 e).1
  clear hown3 hg3 hnil3 hown2'
  go_wp2_with fail
  rw [rounds_succ]
  go_wp2_with fail
  go_ret
  exact ⟨_, rfl, HO3.out, HV3.out, HB3.out⟩
set_option maxHeartbeats 2000000 in
set_option maxRecDepth 100000 in
theorem concat_nil (h c : Nat) (P : Addr) (u : ByteArray) (c2 : Nat) (w : World) (hu : At w P u) (hu2 : 0 < u.size) (hu3 : u.size ≤ 100)
    (h0 : w.cell? ⟨h, 0, none⟩ = some (.slice none 0 0)) (h1 : w.cell? ⟨h, 1, none⟩ = some (.slice (some P) u.size c2)) :
    Calls Tryd.prog 74 #[.slice (some ⟨h, 0, none⟩) 2 c] w fun e w' => ∃ v, e = .returned v ∧ w'.ownsRow w.heap.size 5 1 v u.size (cellsOf u) ∧ v ≠ .slice none 0 0 ∧ Below w.heap.size w w' := by
  obtain ⟨i0, hi, hz0, hz1, hz2⟩ := info_parts info5
  have HU := Lib.hid hu
  clear hu
  have hlt := cell_lt' h0
  have HP : Hid (P.block < w.heap.size) := by
    have h2 := cell_lt' (HU.out 0 hu2)
    have e : (P.add 0).block = P.block := by unfold Addr.add; split <;> rfl
    rwa [e] at h2
  have hp2 : 0 ≤ (u.size : Int) := by omega
  have GN := fun W => Lib.hid (grow_own u.size W (by omega) (by omega))
  go_enter Tryd.func74, Tryd.ntmps74
  go_wp2
  refine wp_loop_rounds 3 ?_
  rw [rounds_succ]
  go_wp2
  rw [rounds_succ]
  go_wp2
  rw [rounds_succ]
  go_wp2_with fail
  refine (GN _).out.mono ?_
  rintro e w1 ⟨v, rfl, hown, hv, hB⟩
  have k0 : w1.cell? ⟨h, 0, none⟩ = some (.slice none 0 0) := (hB.cell (p := ⟨h, 0, none⟩) hlt).trans h0
  have k1 : w1.cell? ⟨h, 1, none⟩ = some (.slice (some P) u.size c2) := (hB.cell (p := ⟨h, 1, none⟩) hlt).trans h1
  have HU1 := Lib.hid (HU.out.keep hB)
  have HB := Lib.hid hB
  have HV := Lib.hid hv
  have hs1 := hB.size
  clear h0 h1 hB hv GN
  go_wp2_with fail
  refine wp_loop_rounds 3 ?_
  rw [rounds_succ]
  go_wp2_with (at_builtin; refine wpList_append_own_none rfl _ _ 31 rfl w.heap.size 5 i0 1 Tryd.underlying31 hi v 0 [] rfl hown rfl ?_)
  have HU2 := HU1
  have HB2 := HB
  have HV2 := HV
  have hs2 := hs1
  clear k0
  go_wp2_with fail
  rw [rounds_succ]
  go_wp2_with (at_builtin; refine wpList_append_own _ rfl _ _ 31 rfl w.heap.size 5 i0 (.int .u8 0) 1 1 Tryd.underlying31 hi hz0 hz1 hz2 rfl (by decide) v 0 [] rfl hown P u.size c2 (cellsOf u) rfl ?d0 ?d1 ?d2 ?d3 ?d4 ?d5 ?_)
  case d0 => rw [cellsOf_length]; omega
  case d1 => exact HU2.out.cells
  case d2 => exact cellsOf_one u
  case d3 => unfold maxLen; omega
  case d4 => omega
  case d5 => exact hs2
  intro v3 w3 hown3 hg3 hnil3
  have HO3 : Hid (w3.ownsRow w.heap.size 5 1 v3 u.size (cellsOf u)) := by
    show w3.ownsRow _ _ _ _ _ _
    simpa using hown3
  have HB3 := Lib.hid (HB2.out.grown hg3 hs2 (fun k hk => (World.ownsRow.lt hown k hk).1))
  have HV3 : Hid (v3 ≠ .slice none 0 0) := by first | exact hnil3 | exact fun e => HV2.out (hnil3.1 e).1
  clear hown3 hg3 hnil3 hown
  go_wp2_with fail
  rw [rounds_succ]
  go_wp2_with fail
  go_ret
  exact ⟨_, rfl, HO3.out, HV3.out, HB3.out⟩

/-- The two bytes of a number. -/
def twoB (n : Int) : ByteArray := ⟨#[UInt8.ofNat (n / 256).toNat, UInt8.ofNat (n % 256).toNat]⟩
theorem twoB_size (n : Int) : (twoB n).size = 2 := rfl
theorem twoB_cells {n : Int} (h0 : 0 ≤ n) (h1 : n < 65536) : cellsOf (twoB n) = [.int .u8 (n / 256), .int .u8 (n % 256)] := by
  have a : ((n / 256).toNat % 256 : Nat) = (n / 256).toNat := Nat.mod_eq_of_lt (by omega)
  have b : ((n % 256).toNat % 256 : Nat) = (n % 256).toNat := Nat.mod_eq_of_lt (by omega)
  simp [cellsOf, twoB, a, b]
  omega
theorem At.of_cells {w : World} {A : Addr} {t : ByteArray} (h : ∀ j, j < t.size → w.cell? (A.add j) = (cellsOf t)[j]?) : At w A t := fun i hi => by
  rw [h i hi, cellsOf_at t i hi]
theorem two_at (w : World) {n : Int} (h0 : 0 ≤ n) (h1 : n < 65536) (o : Obj) :
    At ((w.alloc (.cells #[.int .u8 (n / 256), .int .u8 (n % 256)] 5)).alloc o) ⟨w.heap.size, 0, none⟩ (twoB n) := by
  refine At.of_cells fun j hj => ?_
  rw [twoB_cells h0 h1, add_lit, World.cell?_alloc_lt _ _ ⟨w.heap.size, 0 + j, none⟩ (by simp), World.cell?_alloc_at _ _ _ _ rfl]
  match j, hj with
  | 0, _ => rfl
  | 1, _ => rfl

set_option maxHeartbeats 1000000 in
theorem two_any (A : Addr) (c : Nat) (t : ByteArray) (n : Int) (w : World) (ht : At w A t) (hn : t.size ≤ 90000) (h0 : 0 ≤ n) (h1 : n < 65536) :
    Calls Tryd.prog 50 #[.slice (some A) t.size c, .int .u16 n] w fun e w' => ∃ v, e = .returned v ∧ w'.ownsRow w.heap.size 5 1 v (t.size + 2) (cellsOf t ++ [.int .u8 (n / 256), .int .u8 (n % 256)]) ∧ v ≠ .slice none 0 0 ∧ Below w.heap.size w w' := by
  have hB : Below w.heap.size w ((w.alloc (.cells #[.int .u8 (n / 256), .int .u8 (n % 256)] 5)).alloc (.cells #[.slice (some A) t.size c, .slice (some ⟨w.heap.size, 0, none⟩) 2 2] 31)) := ((Below.refl _ _).alloc (Nat.le_refl _) _).alloc (by simp) _
  have HC := Lib.hid (concat_some (w.heap.size + 1) 2 A ⟨w.heap.size, 0, none⟩ t (twoB n) c 2 _ (ht.keep hB) (two_at w h0 h1 _) hn (by rw [twoB_size]; omega) (by rw [twoB_size]; omega) (by simp) (by simp [twoB_size]))
  rw [twoB_cells h0 h1, twoB_size] at HC
  have HB := Lib.hid hB
  clear hB ht
  go_enter Tryd.func50, Tryd.ntmps50
  go_wp2_with fail
  refine HC.out.mono ?_
  rintro e w1 ⟨v, rfl, hO, hv, hB1⟩
  have HO := Lib.hid hO
  have HV := Lib.hid hv
  have HB1 := Lib.hid hB1
  clear hO hv hB1
  go_wp2
  go_ret
  refine ⟨_, rfl, ?_, HV.out, HB.out.trans (HB1.out.mono HB.out.size)⟩
  obtain ⟨a, b⟩ := HO.out
  refine ⟨a, ?_⟩
  rcases b with b | ⟨g, cap, cur, hv, hg, r⟩
  · exact .inl b
  · exact .inr ⟨g, cap, cur, hv, Nat.le_trans HB.out.size hg, r⟩

set_option maxHeartbeats 1000000 in
theorem two_nil (n : Int) (w : World) (h0 : 0 ≤ n) (h1 : n < 65536) :
    Calls Tryd.prog 50 #[.slice none 0 0, .int .u16 n] w fun e w' => ∃ v, e = .returned v ∧ w'.ownsRow w.heap.size 5 1 v 2 [.int .u8 (n / 256), .int .u8 (n % 256)] ∧ v ≠ .slice none 0 0 ∧ Below w.heap.size w w' := by
  have hB : Below w.heap.size w ((w.alloc (.cells #[.int .u8 (n / 256), .int .u8 (n % 256)] 5)).alloc (.cells #[.slice none 0 0, .slice (some ⟨w.heap.size, 0, none⟩) 2 2] 31)) := ((Below.refl _ _).alloc (Nat.le_refl _) _).alloc (by simp) _
  have HC := Lib.hid (concat_nil (w.heap.size + 1) 2 ⟨w.heap.size, 0, none⟩ (twoB n) 2 _ (two_at w h0 h1 (.cells #[.slice none 0 0, .slice (some ⟨w.heap.size, 0, none⟩) 2 2] 31)) (by rw [twoB_size]; omega) (by rw [twoB_size]; omega) (by simp) (by simp [twoB_size]))
  rw [twoB_cells h0 h1, twoB_size] at HC
  have HB := Lib.hid hB
  clear hB
  go_enter Tryd.func50, Tryd.ntmps50
  go_wp2_with fail
  refine HC.out.mono ?_
  rintro e w1 ⟨v, rfl, hO, hv, hB1⟩
  have HO := Lib.hid hO
  have HV := Lib.hid hv
  have HB1 := Lib.hid hB1
  clear hO hv hB1
  go_wp2
  go_ret
  refine ⟨_, rfl, ?_, HV.out, HB.out.trans (HB1.out.mono HB.out.size)⟩
  obtain ⟨a, b⟩ := HO.out
  refine ⟨a, ?_⟩
  rcases b with b | ⟨g, cap, cur, hv, hg, r⟩
  · exact .inl b
  · exact .inr ⟨g, cap, cur, hv, Nat.le_trans HB.out.size hg, r⟩
end Go.Proofs.YtkgkjkghdllkhaaDoor
