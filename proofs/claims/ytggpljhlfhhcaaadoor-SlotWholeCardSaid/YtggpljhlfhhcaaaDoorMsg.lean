/-
  What a get says.
-/
import Derived.Test.YtggpljhlfhhcaaaDoorSlot
import Derived.Laws.CopyOwn
import Derived.Deep.RegionLaw
namespace Go.Proofs.YtggpljhlfhhcaaaDoor
open Go.RowKit

set_option maxHeartbeats 1000000 in
theorem message_no (K R n : Nat) (p : Int) (r : Rd) (w : World) (hK : GetAt w K R n) (hR : ReaderAt w R p r) (hp : p ≠ 3) : Calls Tryd.prog 23 #[.pointer (some ⟨K, 0, none⟩)] w fun e w' => e = .returned (.tuple #[.string ⟨#[]⟩, .int .u32 0, .bool false]) ∧ w = w' := by
  have k0 := hK.c0
  have HG := Lib.hid (got_no R r w p hR hp)
  clear hK hR hp
  go_enter Tryd.func23, Tryd.ntmps23
  go_wp2_with fail
  with_reducible refine HG.out.mono ?_
  rintro e w1 ⟨rfl, rfl⟩
  go_wp2_with fail
  go_ret3
  exact ⟨rfl, rfl⟩
theorem splice_at {k : Nat} {g : Nat → Value} {z : Value} {j : Nat} (hj : j < 8) : (splice (List.replicate 8 z) 0 ((List.range k).map g))[j]? = some (if j < k then g j else z) := by
  have e : splice (List.replicate 8 z) 0 ((List.range k).map g) = (List.range k).map g ++ (List.replicate 8 z).drop k := by
    simp [splice]
  rw [e]
  by_cases h : j < k
  · rw [List.getElem?_append_left (by simpa using h), List.getElem?_map, List.getElem?_range h, if_pos h]
    rfl
  · rw [List.getElem?_append_right (by simpa using Nat.le_of_not_lt h), if_neg h, List.getElem?_drop, List.length_map, List.length_range, List.getElem?_replicate, if_pos (by omega)]
/-- The words of a letter that fewer words were copied into. -/
def letF (ws : Nat → Int) (n : Nat) (j : Nat) : Int := if j < need n then ws (2 + j) else 0
theorem let_of {w : World} {d n : Nat} {ws : Nat → Int} (h : w.heap[d]? = some (.cells (splice (List.replicate 8 (Value.int .u32 0)) 0 ((List.range (need n)).map fun q => .int .u32 (ws (2 + q)))).toArray 89 (0, 0))) : LetAt w d 0 (letF ws n) := fun j hj => by
  rw [Nat.zero_add]
  rw [cell_of_row w d j _ _ _ h, List.getElem?_toArray, splice_at hj]
  unfold letF
  split <;> rfl
set_option maxHeartbeats 4000000 in
set_option maxRecDepth 100000 in
theorem message_yes (K R n : Nat) (r : Rd) (w : World) (hK : GetAt w K R n) (hR : ReaderAt w R 3 r) (hn : r.k.n = 2 + need n) (h1 : 1 ≤ n) (h2 : n ≤ 32) (hu : ∀ j, 0 ≤ r.ws j ∧ r.ws j < 4294967296) :
    Calls Tryd.prog 23 #[.pointer (some ⟨K, 0, none⟩)] w fun e w' => e = .returned (.tuple #[.string (textN (fun q => r.ws (2 + q)) (min (r.ws 1) n).toNat), .int .u32 (r.ws 0), .bool true]) ∧ Below w.heap.size w w' := by
  have k0 := hK.c0
  have HG := Lib.hid (got_yes R r w hR)
  have HK := Lib.hid hK
  have HH := Lib.hid (And.intro hn (And.intro h1 (And.intro h2 hu)))
  clear hK hR hn h1 h2 hu
  go_enter Tryd.func23, Tryd.ntmps23
  go_wp2_with fail
  with_reducible refine HG.out.mono ?_
  rintro e w1 ⟨d, rfl, hrow, hd, hB⟩
  have HR := Lib.hid hrow
  have HB := Lib.hid hB
  have r0 := hrow.cell (i := 0) (by omega)
  have r1 := hrow.cell (i := 1) (by omega)
  obtain ⟨N, hN⟩ : ∃ N, N = r.k.n := ⟨_, rfl⟩
  have HN := Lib.hid hN
  rw [← hN]
  have b0 : (0 : Int) < N := by have := HH.out.1; omega
  have b1 : (1 : Int) < N := by have := HH.out.1; omega
  have b2 : (2 : Int) ≤ N := by have := HH.out.1; omega
  have b3 : 0 < N := by omega
  have b4 : 1 < N := by omega
  clear hrow hB hN
  go_wp2_with fail
  go_quiet (fail)
  go_wp2_with fail
  have hN2 : ¬ N = 2 := by have := HH.out; have := HN.out; unfold need at this; unfold need at *; omega
  have hsz : (Tryd.prog.info? 32).map (·.size) = some 1 := by kernel_rfl
  have HSZ := Lib.hid hsz
  clear hsz
  obtain ⟨w3, hw3⟩ : ∃ w3, w3 = (w1.drewN nq).alloc (.cells #[.int .u32 0, .int .u32 0, .int .u32 0, .int .u32 0, .int .u32 0, .int .u32 0, .int .u32 0, .int .u32 0] 89) := ⟨_, rfl⟩
  have hh : w3.heap[w1.heap.size]? = some (.cells (List.replicate 8 (Value.int .u32 0)).toArray 89 (0, 0)) := by rw [hw3]; exact heap_alloc_new (w1.drewN nq) _
  have hb : Below w1.heap.size w1 w3 := by rw [hw3]; exact (below_drewN (Below.refl _ _) nq).alloc (Nat.le_refl _) _
  rw [← hw3]
  have HH3 := Lib.hid hh
  have HB3 := Lib.hid hb
  have HSRC := Lib.hid (fun j (hj : j < need n) => kept (HR.out.cell (i := 2 + j) (by have := HH.out.1; have := HN.out; have := HH.out.2.2.1; unfold need at hj; omega)) hb)
  have HLT := Lib.hid (show d < w1.heap.size from cell_lt r0)
  have r2 := kept k0 (HB.out.trans (hb.mono HB.out.size))
  have r3 := kept HK.out.c1 (HB.out.trans (hb.mono HB.out.size))
  clear hh hb hw3 r0 r1
  have HN1 := Lib.hid (show ((List.range (need n)).map fun q => Value.int .u32 (r.ws (2 + q))).length = Nat.min (N - 2) 8 by
    have h1 := HH.out.1; have h2 := HN.out; have h3 := HH.out.2.2.1
    have h4 : need n ≤ 8 := by unfold need; omega
    rw [List.length_map, List.length_range, show N - 2 = need n by omega]
    exact (Nat.min_eq_left h4).symm)
  have HPOS := Lib.hid (show 0 < ((List.range (need n)).map fun q => Value.int .u32 (r.ws (2 + q))).length → some (⟨w1.heap.size, 0, none⟩ : Addr) = some ⟨w1.heap.size, 0, none⟩ ∧ ∃ ad, some (⟨d, 2, none⟩ : Addr) = some ad ∧ ∀ j v, ((List.range (need n)).map fun q => Value.int .u32 (r.ws (2 + q)))[j]? = some v → w3.drew.cell? (ad.add j) = some v from fun _ => ⟨rfl, _, rfl, fun j v hv => by
    have hj : j < need n := by have := (List.getElem?_eq_some_iff.1 hv).1; simpa using this
    rw [List.getElem?_map, List.getElem?_range hj] at hv
    injection hv with hv
    subst hv
    rw [add_off]
    exact HSRC.out j hj⟩)
  have HFIT := Lib.hid (show 0 + ((List.range (need n)).map fun q => Value.int .u32 (r.ws (2 + q))).length ≤ (List.replicate 8 (Value.int .u32 0)).length by
    have h3 := HH.out.2.2.1
    simp
    unfold need
    omega)
  have HONE := Lib.hid (show ∀ v ∈ ((List.range (need n)).map fun q => Value.int .u32 (r.ws (2 + q))), v.oneCell' = true from fun v hv => by
    obtain ⟨_, _, rfl⟩ := List.mem_map.1 hv
    rfl)
  have K1 := Lib.hid (kept HK.out.c1 HB.out)
  have nu := Lib.hid (show (n : Int) % 4294967296 = n by have := HH.out.2.2.1; omega)
  go_region_law ((refine step_copy_splice rfl (.tmp 26) (.tmp 28) 22 22 rfl 32 Tryd.underlying22 HSZ.out (some ⟨w1.heap.size, 0, none⟩) (some ⟨d, 2, none⟩) 8 8 (N - 2) (N - 2) rfl rfl w1.heap.size 0 (List.replicate 8 (Value.int .u32 0)) 89 HH3.out ((List.range (need n)).map fun q => .int .u32 (r.ws (2 + q))) HN1.out HPOS.out HFIT.out HONE.out w1.heap.size w1 HB3.out.drew (Nat.le_refl _) ?_; intro w4 hg4 hb4))
  all_goals
    have c1 := kept K1.out hb4
    have hlet := let_of hg4.out
    have HB4 := Lib.hid (HB.out.trans (hb4.mono HB.out.size))
    have HLET := Lib.hid hlet
    clear hg4 hb4 hlet
    go_wp2_with fail
    rw [nu.out]
    with_reducible refine (text_any w1.heap.size 0 (letF r.ws n) (min (r.ws 1) n).toNat w4 HLET.out _ ?_ ?_ ?_).mono ?_
    · have := HH.out.2.2.2 1; omega
    · have := HH.out.2.2.1; omega
    · intro j _
      have := HH.out.2.2.2 (2 + j)
      unfold letF
      split <;> omega
    rintro e w5 ⟨rfl, hB5⟩
    have HB5 := Lib.hid (HB4.out.trans (hB5.mono HB4.out.size))
    have HT := Lib.hid (textN_congr (ws := letF r.ws n) (ws' := fun q => r.ws (2 + q)) (n := (min (r.ws 1) n).toNat) fun q hq => by
      unfold letF
      rw [if_pos (by have := need_le (show (min (r.ws 1) (n : Int)).toNat ≤ n by omega); omega)])
    clear hB5
    go_wp2_with fail
    go_ret3
    exact ⟨by rw [HT.out]; rfl, HB5.out⟩
end Go.Proofs.YtggpljhlfhhcaaaDoor
