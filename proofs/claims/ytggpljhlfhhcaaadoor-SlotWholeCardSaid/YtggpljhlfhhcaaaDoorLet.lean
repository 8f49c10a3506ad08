/-
  A message as words, pure: its bytes, four a word, the first one the most significant.
-/
import Derived.Test.YtggpljhlfhhcaaaDoorPure
namespace Go.Proofs.YtggpljhlfhhcaaaDoor

/-- A byte of a message, 0 where there is none. -/
def byteOf (m : ByteArray) (i : Nat) : Int := (((m.data.toList.getD i 0).toNat : Nat) : Int)
theorem byteOf_rng (m : ByteArray) (i : Nat) : 0 ≤ byteOf m i ∧ byteOf m i ≤ 255 := by
  unfold byteOf
  have := (m.data.toList.getD i 0).toNat_lt
  omega
theorem byteOf_out {m : ByteArray} {i : Nat} (h : m.size ≤ i) : byteOf m i = 0 := by
  unfold byteOf
  rw [List.getD_eq_getElem?_getD, List.getElem?_eq_none (by rw [Array.length_toList]; exact h)]
  rfl
/-- Four bytes of a message as a number, the first one the most significant. -/
def wordOf (m : ByteArray) (q : Nat) : Int := byteOf m (4 * q) * 16777216 + byteOf m (4 * q + 1) * 65536 + byteOf m (4 * q + 2) * 256 + byteOf m (4 * q + 3)
theorem wordOf_rng (m : ByteArray) (q : Nat) : 0 ≤ wordOf m q ∧ wordOf m q < 4294967296 := by
  unfold wordOf
  have h0 := byteOf_rng m (4 * q)
  have h1 := byteOf_rng m (4 * q + 1)
  have h2 := byteOf_rng m (4 * q + 2)
  have h3 := byteOf_rng m (4 * q + 3)
  omega
/-- How many words so many bytes need. -/
def need (n : Nat) : Nat := (n + 3) / 4
/-- The byte number i of words. -/
def byteAt (ws : Nat → Int) (i : Nat) : Int := ws (i / 4) / (2 ^ (24 - 8 * (i % 4)) : Nat) % 256
/-- What words say: so many bytes. -/
def textN (ws : Nat → Int) (n : Nat) : ByteArray := ⟨((List.range n).map fun i => UInt8.ofNat (byteAt ws i).toNat).toArray⟩
theorem textN_size (ws : Nat → Int) (n : Nat) : (textN ws n).size = n := by
  unfold textN ByteArray.size; simp
/-- A message's words say it. -/
theorem byteAt_letter (m : ByteArray) (ws : Nat → Int) (i : Nat) (h : ws (i / 4) = wordOf m (i / 4)) : byteAt ws i = byteOf m i := by
  unfold byteAt
  rw [h]
  unfold wordOf
  have h0 := byteOf_rng m (4 * (i / 4))
  have h1 := byteOf_rng m (4 * (i / 4) + 1)
  have h2 := byteOf_rng m (4 * (i / 4) + 2)
  have h3 := byteOf_rng m (4 * (i / 4) + 3)
  have hr : i % 4 = 0 ∨ i % 4 = 1 ∨ i % 4 = 2 ∨ i % 4 = 3 := by omega
  have e : i = 4 * (i / 4) + i % 4 := by omega
  have hb : byteOf m i = byteOf m (4 * (i / 4) + i % 4) := congrArg (byteOf m) e
  rcases hr with h | h | h | h
  · rw [h] at hb
    rw [hb, h, show ((2 ^ (24 - 8 * 0) : Nat) : Int) = 16777216 from rfl]
    simp only [Nat.add_zero]
    omega
  · rw [h] at hb
    rw [hb, h, show ((2 ^ (24 - 8 * 1) : Nat) : Int) = 65536 from rfl]
    omega
  · rw [h] at hb
    rw [hb, h, show ((2 ^ (24 - 8 * 2) : Nat) : Int) = 256 from rfl]
    omega
  · rw [h] at hb
    rw [hb, h, show ((2 ^ (24 - 8 * 3) : Nat) : Int) = 1 from rfl]
    omega
theorem byteAt_rng (ws : Nat → Int) (i : Nat) : 0 ≤ byteAt ws i ∧ byteAt ws i < 256 := by
  unfold byteAt
  omega
theorem textN_letter {m : ByteArray} {ws : Nat → Int} (h : ∀ q, q < need m.size → ws q = wordOf m q) : textN ws m.size = m := by
  have hs : ((List.range m.size).map fun i => UInt8.ofNat (byteAt ws i).toNat) = m.data.toList := by
    apply List.ext_getElem
    · rw [List.length_map, List.length_range, Array.length_toList]; rfl
    · intro i h1 h2
      have hi : i < m.size := by rw [Array.length_toList] at h2; exact h2
      rw [List.getElem_map, List.getElem_range]
      rw [byteAt_letter m ws i (h _ (by unfold need; omega))]
      unfold byteOf
      rw [List.getD_eq_getElem?_getD, List.getElem?_eq_getElem h2, Option.getD_some]
      simp
  apply ByteArray.ext
  exact Array.toList_inj.1 hs
theorem textN_congr {ws ws' : Nat → Int} {n : Nat} (h : ∀ q, q < need n → ws q = ws' q) : textN ws n = textN ws' n := by
  unfold textN
  congr 2
  apply List.map_congr_left
  intro i hi
  have hi := List.mem_range.1 hi
  unfold byteAt
  rw [h (i / 4) (by unfold need; omega)]
theorem need_le {a b : Nat} (h : a ≤ b) : need a ≤ need b := by unfold need; omega
end Go.Proofs.YtggpljhlfhhcaaaDoor
