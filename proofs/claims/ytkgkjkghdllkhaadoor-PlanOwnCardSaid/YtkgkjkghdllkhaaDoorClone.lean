/-
  bytes.Clone lays the same bytes in memory of its own; New makes a reader at the beginning of them.
-/
import Derived.Test.YtkgkjkghdllkhaaDoorLeft
import Derived.Deep.AppendLies
import Derived.Laws.IdiomStrings
import Derived.Lib.SliceRun
namespace Go.Proofs.YtkgkjkghdllkhaaDoor
open Go.RowKit

theorem info5 : (Tryd.prog.info? 5).map (fun i => (i.zero, i.size, i.bytes)) = some (some (.int .u8 0), 1, 1) := by kernel_rfl

/-- The cells that hold some bytes. -/
def cellsOf (t : ByteArray) : List Value := t.data.toList.map fun x => .int .u8 (x.toNat : Int)
theorem cellsOf_length (t : ByteArray) : (cellsOf t).length = t.size := by unfold cellsOf; rw [List.length_map, Lib.size_eq]
theorem cellsOf_at (t : ByteArray) (i : Nat) (h : i < t.size) : (cellsOf t)[i]? = some (.int .u8 (t[i].toNat : Int)) := by
  unfold cellsOf
  rw [List.getElem?_map, byte_at t i h]
  rfl
theorem cellsOf_one (t : ByteArray) : ∀ u ∈ cellsOf t, u.oneCell' = true := by
  intro u hu
  simp [cellsOf] at hu
  obtain ⟨x, _, rfl⟩ := hu
  rfl

theorem cell_lt' {w : World} {a : Addr} {v : Value} (h : w.cell? a = some v) : a.block < w.heap.size := by
  rcases Nat.lt_or_ge a.block w.heap.size with h' | h'
  · exact h'
  · simp [World.cell?, Array.getElem?_eq_none h'] at h

/-- From address A on the bytes t lie. -/
def At (w : World) (A : Addr) (t : ByteArray) : Prop := ∀ i (h : i < t.size), w.cell? (A.add i) = some (.int .u8 (t[i].toNat : Int))
theorem At.cells {w : World} {A : Addr} {t : ByteArray} (h : At w A t) : ∀ j u, (cellsOf t)[j]? = some u → w.cell? (A.add j) = some u := by
  intro j u hu
  have hj : j < t.size := by
    rcases Nat.lt_or_ge j t.size with h' | h'
    · exact h'
    · rw [List.getElem?_eq_none (by rw [cellsOf_length]; exact h')] at hu; cases hu
  rw [cellsOf_at t j hj] at hu
  injection hu with hu
  rw [← hu]
  exact h j hj
theorem add_lit (b o i : Nat) : (⟨b, o, none⟩ : Addr).add i = ⟨b, o + i, none⟩ := by unfold Addr.add; split <;> simp_all
theorem At.of_bytes {w : World} {b o : Nat} {t : ByteArray} (h : Lib.Bytes w b o t) : At w ⟨b, o, none⟩ t := fun i hi => by rw [add_lit]; exact h i hi
theorem At.bytes {w : World} {b o : Nat} {t : ByteArray} (h : At w ⟨b, o, none⟩ t) : Lib.Bytes w b o t := fun i hi => by have := h i hi; rwa [add_lit] at this
theorem At.below {w w' : World} {A : Addr} {t : ByteArray} {B : Nat} (h : At w A t) (hb : Below B w w') (hA : A.block < B) : At w' A t := fun i hi => by
  have e : (A.add i).block = A.block := by unfold Addr.add; split <;> rfl
  rw [hb.cell (by rw [e]; exact hA)]
  exact h i hi
theorem At.keep {w w' : World} {A : Addr} {t : ByteArray} (h : At w A t) (hb : Below w.heap.size w w') : At w' A t := fun i hi => by
  rw [hb.cell (cell_lt' (h i hi))]
  exact h i hi
/-- Bytes in memory of the call's own, from block base on. -/
def OwnB (w : World) (base : Nat) (v : Value) (t : ByteArray) : Prop := w.ownsRow base 5 1 v t.size (cellsOf t)
theorem OwnB.bytes {w : World} {base g c : Nat} {t : ByteArray} (h : OwnB w base (.slice (some ⟨g, 0, none⟩) t.size c) t) : Lib.Bytes w g 0 t := fun i hi => by
  have := World.ownsRow.cells h (g := g) rfl i _ (cellsOf_at t i hi)
  rwa [add_lit] at this
theorem OwnB.form {w : World} {base : Nat} {v : Value} {t : ByteArray} (h : OwnB w base v t) (hn : v ≠ .slice none 0 0) :
    ∃ g c, v = .slice (some ⟨g, 0, none⟩) t.size c ∧ base ≤ g ∧ g < w.heap.size ∧ t.size ≤ c ∧ c ≤ maxLen := by
  have h' := h
  rcases h'.2 with ⟨hv, _⟩ | ⟨g, cap, cur, hv, hg, hh, h1, h2, _, _⟩
  · exact absurd hv hn
  · exact ⟨g, cap, hv, hg, (Array.getElem?_eq_some_iff.1 hh).1, h1, h2⟩
theorem ownB_lit (w : World) : (w.alloc (.cells #[] 5)).ownsRow w.heap.size 5 1 (.slice (some ⟨w.heap.size, 0, none⟩) 0 0) 0 [] :=
  World.ownsRow_lit w #[] 0 (Nat.le_refl _) (by decide) rfl

set_option maxHeartbeats 400000 in
theorem clone_any (A : Addr) (c : Nat) (t : ByteArray) (w : World) (hA : At w A t) (hn : t.size ≤ 140737488355328) :
    Calls Tryd.prog 54 #[.slice (some A) t.size c] w fun e w' => ∃ v, e = .returned v ∧ OwnB w' w.heap.size v t ∧ v ≠ .slice none 0 0 ∧ Below w.heap.size w w' := by
  obtain ⟨i0, hi, hz0, hz1, hz2⟩ := info_parts info5
  have hown := ownB_lit w
  have hB : Below w.heap.size w (w.alloc (.cells #[] 5)) := (Below.refl _ _).alloc (Nat.le_refl _) _
  have HA := Lib.hid (hA.keep hB)
  have HB := Lib.hid hB
  have HN0 := Lib.hid hn
  clear hA hB hn
  have q23 := fun (w : World) (a : Option Addr) (n c n' c' : Nat) => Lib.run_eql_slice_nil (P := Tryd.prog) w 31 5 a n c n' c' Tryd.underlying31
  go_enter Tryd.func54, Tryd.ntmps54
  go_wp2_with (at_builtin; refine wpList_append_own _ rfl _ _ 31 rfl w.heap.size 5 i0 (.int .u8 0) 1 1 Tryd.underlying31 hi hz0 hz1 hz2 rfl (by decide) _ _ _ rfl hown A t.size c (cellsOf t) rfl ?c0 ?c1 ?c2 ?c3 ?c4 ?c5 ?_)
  case c0 => rw [cellsOf_length]; omega
  case c1 => exact HA.out.cells
  case c2 => exact cellsOf_one t
  case c3 => have := HN0.out; unfold maxLen; simp; omega
  case c4 => have := HN0.out; simp; omega
  case c5 => simp
  intro v' w1 hown' hgrow hnil
  have HO : Hid (OwnB w1 w.heap.size v' t) := by
    show w1.ownsRow _ _ _ _ _ _
    simpa using hown'
  have HN : Hid (v' ≠ .slice none 0 0) := by first | exact hnil | (intro e; exact absurd (hnil.1 e).1 (by simp))
  have HB1 := Lib.hid (HB.out.grown hgrow (by simp) (fun k hk => (World.ownsRow.lt hown k hk).1))
  clear hown' hgrow hnil hown
  go_wp2
  go_ret
  exact ⟨_, rfl, HO.out, HN.out, HB1.out⟩

set_option maxHeartbeats 400000 in
theorem new_any (A : Addr) (c : Nat) (t : ByteArray) (w : World) (hA : At w A t) (hn : t.size ≤ 140737488355328) :
    Calls Tryd.prog 29 #[.slice (some A) t.size c] w fun e w' => ∃ g b cap, e = .returned (.pointer (some ⟨g, 0, none⟩)) ∧ Rd w' g b cap t 0 false ∧ w.heap.size ≤ g ∧ w.heap.size ≤ b ∧ Below w.heap.size w w' := by
  have HA := Lib.hid hA
  have HN := Lib.hid hn
  clear hA hn
  go_enter Tryd.func29, Tryd.ntmps29
  go_wp2_with fail
  refine (clone_any A c t w HA.out HN.out).mono ?_
  rintro e w1 ⟨v, rfl, hO, hv, hB⟩
  obtain ⟨b, cap, rfl, hb, hbl, hc1, hc2⟩ := hO.form hv
  have HO := Lib.hid hO
  have HB := Lib.hid hB
  clear hO hv hB
  go_wp2
  go_ret
  refine ⟨w1.heap.size, b, cap, rfl, ⟨?_, ?_, by omega, Nat.zero_le _, hc1, hc2, by simp; omega⟩, HB.out.size, hb, HB.out.alloc HB.out.size _⟩
  · exact heap_alloc_new _ _
  · intro i hi
    rw [World.cell?_alloc_lt _ _ ⟨b, 0 + i, none⟩ (by omega)]
    exact HO.out.bytes i hi
end Go.Proofs.YtkgkjkghdllkhaaDoor
