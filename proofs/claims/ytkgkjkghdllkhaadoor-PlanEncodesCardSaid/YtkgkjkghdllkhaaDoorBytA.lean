/-
  The given package's Bytes: what its loops know.
-/
import Derived.Test.YtkgkjkghdllkhaaDoorStr
import Derived.Test.YtkgkjkghdllkhaaDoorFits
namespace Go.Proofs.YtkgkjkghdllkhaaDoor
open Go.RowKit

/-- The four counts. -/
def cnt (P : PlanA) (k : Nat) : Nat := match k with | 0 => P.2.1.length | 1 => P.2.2.1.length | 2 => P.2.2.2.1.length | _ => P.2.2.2.2.length
def cntL (P : PlanA) : List Int := [(P.2.1.length : Int), (P.2.2.1.length : Int), (P.2.2.2.1.length : Int), (P.2.2.2.2.length : Int)]
theorem cntL_take (P : PlanA) {k : Nat} (hk : k < 4) : (cntL P).take (k + 1) = (cntL P).take k ++ [(cnt P k : Int)] := by
  match k, hk with
  | 0, _ => rfl
  | 1, _ => rfl
  | 2, _ => rfl
  | 3, _ => rfl
theorem fit_cnt {P : PlanA} {k : Nat} (hk : k < 4) (hj : ∀ j, j < k → cnt P j ≤ 255) (h : 255 < cnt P k) : fitAt P = k := by
  unfold fitAt
  match k, hk with
  | 0, _ => rw [if_pos (show 255 < P.2.1.length from h)]; rfl
  | 1, _ => rw [if_neg (show ¬ 255 < P.2.1.length from by have : P.2.1.length ≤ 255 := hj 0 (by omega); omega), if_pos (show 255 < P.2.2.1.length from h)]; rfl
  | 2, _ => rw [if_neg (show ¬ 255 < P.2.1.length from by have : P.2.1.length ≤ 255 := hj 0 (by omega); omega), if_neg (show ¬ 255 < P.2.2.1.length from by have : P.2.2.1.length ≤ 255 := hj 1 (by omega); omega), if_pos (show 255 < P.2.2.2.1.length from h)]; rfl
  | 3, _ => rw [if_neg (show ¬ 255 < P.2.1.length from by have : P.2.1.length ≤ 255 := hj 0 (by omega); omega), if_neg (show ¬ 255 < P.2.2.1.length from by have : P.2.2.1.length ≤ 255 := hj 1 (by omega); omega), if_neg (show ¬ 255 < P.2.2.2.1.length from by have : P.2.2.2.1.length ≤ 255 := hj 2 (by omega); omega), if_pos (show 255 < P.2.2.2.2.length from h)]; rfl
theorem fit_rest {P : PlanA} (hj : ∀ j, j < 4 → cnt P j ≤ 255) : fitAt P = if badCore P.2.1 then 4 else badPart P.2.2.1 := by
  unfold fitAt
  rw [if_neg (show ¬ 255 < P.2.1.length from by have : P.2.1.length ≤ 255 := hj 0 (by omega); omega), if_neg (show ¬ 255 < P.2.2.1.length from by have : P.2.2.1.length ≤ 255 := hj 1 (by omega); omega), if_neg (show ¬ 255 < P.2.2.2.1.length from by have : P.2.2.2.1.length ≤ 255 := hj 2 (by omega); omega), if_neg (show ¬ 255 < P.2.2.2.2.length from by have : P.2.2.2.2.length ≤ 255 := hj 3 (by omega); omega)]
def BytesP (P : PlanA) (w : World) (e : Ending) (w' : World) : Prop :=
  (fitAt P = -1 ∧ e = .returned (.tuple #[sB (enc P), .int .i64 0, .bool true]) ∨ fitAt P ≠ -1 ∧ e = .returned (.tuple #[.string ⟨#[]⟩, .int .i64 (fitAt P), .bool false])) ∧ Below w.heap.size w w'
theorem BytesP.bad {P : PlanA} {w w' : World} {n : Int} (h : fitAt P = n) (hn : n ≠ -1) (hB : Below w.heap.size w w') : BytesP P w (.returned (.tuple #[.string ⟨#[]⟩, .int .i64 n, .bool false])) w' := ⟨.inr ⟨by rw [h]; exact hn, by rw [h]⟩, hB⟩
theorem BytesP.good {P : PlanA} {w w' : World} {l : List Int} (h : fitAt P = -1) (e : l = enc P) (hB : Below w.heap.size w w') : BytesP P w (.returned (.tuple #[sB l, .int .i64 0, .bool true])) w' := ⟨.inl ⟨h, by rw [e]⟩, hB⟩
theorem take_snoc {α : Type} (e : α → List Int) (l : List α) (d : α) {k : Nat} (h : k < l.length) : (l.take (k + 1)).flatMap e = (l.take k).flatMap e ++ e (l.getD k d) := by
  rw [List.take_succ_eq_append_getElem h, List.flatMap_append, List.getD_eq_getElem?_getD, List.getElem?_eq_getElem h]
  simp
/-- The plan's box and the counts. -/
structure BB (P : PlanA) (L : PlanL) (s : Nat) (W : World) : Prop where
  b0 : W.cell? ⟨s, 0, none⟩ = some (.int .u16 P.1)
  b1 : W.cell? ⟨s, 1, none⟩ = some (.slice L.a1 P.2.1.length L.c1)
  b2 : W.cell? ⟨s, 2, none⟩ = some (.slice L.a2 P.2.2.1.length L.c2)
  b3 : W.cell? ⟨s, 3, none⟩ = some (.slice L.a3 P.2.2.2.1.length L.c3)
  b4 : W.cell? ⟨s, 4, none⟩ = some (.slice L.a4 P.2.2.2.2.length L.c4)
  c : ∀ k, k < 4 → W.cell? ⟨s + 1, k, none⟩ = some (.int .i64 (cnt P k))
theorem kept' {w w' : World} {a : Addr} {v : Value} (h : w.cell? a = some v) (hb : Below w.heap.size w w') : w'.cell? a = some v := by
  rw [hb.cell (cell_lt' h)]; exact h
theorem BB.keep {P : PlanA} {L : PlanL} {s : Nat} {W W' : World} (h : BB P L s W) (hB : Below W.heap.size W W') : BB P L s W' :=
  ⟨kept' h.b0 hB, kept' h.b1 hB, kept' h.b2 hB, kept' h.b3 hB, kept' h.b4 hB, fun k hk => kept' (h.c k hk) hB⟩
end Go.Proofs.YtkgkjkghdllkhaaDoor
