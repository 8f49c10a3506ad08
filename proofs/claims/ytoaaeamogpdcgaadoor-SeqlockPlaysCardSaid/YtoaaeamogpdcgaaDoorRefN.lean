/-
  The document's answer: a new writer: all its steps.
-/
import Derived.Test.YtoaaeamogpdcgaaDoorRefR
import Derived.Deep.DeepCutAuto
namespace Go.Proofs.YtoaaeamogpdcgaaDoor
open Go.RowKit

/-- The steps in order: whether one uses the counter; its word; what is stored; whether it ends a version. -/
def outS (n q : Nat) : Bool := q % (n + 2) == 0 || q % (n + 2) == n + 1
def atS (at' : Int) (n q : Nat) : Int := if outS n q then at' else at' + (q % (n + 2) : Nat)
def vS (n : Nat) (F : Nat → Ver) (q : Nat) : Int := if outS n q then 0 else (F (q / (n + 2))).v (q % (n + 2) - 1)
def eS (n q : Nat) : Bool := q % (n + 2) == n + 1
theorem div_mod_at {n i k : Nat} (hk : k < n + 2) : (i * (n + 2) + k) % (n + 2) = k ∧ (i * (n + 2) + k) / (n + 2) = i := by
  constructor
  · rw [Nat.mul_comm, Nat.mul_add_mod, Nat.mod_eq_of_lt hk]
  · rw [Nat.mul_comm, Nat.mul_add_div (by omega), Nat.div_eq_of_lt hk, Nat.add_zero]
def LA (at' : Int) (n K : Nat) : List Value := (List.range K).map fun q => .int .i64 (atS at' n q)
def LV (n : Nat) (F : Nat → Ver) (K : Nat) : List Value := (List.range K).map fun q => .int .u32 (vS n F q)
def LD (n K : Nat) : List Value := (List.range K).map fun q => .bool (outS n q)
def LE (n K : Nat) : List Value := (List.range K).map fun q => .bool (eS n q)
theorem range_next {f : Nat → Value} (K : Nat) : (List.range K).map f ++ [f K] = (List.range (K + 1)).map f := by rw [List.range_succ, List.map_append]; rfl
/-- Two rows in blocks apart. -/
def Ap (a b : Value) : Prop := ∀ x, a.ownBlock = some x → b.ownBlock ≠ some x
theorem Ap.symm {a b : Value} (h : Ap a b) : Ap b a := fun x e1 e2 => h x e2 e1
/-- The four lists, as far as they are made. -/
structure Rows4 (at' : Int) (n : Nat) (F : Nat → Ver) (w : World) (Ba ka kv kd ke : Nat) (a v d e : Value) : Prop where
  ra : w.ownsRow (Ba + 1) 3 1 a ka (LA at' n ka)
  rv : w.ownsRow (Ba + 1) 22 1 v kv (LV n F kv)
  rd : w.ownsRow (Ba + 1) 4 1 d kd (LD n kd)
  re : w.ownsRow (Ba + 1) 4 1 e ke (LE n ke)
  av : Ap a v
  ad : Ap a d
  ae : Ap a e
  vd : Ap v d
  ve : Ap v e
  de : Ap d e
  lt : Ba + 1 ≤ w.heap.size
theorem ownsRow_blk {w w' : World} {base n : Nat} {e : TypeId} {v : Value} {xs : List Value} (h : w.ownsRow base e 1 v n xs) (hk : ∀ x, v.ownBlock = some x → w'.heap[x]? = w.heap[x]?) : w'.ownsRow base e 1 v n xs := by
  refine ⟨h.1, ?_⟩
  rcases h.2 with h1 | ⟨g, cap, cur, hv, hb, hg, rest⟩
  · exact .inl h1
  · exact .inr ⟨g, cap, cur, hv, hb, by rw [hk g (by rw [hv]; rfl)]; exact hg, rest⟩
theorem own_blk_lt {w : World} {base n : Nat} {e : TypeId} {v : Value} {xs : List Value} (h : w.ownsRow base e 1 v n xs) {x : Nat} (hx : v.ownBlock = some x) : base ≤ x ∧ x < w.heap.size := World.ownsRow.lt h x hx
section
variable {at' : Int} {n : Nat} {F : Nat → Ver} {w w' : World} {Ba ka kv kd ke : Nat} {a v d e : Value}
theorem Rows4.keep (h : Rows4 at' n F w Ba ka kv kd ke a v d e) (hB : Below w.heap.size w w') : Rows4 at' n F w' Ba ka kv kd ke a v d e :=
  ⟨ownsRow_blk h.ra fun _ hx => hB.block _ (own_blk_lt h.ra hx).2, ownsRow_blk h.rv fun _ hx => hB.block _ (own_blk_lt h.rv hx).2, ownsRow_blk h.rd fun _ hx => hB.block _ (own_blk_lt h.rd hx).2, ownsRow_blk h.re fun _ hx => hB.block _ (own_blk_lt h.re hx).2, h.av, h.ad, h.ae, h.vd, h.ve, h.de, Nat.le_trans h.lt hB.size⟩
theorem Rows4.set (h : Rows4 at' n F w Ba ka kv kd ke a v d e) (j : Nat) (u : Value) : Rows4 at' n F (w.setCell ⟨Ba, j, none⟩ u) Ba ka kv kd ke a v d e := by
  have hb : ∀ x, Ba + 1 ≤ x → (w.setCell ⟨Ba, j, none⟩ u).heap[x]? = w.heap[x]? := fun x hx => Below.heap_setCell _ _ _ _ (by show x ≠ Ba; omega)
  exact ⟨ownsRow_blk h.ra fun _ hx => hb _ (own_blk_lt h.ra hx).1, ownsRow_blk h.rv fun _ hx => hb _ (own_blk_lt h.rv hx).1, ownsRow_blk h.rd fun _ hx => hb _ (own_blk_lt h.rd hx).1, ownsRow_blk h.re fun _ hx => hb _ (own_blk_lt h.re hx).1, h.av, h.ad, h.ae, h.vd, h.ve, h.de, by simpa using h.lt⟩
theorem apart_new {x y : Value} {g n c : Nat} {w : World} {base m : Nat} {e : TypeId} {xs : List Value} (h : Ap x y) (hy : w.ownsRow base e 1 y m xs) (hg : x.ownBlock = some g ∨ g = w.heap.size) : Ap (.slice (some ⟨g, 0, none⟩) n c) y := fun z hz hz2 => by
  have hz : some g = some z := hz
  injection hz with hz
  subst hz
  rcases hg with hg | hg
  · exact h g hg hz2
  · have := (own_blk_lt hy hz2).2; omega
theorem row_other {x y : Value} {base m : Nat} {e : TypeId} {xs : List Value} (hy : w.ownsRow base e 1 y m xs) (h : Ap x y) (hg : w.grownBy w' x.ownBlock) : w'.ownsRow base e 1 y m xs :=
  ownsRow_blk hy fun z hz => hg.block z (own_blk_lt hy hz).2 fun e1 => h z e1.symm hz
/-- A place more in the first list. -/
theorem Rows4.appA (h : Rows4 at' n F w Ba ka kv kd ke a v d e) {g c : Nat} (hown : w'.ownsRow (Ba + 1) 3 1 (.slice (some ⟨g, 0, none⟩) (ka + 1) c) (ka + 1) (LA at' n ka ++ [.int .i64 (atS at' n ka)])) (hg : w.grownBy w' a.ownBlock) (hat : a.ownBlock = some g ∨ g = w.heap.size) :
    Rows4 at' n F w' Ba (ka + 1) kv kd ke (.slice (some ⟨g, 0, none⟩) (ka + 1) c) v d e :=
  ⟨by rw [LA, range_next (f := fun q => .int .i64 (atS at' n q))] at hown; exact hown, row_other h.rv h.av hg, row_other h.rd h.ad hg, row_other h.re h.ae hg, apart_new h.av h.rv hat, apart_new h.ad h.rd hat, apart_new h.ae h.re hat, h.vd, h.ve, h.de, Nat.le_trans h.lt hg.size⟩
theorem Rows4.appV (h : Rows4 at' n F w Ba ka kv kd ke a v d e) {g c : Nat} (hown : w'.ownsRow (Ba + 1) 22 1 (.slice (some ⟨g, 0, none⟩) (kv + 1) c) (kv + 1) (LV n F kv ++ [.int .u32 (vS n F kv)])) (hg : w.grownBy w' v.ownBlock) (hat : v.ownBlock = some g ∨ g = w.heap.size) :
    Rows4 at' n F w' Ba ka (kv + 1) kd ke a (.slice (some ⟨g, 0, none⟩) (kv + 1) c) d e :=
  ⟨row_other h.ra h.av.symm hg, by rw [LV, range_next (f := fun q => .int .u32 (vS n F q))] at hown; exact hown, row_other h.rd h.vd hg, row_other h.re h.ve hg, (apart_new h.av.symm h.ra hat).symm, h.ad, h.ae, apart_new h.vd h.rd hat, apart_new h.ve h.re hat, h.de, Nat.le_trans h.lt hg.size⟩
theorem Rows4.appD (h : Rows4 at' n F w Ba ka kv kd ke a v d e) {g c : Nat} (hown : w'.ownsRow (Ba + 1) 4 1 (.slice (some ⟨g, 0, none⟩) (kd + 1) c) (kd + 1) (LD n kd ++ [.bool (outS n kd)])) (hg : w.grownBy w' d.ownBlock) (hat : d.ownBlock = some g ∨ g = w.heap.size) :
    Rows4 at' n F w' Ba ka kv (kd + 1) ke a v (.slice (some ⟨g, 0, none⟩) (kd + 1) c) e :=
  ⟨row_other h.ra h.ad.symm hg, row_other h.rv h.vd.symm hg, by rw [LD, range_next (f := fun q => .bool (outS n q))] at hown; exact hown, row_other h.re h.de hg, h.av, (apart_new h.ad.symm h.ra hat).symm, h.ae, (apart_new h.vd.symm h.rv hat).symm, h.ve, apart_new h.de h.re hat, Nat.le_trans h.lt hg.size⟩
theorem Rows4.appE (h : Rows4 at' n F w Ba ka kv kd ke a v d e) {g c : Nat} (hown : w'.ownsRow (Ba + 1) 4 1 (.slice (some ⟨g, 0, none⟩) (ke + 1) c) (ke + 1) (LE n ke ++ [.bool (eS n ke)])) (hg : w.grownBy w' e.ownBlock) (hat : e.ownBlock = some g ∨ g = w.heap.size) :
    Rows4 at' n F w' Ba ka kv kd (ke + 1) a v d (.slice (some ⟨g, 0, none⟩) (ke + 1) c) :=
  ⟨row_other h.ra h.ae.symm hg, row_other h.rv h.ve.symm hg, row_other h.rd h.de.symm hg, by rw [LE, range_next (f := fun q => .bool (eS n q))] at hown; exact hown, h.av, h.ad, (apart_new h.ae.symm h.ra hat).symm, h.vd, (apart_new h.ve.symm h.rv hat).symm, (apart_new h.de.symm h.rd hat).symm, Nat.le_trans h.lt hg.size⟩
end
/-- The writer under way, in block Ba; R its result's block. -/
structure Cel (w : World) (Ba : Nat) (a v d e : Value) : Prop where
  c0 : w.cell? ⟨Ba, 0, none⟩ = some a
  c1 : w.cell? ⟨Ba, 1, none⟩ = some v
  c2 : w.cell? ⟨Ba, 2, none⟩ = some d
  c3 : w.cell? ⟨Ba, 3, none⟩ = some e
  c4 : w.cell? ⟨Ba, 4, none⟩ = some (.int .i64 0)
  c5 : w.cell? ⟨Ba, 5, none⟩ = some (.bool false)
  fz : ∀ j, w.frozen? ⟨Ba, j, none⟩ = false
theorem Cel.same {w w' : World} {Ba : Nat} {a v d e : Value} (h : Cel w Ba a v d e) (e1 : w'.heap[Ba]? = w.heap[Ba]?) : Cel w' Ba a v d e :=
  ⟨by rw [World.cell?_of_block (w := w) e1]; exact h.c0, by rw [World.cell?_of_block (w := w) e1]; exact h.c1, by rw [World.cell?_of_block (w := w) e1]; exact h.c2, by rw [World.cell?_of_block (w := w) e1]; exact h.c3, by rw [World.cell?_of_block (w := w) e1]; exact h.c4, by rw [World.cell?_of_block (w := w) e1]; exact h.c5, fun j => by rw [World.frozen?_of_block (w := w) e1]; exact h.fz j⟩
theorem Cel.lt {w : World} {Ba : Nat} {a v d e : Value} (h : Cel w Ba a v d e) : Ba < w.heap.size := cell_lt h.c0
theorem Cel.set0 {w : World} {Ba : Nat} {a v d e : Value} (h : Cel w Ba a v d e) (u : Value) : Cel (w.setCell ⟨Ba, 0, none⟩ u) Ba u v d e :=
  ⟨World.cell?_setCell_same _ _ _ h.c0, by rw [World.cell?_setCell_other _ _ _ _ (by simp)]; exact h.c1, by rw [World.cell?_setCell_other _ _ _ _ (by simp)]; exact h.c2, by rw [World.cell?_setCell_other _ _ _ _ (by simp)]; exact h.c3, by rw [World.cell?_setCell_other _ _ _ _ (by simp)]; exact h.c4, by rw [World.cell?_setCell_other _ _ _ _ (by simp)]; exact h.c5, fun j => by rw [World.frozen?_setCell]; exact h.fz j⟩
theorem Cel.set1 {w : World} {Ba : Nat} {a v d e : Value} (h : Cel w Ba a v d e) (u : Value) : Cel (w.setCell ⟨Ba, 1, none⟩ u) Ba a u d e :=
  ⟨by rw [World.cell?_setCell_other _ _ _ _ (by simp)]; exact h.c0, World.cell?_setCell_same _ _ _ h.c1, by rw [World.cell?_setCell_other _ _ _ _ (by simp)]; exact h.c2, by rw [World.cell?_setCell_other _ _ _ _ (by simp)]; exact h.c3, by rw [World.cell?_setCell_other _ _ _ _ (by simp)]; exact h.c4, by rw [World.cell?_setCell_other _ _ _ _ (by simp)]; exact h.c5, fun j => by rw [World.frozen?_setCell]; exact h.fz j⟩
theorem Cel.set2 {w : World} {Ba : Nat} {a v d e : Value} (h : Cel w Ba a v d e) (u : Value) : Cel (w.setCell ⟨Ba, 2, none⟩ u) Ba a v u e :=
  ⟨by rw [World.cell?_setCell_other _ _ _ _ (by simp)]; exact h.c0, by rw [World.cell?_setCell_other _ _ _ _ (by simp)]; exact h.c1, World.cell?_setCell_same _ _ _ h.c2, by rw [World.cell?_setCell_other _ _ _ _ (by simp)]; exact h.c3, by rw [World.cell?_setCell_other _ _ _ _ (by simp)]; exact h.c4, by rw [World.cell?_setCell_other _ _ _ _ (by simp)]; exact h.c5, fun j => by rw [World.frozen?_setCell]; exact h.fz j⟩
theorem Cel.set3 {w : World} {Ba : Nat} {a v d e : Value} (h : Cel w Ba a v d e) (u : Value) : Cel (w.setCell ⟨Ba, 3, none⟩ u) Ba a v d u :=
  ⟨by rw [World.cell?_setCell_other _ _ _ _ (by simp)]; exact h.c0, by rw [World.cell?_setCell_other _ _ _ _ (by simp)]; exact h.c1, by rw [World.cell?_setCell_other _ _ _ _ (by simp)]; exact h.c2, World.cell?_setCell_same _ _ _ h.c3, by rw [World.cell?_setCell_other _ _ _ _ (by simp)]; exact h.c4, by rw [World.cell?_setCell_other _ _ _ _ (by simp)]; exact h.c5, fun j => by rw [World.frozen?_setCell]; exact h.fz j⟩
end Go.Proofs.YtoaaeamogpdcgaaDoor
