/-
  Truths in a block of six; the relations of the loops of TicketCell.
-/
import Derived.Test.YtdegfadahlcgnaaDoorOrd
namespace Go.Proofs.YtdegfadahlcgnaaDoor
open Go.RowKit

/-- Truths in a block. -/
def HeldAt (w : World) (h N : Nat) (f : Nat → Bool) : Prop := (∀ j, j < N → w.cell? ⟨h, j, none⟩ = some (.bool (f j))) ∧ (∀ j, w.frozen? ⟨h, j, none⟩ = false) ∧ h < w.heap.size
theorem HeldAt.congr {w : World} {h N : Nat} {f f' : Nat → Bool} (H : HeldAt w h N f) (e : ∀ j, j < N → f j = f' j) : HeldAt w h N f' := ⟨fun j hj => by rw [← e j hj]; exact H.1 j hj, H.2⟩
theorem HeldAt.same {w w' : World} {h N : Nat} {f : Nat → Bool} (H : HeldAt w h N f) (e : w'.heap[h]? = w.heap[h]?) (hs : w.heap.size ≤ w'.heap.size) : HeldAt w' h N f :=
  ⟨fun j hj => by rw [World.cell?_of_block (w := w) e]; exact H.1 j hj, fun j => by rw [World.frozen?_of_block (w := w) e]; exact H.2.1 j, Nat.lt_of_lt_of_le H.2.2 hs⟩
theorem HeldAt.chg {S : Nat → Prop} {w w' : World} {h N : Nat} {f : Nat → Bool} (H : HeldAt w h N f) (hC : Chg S w w') (hS : ¬ S h) : HeldAt w' h N f := H.same (hC.block _ H.2.2 hS) hC.size
theorem HeldAt.keep {w w' : World} {h N : Nat} {f : Nat → Bool} (H : HeldAt w h N f) (hB : Below w.heap.size w w') : HeldAt w' h N f := H.same (hB.block _ H.2.2) hB.size
theorem HeldAt.set {w : World} {h N : Nat} {f : Nat → Bool} (H : HeldAt w h N f) (j : Nat) (b : Bool) (hj : j < N) : HeldAt (w.setCell ⟨h, j, none⟩ (.bool b)) h N (upd f j b) := by
  refine ⟨fun i hi => ?_, fun i => by rw [World.frozen?_setCell]; exact H.2.1 i, by simpa using H.2.2⟩
  by_cases e : i = j
  · subst e; rw [upd_same]; exact World.cell?_setCell_same _ _ _ (H.1 i hi)
  · rw [upd_other e, World.cell?_setCell_other _ _ _ _ (by simp)]; exact H.1 i hi
/-- Up to j the new ones, from j on the old ones. -/
def mix (j : Nat) (f' f : Nat → Bool) (x : Nat) : Bool := if x < j then f' x else f x
theorem HeldAt.at {w : World} {h N j : Nat} {f' f : Nat → Bool} (H : HeldAt w h N (mix j f' f)) (hj : j < N) : w.cell? ⟨h, j, none⟩ = some (.bool (f j)) := by
  have := H.1 j hj
  unfold mix at this
  rw [if_neg (by omega)] at this
  exact this
theorem HeldAt.step {w : World} {h N j : Nat} {f' f : Nat → Bool} (H : HeldAt w h N (mix j f' f)) (hj : j < N) (b : Bool) (hb : f' j = b) : HeldAt (w.setCell ⟨h, j, none⟩ (.bool b)) h N (mix (j + 1) f' f) :=
  (H.set j b hj).congr fun x _ => by
    unfold upd mix
    by_cases e : x = j
    · subst e; rw [if_pos rfl, if_pos (by omega)]; exact hb.symm
    · rw [if_neg e]
      by_cases e2 : x < j
      · rw [if_pos e2, if_pos (by omega)]
      · rw [if_neg e2, if_neg (by omega)]
theorem HeldAt.still {w : World} {h N j : Nat} {f' f : Nat → Bool} (H : HeldAt w h N (mix j f' f)) (e0 : f' j = f j) : HeldAt w h N (mix (j + 1) f' f) := H.congr fun x _ => by
  unfold mix
  by_cases e : x = j
  · subst e; rw [if_neg (by omega), if_pos (by omega)]; exact e0.symm
  · by_cases e2 : x < j
    · rw [if_pos e2, if_pos (by omega)]
    · rw [if_neg e2, if_neg (by omega)]
theorem HeldAt.all {w : World} {h N : Nat} {f' f : Nat → Bool} (H : HeldAt w h N (mix N f' f)) : HeldAt w h N f' := H.congr fun x hx => by unfold mix; rw [if_pos hx]
theorem HeldAt.none {w : World} {h N : Nat} {f' f : Nat → Bool} (H : HeldAt w h N f) : HeldAt w h N (mix 0 f' f) := H.congr fun x hx => by unfold mix; rw [if_neg (by omega)]
def bools6 : Array Value := #[.bool false, .bool false, .bool false, .bool false, .bool false, .bool false]
theorem held_new (w : World) (N : Nat) (hN : N ≤ 6) (t : TypeId) : HeldAt (w.alloc (.cells bools6 t)) w.heap.size N (fun _ => false) := by
  refine ⟨fun j hj => al_new _ _ _ _ _ rfl ?_, fun j => frozen_at _ _ _ _ _ rfl, by simp⟩
  have : j = 0 ∨ j = 1 ∨ j = 2 ∨ j = 3 ∨ j = 4 ∨ j = 5 := by omega
  rcases this with rfl | rfl | rfl | rfl | rfl | rfl <;> rfl
theorem holds_first (a c x : Int) : (tk0 a c x).holds = false := by rcases tk0_ph a c x with h | h <;> exact holds_not (by omega)
theorem turn_first (N : Nat) (T : Nat → Int) (q : Int) (hq : 0 ≤ q ∧ q < 4294967296) : turnS N (sy0 T q) = q := by
  unfold turnS
  rw [cntN_none (p := Tk.holds) (l := (sy0 T q).l) (k := N) fun i _ => holds_first _ _ _]
  show (q + 0) % 4294967296 = q
  omega
theorem left_first (T : Nat → Int) (q : Int) : leftS q (sy0 T q) = 0 := by
  unfold leftS
  show (q - q) % 4294967296 = 0
  omega
/-- The loop over the picks. -/
def CellRel (m : Mc) (s : Sy) (c d : Int) (p : Nat → Int) (L N : Nat) (q : Int) (w : World) (le i : Value) (wr : World) : Prop :=
  ∃ (k : Nat) (c' : Int), k ≤ L ∧ k ≤ 200 ∧ i = .int .i64 k ∧ le = .int .u32 (leftS q (s.runI 3 N p k)) ∧ c ≤ c' ∧ c' ≤ c + d * k ∧ Sys wr m (s.runI 3 N p k) c' ∧ Chg m.own w wr
theorem cellRel_next {m : Mc} {s : Sy} {c c1 c2 d q x : Int} {p : Nat → Int} {k L N : Nat} {w wr w2 : World} (hk : k < L) (hk2 : k < 200) (h1 : c ≤ c1 ∧ c1 ≤ c + d * k) (h3 : c1 ≤ c2 ∧ c2 ≤ c1 + d) (hx : x = leftS q (s.runI 3 N p (k + 1))) (hC : Chg m.own w wr) (hC2 : Chg m.own wr w2)
    (hS : Sys w2 m (s.runI 3 N p (k + 1)) c2) : CellRel m s c d p L N q w (.int .u32 x) (.int .i64 ((k : Int) + 1)) w2 := by
  have e : d * ((k + 1 : Nat) : Int) = d * k + d := by rw [Int.natCast_add, Int.mul_add]; simp
  exact ⟨k + 1, c2, by omega, by omega, by go_num, by rw [hx], by omega, by rw [e]; omega, hS, hC.trans hC2⟩
/-- Whether one of the first k holds, as a number. -/
def holdN (l : Nat → Tk) (k : Nat) : Int := if cntN Tk.holds l k = 0 then 0 else 1
theorem holdN_rng (l : Nat → Tk) (k : Nat) : 0 ≤ holdN l k ∧ holdN l k ≤ 1 := by unfold holdN; split <;> omega
theorem holdN_next (l : Nat → Tk) (k : Nat) : holdN l (k + 1) = if (l k).holds then 1 else holdN l k := by
  have e : cntN Tk.holds l (k + 1) = cntN Tk.holds l k + if (l k).holds then 1 else 0 := rfl
  unfold holdN
  by_cases h : (l k).holds = true
  · rw [if_pos h] at e
    rw [if_pos h, if_neg (by omega)]
  · rw [if_neg h] at e
    rw [if_neg h, e]
    rfl
theorem PickO.top {q : Int} {N : Nat} {i : Int} {s s' : Sy} (h : PickO q N i s s') : s'.f 2 ≤ leftS q s' + holdN s'.l N := by
  unfold holdN
  split
  · rename_i h0; have := h.hi h0; omega
  · have := h.lo; omega
/-- The loop that tells who held. -/
def WasIn (N h : Nat) (s : Sy) (w : World) (j : Value) (wr : World) : Prop :=
  ∃ k : Nat, k ≤ N ∧ j = .int .i64 k ∧ HeldAt wr h N (mix k (fun x => (s.l x).holds) (fun _ => false)) ∧ Chg (fun x => x = h) w wr
theorem chgH {h j : Nat} {w wr : World} (hC : Chg (fun x => x = h) w wr) (v : Value) : Chg (fun x => x = h) w (wr.setCell ⟨h, j, none⟩ v) := hC.set (a := ⟨h, j, none⟩) rfl v
/-- A new block changes nothing that there was. -/
theorem chgN {S : Nat → Prop} {h : Nat} {w w1 w2 : World} (hB : Below w.heap.size w w1) (hC : Chg (fun x => x = h) w1 w2) (hh : w.heap.size ≤ h) : Chg S w w2 :=
  ⟨hC.os.trans hB.os, hC.tape.trans hB.tape, hC.output.trans hB.output, Nat.le_trans hB.size hC.size, fun k hk _ => (hC.block k (Nat.lt_of_lt_of_le hk hB.size) (by omega)).trans (hB.block k hk)⟩
theorem Sys.beside {w w' : World} {m : Mc} {s : Sy} {c : Int} {h : Nat} (hS : Sys w m s c) (hC : Chg (fun x => x = h) w w') (hh : ¬ m.own h) (h6 : 6 ≤ h) : Sys w' m s c :=
  hS.else hC (fun k hk => by subst hk; exact hh) (hC.six (fun k hk => by omega) hS.gok)
end Go.Proofs.YtdegfadahlcgnaaDoor
