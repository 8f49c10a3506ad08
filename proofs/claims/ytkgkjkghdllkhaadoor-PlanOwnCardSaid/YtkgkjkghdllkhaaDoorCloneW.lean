/-
  slices.Clone of channels, pairs, windows, semaphores and numbers: the same elements in a row of its own; what of a copy may be written.
-/
import Derived.Test.YtkgkjkghdllkhaaDoorDecD
import Derived.Deep.AppendLies
import Derived.Laws.IdiomStrings
import Derived.Lib.SliceRun
import Derived.Deep.OwnRows
namespace Go.Proofs.YtkgkjkghdllkhaaDoor.cp
open Go.RowKit

/-- What a call leaves that only makes memory: what was there is as it was. -/
theorem below_two {w w1 w2 : World} (h1 : Below w.heap.size w w1) (h2 : Below w1.heap.size w1 w2) : Below w.heap.size w w2 := h1.trans (h2.mono h1.size)
theorem below_box {w w1 w2 : World} {v : Array Value} {t : Nat} (h1 : Below w.heap.size w w1) (h2 : Below (w1.alloc (.cells v t)).heap.size (w1.alloc (.cells v t)) w2) : Below w.heap.size w w2 :=
  below_two h1 (((Below.refl _ _).alloc (Nat.le_refl _) _).trans (h2.mono (by simp)))

theorem bcell {W w1 : World} (hb : Below W.heap.size W w1) : (∀ b o, b < W.heap.size → w1.cell? ⟨b, o, none⟩ = W.cell? ⟨b, o, none⟩) ∧ (∀ b o, b < W.heap.size → w1.frozen? ⟨b, o, none⟩ = W.frozen? ⟨b, o, none⟩) :=
  ⟨fun b o h => hb.cell (p := ⟨b, o, none⟩) h, fun b o h => hb.frozen (p := ⟨b, o, none⟩) h⟩
theorem kept {w w' : World} {b o : Nat} {v : Value} (h : w.cell? ⟨b, o, none⟩ = some v) (hb : Below w.heap.size w w') : w'.cell? ⟨b, o, none⟩ = some v := by
  rw [hb.cell (p := ⟨b, o, none⟩) (cell_lt' h)]; exact h

/-- Of the blocks below B only g may have changed. -/
structure Only (g B : Nat) (w w' : World) : Prop where
  os : w'.os = w.os
  tape : w'.tape = w.tape
  output : w'.output = w.output
  size : w.heap.size ≤ w'.heap.size
  block : ∀ k, k < B → k ≠ g → w'.heap[k]? = w.heap[k]?
theorem Only.refl (g B : Nat) (w : World) : Only g B w w := ⟨rfl, rfl, rfl, Nat.le_refl _, fun _ _ _ => rfl⟩
theorem Only.trans {g B : Nat} {a b c : World} (h : Only g B a b) (k : Only g B b c) : Only g B a c :=
  ⟨k.os.trans h.os, k.tape.trans h.tape, k.output.trans h.output, Nat.le_trans h.size k.size, fun i hi hn => (k.block i hi hn).trans (h.block i hi hn)⟩
theorem Only.mono {g B B' : Nat} {w w' : World} (h : Only g B w w') (hB : B' ≤ B) : Only g B' w w' := ⟨h.os, h.tape, h.output, h.size, fun k hk hn => h.block k (by omega) hn⟩
theorem Only.of_below {g B : Nat} {w w' : World} (h : Below B w w') : Only g B w w' := ⟨h.os, h.tape, h.output, h.size, fun k hk _ => h.block k hk⟩
theorem Only.below {g B B' : Nat} {w w' : World} (h : Only g B w w') (h1 : B' ≤ B) (h2 : B' ≤ g) : Below B' w w' := ⟨h.os, h.tape, h.output, h.size, fun k hk => h.block k (by omega) (by omega)⟩
theorem Only.set {g B o : Nat} {w w' : World} (h : Only g B w w') (v : Value) : Only g B w (w'.setCell ⟨g, o, none⟩ v) :=
  h.trans ⟨rfl, rfl, rfl, by simp, fun k _ hn => Below.heap_setCell _ _ _ _ (by simpa using hn)⟩
/-- Behind a change of block g, a call that only makes memory. -/
theorem Only.then {g : Nat} {w w1 w2 : World} (h : Only g w.heap.size w w1) (hB : Below w1.heap.size w1 w2) : Only g w.heap.size w w2 :=
  h.trans (Only.of_below (hB.mono h.size))
theorem Only.two {g : Nat} {w w1 w2 : World} (h : Only g w.heap.size w w1) (k : Only g w1.heap.size w1 w2) : Only g w.heap.size w w2 := h.trans (k.mono h.size)
theorem Only.kept {g : Nat} {w w' : World} {b o : Nat} {v : Value} (h : Only g w.heap.size w w') (hc : w.cell? ⟨b, o, none⟩ = some v) (hn : b ≠ g) : w'.cell? ⟨b, o, none⟩ = some v := by
  rw [World.cell?_of_block (w := w) (h.block b (cell_lt' hc) hn)]; exact hc
theorem Only.arr {g : Nat} {w w' : World} {A : Option Addr} {C n : Nat} {F : Nat → List Value} (h : Only g w.heap.size w w') (hA : Arr w A C n F) (hn : ∀ b o, A = some ⟨b, o, none⟩ → b ≠ g) : Arr w' A C n F := fun i hi => by
  obtain ⟨b, o, e, hc⟩ := hA i hi
  exact ⟨b, o, e, fun j u hu => h.kept (hc j u hu) (hn b o e)⟩
theorem Only.row {g b t n : Nat} {f : Nat → Value} {w w' : World} (h : Only g w.heap.size w w') (hr : w.rowIs b t n f) (hn : b ≠ g) : w'.rowIs b t n f := hr.of_block (h.block b hr.lt hn)

/-- A plan's five cells in a block of its own, its lengths by themselves. -/
def PBn (W : World) (b : Nat) (fr : Int) (A1 : Option Addr) (n1 c1 : Nat) (A2 : Option Addr) (n2 c2 : Nat) (A3 : Option Addr) (n3 c3 : Nat) (A4 : Option Addr) (n4 c4 : Nat) : Prop :=
  W.cell? ⟨b, 0, none⟩ = some (.int .u16 fr) ∧ W.cell? ⟨b, 1, none⟩ = some (.slice A1 n1 c1) ∧ W.cell? ⟨b, 2, none⟩ = some (.slice A2 n2 c2) ∧ W.cell? ⟨b, 3, none⟩ = some (.slice A3 n3 c3) ∧ W.cell? ⟨b, 4, none⟩ = some (.slice A4 n4 c4)
theorem PBn.keep {W W' : World} {b : Nat} {fr : Int} {A1 : Option Addr} {n1 c1 : Nat} {A2 : Option Addr} {n2 c2 : Nat} {A3 : Option Addr} {n3 c3 : Nat} {A4 : Option Addr} {n4 c4 : Nat} (h : PBn W b fr A1 n1 c1 A2 n2 c2 A3 n3 c3 A4 n4 c4) (hB : Below W.heap.size W W') : PBn W' b fr A1 n1 c1 A2 n2 c2 A3 n3 c3 A4 n4 c4 :=
  ⟨kept h.1 hB, kept h.2.1 hB, kept h.2.2.1 hB, kept h.2.2.2.1 hB, kept h.2.2.2.2 hB⟩
theorem PBn.new (W : World) (fr : Int) (A1 : Option Addr) (n1 c1 : Nat) (A2 : Option Addr) (n2 c2 : Nat) (A3 : Option Addr) (n3 c3 : Nat) (A4 : Option Addr) (n4 c4 : Nat) :
    PBn (W.alloc (.cells #[.int .u16 fr, .slice A1 n1 c1, .slice A2 n2 c2, .slice A3 n3 c3, .slice A4 n4 c4] 28)) W.heap.size fr A1 n1 c1 A2 n2 c2 A3 n3 c3 A4 n4 c4 := ⟨by simp, by simp, by simp, by simp, by simp⟩
theorem PBn.alloc {W : World} {b : Nat} {fr : Int} {A1 : Option Addr} {n1 c1 : Nat} {A2 : Option Addr} {n2 c2 : Nat} {A3 : Option Addr} {n3 c3 : Nat} {A4 : Option Addr} {n4 c4 : Nat} (h : PBn W b fr A1 n1 c1 A2 n2 c2 A3 n3 c3 A4 n4 c4) (o : Obj) : PBn (W.alloc o) b fr A1 n1 c1 A2 n2 c2 A3 n3 c3 A4 n4 c4 := h.keep ((Below.refl _ _).alloc (Nat.le_refl _) _)
theorem PBn.only {g : Nat} {W W' : World} {b : Nat} {fr : Int} {A1 : Option Addr} {n1 c1 : Nat} {A2 : Option Addr} {n2 c2 : Nat} {A3 : Option Addr} {n3 c3 : Nat} {A4 : Option Addr} {n4 c4 : Nat} (h : PBn W b fr A1 n1 c1 A2 n2 c2 A3 n3 c3 A4 n4 c4) (hB : Only g W.heap.size W W') (hn : b ≠ g) : PBn W' b fr A1 n1 c1 A2 n2 c2 A3 n3 c3 A4 n4 c4 :=
  ⟨hB.kept h.1 hn, hB.kept h.2.1 hn, hB.kept h.2.2.1 hn, hB.kept h.2.2.2.1 hn, hB.kept h.2.2.2.2 hn⟩

theorem arr_own {w : World} {base E C n c : Nat} {A : Option Addr} {xs : List Value} (h : w.ownsRow base E C (.slice A n c) n xs) (F : Nat → List Value) (hF : ∀ i j u, i < n → (F i)[j]? = some u → xs[i * C + j]? = some u) : Arr w A C n F := fun i hi => by
  rcases h.2 with ⟨e, hn⟩ | ⟨g, cap, cur, e, _, hg, _⟩
  · omega
  · injection e with e1 e2 e3
    subst e1
    refine ⟨g, 0, rfl, fun j u hu => ?_⟩
    have := World.ownsRow.cells h (g := g) rfl (i * C + j) u (hF i j u hi hu)
    rw [add_lit] at this
    rw [Nat.add_assoc]
    exact this
/-- A list of a call's own is a slice. -/
theorem own_form {w : World} {base E C n : Nat} {v : Value} {xs : List Value} (h : w.ownsRow base E C v n xs) : ∃ A c, v = .slice A n c := by
  rcases h.2 with ⟨e, hn⟩ | ⟨g, cap, cur, e, _, _, _⟩
  · subst hn; exact ⟨_, _, e⟩
  · exact ⟨_, _, e⟩

/-- What lies at A lies in a block from base on, and may be written. -/
def Loose (base : Nat) (w : World) (A : Option Addr) : Prop := ∀ b o, A = some ⟨b, o, none⟩ → base ≤ b ∧ b < w.heap.size ∧ ∀ j, w.frozen? ⟨b, j, none⟩ = false
theorem frozen_block {w w' : World} {b j : Nat} (h : w'.heap[b]? = w.heap[b]?) : w'.frozen? ⟨b, j, none⟩ = w.frozen? ⟨b, j, none⟩ := by
  unfold World.frozen?
  rw [h]
theorem Loose.move {base : Nat} {w w' : World} {A : Option Addr} (h : Loose base w A) (e : ∀ b o, A = some ⟨b, o, none⟩ → w'.heap[b]? = w.heap[b]?) : Loose base w' A := fun b o ha => by
  obtain ⟨h1, h2, h3⟩ := h b o ha
  have h4 := e b o ha
  rw [Array.getElem?_eq_getElem h2] at h4
  exact ⟨h1, (Array.getElem?_eq_some_iff.1 h4).1, fun j => (frozen_block (e b o ha)).trans (h3 j)⟩
theorem Loose.keep {base : Nat} {w w' : World} {A : Option Addr} (h : Loose base w A) (hB : Below w.heap.size w w') : Loose base w' A := h.move fun b o e => hB.block b (h b o e).2.1
theorem Loose.base {b1 b2 : Nat} {w : World} {A : Option Addr} (h : Loose b1 w A) (hb : b2 ≤ b1) : Loose b2 w A := fun b o ha => ⟨Nat.le_trans hb (h b o ha).1, (h b o ha).2⟩
theorem own_loose {w : World} {base E C n c : Nat} {A : Option Addr} {xs : List Value} (h : w.ownsRow base E C (.slice A n c) n xs) : Loose base w A := fun b o hA => by
  rcases h.2 with ⟨e, e2⟩ | ⟨g, cap, cur, e, hb, hg, hle, _⟩
  · injection e with e1 _ _
    rw [e1] at hA; cases hA
  · injection e with e1 _ _
    rw [e1] at hA
    injection hA with hA
    injection hA with h1 h2 _
    subst h1
    exact ⟨hb, (Array.getElem?_eq_some_iff.1 hg).1, fun j => frozen_of_row _ _ _ _ _ hg⟩
/-- The cores and partitions of a copy: what may be written of them. -/
def CoresL (base : Nat) (w : World) (A : Option Addr) (cs : List (List WinA)) : Prop :=
  ∃ P : Nat → Option Addr × Nat, Arr w A 1 cs.length (fun i => [slV (P i) (cs.getD i []).length]) ∧ ∀ i, i < cs.length → WinsAt w (P i).1 (cs.getD i []) ∧ Loose base w (P i).1
def PartsL (base : Nat) (w : World) (A : Option Addr) (ps : List PartA) : Prop :=
  ∃ S P : Nat → Option Addr × Nat, Arr w A 6 ps.length (fun i => partV (ps.getD i dQ) (S i) (P i)) ∧ ∀ i, i < ps.length → (SemsAt w (S i).1 (ps.getD i dQ).1 ∧ BytesAt w (P i).1 (ps.getD i dQ).2.2.1 ∧ ((P i).1 = none → (P i).2 = 0)) ∧ Loose base w (S i).1 ∧ Loose base w (P i).1
theorem CoresL.at' {base : Nat} {w : World} {A : Option Addr} {cs : List (List WinA)} (h : CoresL base w A cs) : CoresAt w A cs := by
  obtain ⟨P, h1, h2⟩ := h
  exact ⟨P, h1, fun i hi => (h2 i hi).1⟩
theorem PartsL.at' {base : Nat} {w : World} {A : Option Addr} {ps : List PartA} (h : PartsL base w A ps) : PartsAt w A ps := by
  obtain ⟨S, P, h1, h2⟩ := h
  exact ⟨S, P, h1, fun i hi => (h2 i hi).1⟩
theorem flat_get {α : Type} (f : α → List Value) (C : Nat) (d : α) (l : List α) (hl : ∀ x ∈ l, (f x).length = C) (i j : Nat) (hi : i < l.length) (hj : j < C) : (l.flatMap f)[i * C + j]? = (f (l.getD i d))[j]? := by
  induction l generalizing i with
  | nil => simp at hi
  | cons x r ih =>
    have hx := hl x List.mem_cons_self
    cases i with
    | zero =>
      rw [List.flatMap_cons, List.getElem?_append_left (by omega)]
      simp
    | succ i =>
      rw [List.flatMap_cons, List.getElem?_append_right (by rw [hx]; simp [Nat.succ_mul]; omega), hx, show (i + 1) * C + j - C = i * C + j by rw [Nat.succ_mul]; omega]
      rw [ih (fun y hy => hl y (List.mem_cons_of_mem _ hy)) i (by simpa using hi)]
      simp
theorem flat_len {α : Type} (f : α → List Value) (C : Nat) (l : List α) (hl : ∀ x, (f x).length = C) : (l.flatMap f).length = l.length * C := by
  induction l with
  | nil => simp
  | cons x r ih => rw [List.flatMap_cons, List.length_append, ih, List.length_cons, hl, Nat.succ_mul]; omega
theorem arr_flat {α : Type} {w : World} {base E C c : Nat} {A : Option Addr} {l : List α} {f : α → List Value} {d : α} (h : w.ownsRow base E C (.slice A l.length c) l.length (l.flatMap f)) (hf : ∀ x, (f x).length = C) : Arr w A C l.length fun i => f (l.getD i d) :=
  arr_own h _ fun i j u hi hu => by
    have hj : j < C := by
      have := (List.getElem?_eq_some_iff.1 hu).1
      rw [hf] at this
      exact this
    rw [flat_get f C d l (fun x _ => hf x) i j hi hj]
    exact hu
theorem add_off (b o j : Nat) : (⟨b, o, none⟩ : Addr).add j = ⟨b, o + j, none⟩ := by cases j <;> simp [Addr.add]
/-- The cells of some elements. -/
theorem arr_news {α : Type} {w : World} {b o C : Nat} {l : List α} {f : α → List Value} {d : α} (hC : 0 < C) (hf : ∀ x, (f x).length = C) (h : Arr w (some ⟨b, o, none⟩) C l.length fun i => f (l.getD i d)) : ∀ j u, (l.flatMap f)[j]? = some u → w.cell? ((⟨b, o, none⟩ : Addr).add j) = some u := by
  intro j u hu
  have hj : j < l.length * C := by rw [← flat_len f C l hf]; exact (List.getElem?_eq_some_iff.1 hu).1
  have hdm := Nat.div_add_mod j C
  have hm := Nat.mod_lt j hC
  have hd : j / C < l.length := (Nat.div_lt_iff_lt_mul hC).2 hj
  have e : j = (j / C) * C + j % C := by rw [Nat.mul_comm]; exact hdm.symm
  rw [e, flat_get f C d l (fun x _ => hf x) (j / C) (j % C) hd hm] at hu
  rw [add_off, e, ← Nat.add_assoc]
  exact Arr.at h hd hu
/-- A list of its own, in cells. -/
def CloneP (E C : Nat) (xs : List Value) (n : Nat) (w : World) (e : Ending) (w' : World) : Prop := ∃ v, e = .returned v ∧ w'.ownsRow w.heap.size E C v n xs ∧ Below w.heap.size w w'

theorem info60 : (Tryd.prog.info? 60).map (fun i => (i.zero, i.size, i.bytes)) = some (some (.agg #[.int .u8 0, .int .u8 0, .int .u8 0, .int .u8 0, .int .u8 0, .int .u16 0]), 6, 8) := by kernel_rfl
set_option maxHeartbeats 1000000 in
theorem clone60 (A : Option Addr) (c : Nat) (l : List ChanA) (w : World) (hA : Arr w A 6 l.length fun i => chanV (l.getD i dC)) (hn : l.length ≤ 1000000) :
    Calls Tryd.prog 39 #[.slice A l.length c] w fun e w' => CloneP 60 6 (l.flatMap chanV) l.length w e w' := by
  have q23 := fun (w : World) (a : Option Addr) (n c n' c' : Nat) => Lib.run_eql_slice_nil (P := Tryd.prog) w 25 60 a n c n' c' Tryd.underlying25
  cases A with
  | none =>
    have h0 : l = [] := by
      cases l with
      | nil => rfl
      | cons x r => obtain ⟨_, _, e⟩ := Arr.head hA (i := 0) (by simp); cases e
    subst h0
    clear hA
    go_enter Tryd.func39, Tryd.ntmps39
    go_wp2_with fail
    go_ret
    exact ⟨_, rfl, World.ownsRow_nil _ _ _ _, Below.refl _ _⟩
  | some a =>
    obtain ⟨i0, hi, hz0, hz1, hz2⟩ := info_parts info60
    have hown : (w.alloc (.cells #[] 60)).ownsRow w.heap.size 60 6 (.slice (some ⟨w.heap.size, 0, none⟩) 0 0) 0 [] := World.ownsRow_lit w #[] 0 (Nat.le_refl _) (by decide) rfl
    have hB : Below w.heap.size w (w.alloc (.cells #[] 60)) := (Below.refl _ _).alloc (Nat.le_refl _) _
    have hnews : ∀ j u, (l.flatMap chanV)[j]? = some u → (w.alloc (.cells #[] 60)).cell? (a.add j) = some u := by
      intro j u hu
      have hl0 : 0 < l.length := by
        cases l with
        | nil => simp at hu
        | cons x r => simp
      obtain ⟨b, o, e⟩ := Arr.head hA hl0
      have e := Option.some.inj e
      subst e
      exact arr_news (by omega : 0 < 6) (fun _ => rfl) (Arr.keep hA hB) j u hu
    have hlen := flat_len chanV 6 l (fun _ => rfl)
    obtain ⟨n, hnn⟩ : ∃ n, n = l.length := ⟨_, rfl⟩
    obtain ⟨xs, hxs⟩ : ∃ xs, xs = l.flatMap chanV := ⟨_, rfl⟩
    have hone : ∀ u ∈ xs, u.oneCell' = true := by
      intro u hu
      rw [hxs] at hu
      obtain ⟨x, _, hu⟩ := List.mem_flatMap.1 hu
      simp [chanV] at hu
      rcases hu with rfl | rfl | rfl | rfl | rfl | rfl <;> rfl
    rw [← hxs] at hnews hlen ⊢
    rw [← hnn] at hn hlen ⊢
    have HNW := Lib.hid hnews
    have HB := Lib.hid hB
    have HLN := Lib.hid hlen
    have HON := Lib.hid hone
    clear hA hB hnews hlen hone hnn hxs
    go_enter Tryd.func39, Tryd.ntmps39
    go_wp2_with (at_builtin; refine wpList_append_own _ rfl _ _ 25 rfl w.heap.size 60 i0 (.agg #[.int .u8 0, .int .u8 0, .int .u8 0, .int .u8 0, .int .u8 0, .int .u16 0]) 6 8 Tryd.underlying25 hi hz0 hz1 hz2 rfl (by decide) _ _ _ rfl hown a n c xs rfl ?c0 ?c1 ?c2 ?c3 ?c4 ?c5 ?_)
    case c0 => exact HLN.out
    case c1 => exact HNW.out
    case c2 => exact HON.out
    case c3 => unfold maxLen; simp; omega
    case c4 => simp; omega
    case c5 => simp
    intro v' w1 hown' hgrow _
    have hO : w1.ownsRow w.heap.size 60 6 v' n xs := by simpa using hown'
    have HO := Lib.hid hO
    have HB1 := Lib.hid (HB.out.grown hgrow (by simp) (fun k hk => (World.ownsRow.lt hown k hk).1))
    clear hown' hgrow hown hO
    go_wp2
    go_ret
    exact ⟨_, rfl, HO.out, HB1.out⟩

theorem info62 : (Tryd.prog.info? 62).map (fun i => (i.zero, i.size, i.bytes)) = some (some (.agg #[.int .u8 0, .int .u8 0]), 2, 2) := by kernel_rfl
set_option maxHeartbeats 1000000 in
theorem clone62 (A : Option Addr) (c : Nat) (l : List PairA) (w : World) (hA : Arr w A 2 l.length fun i => semV (l.getD i dS)) (hn : l.length ≤ 1000000) :
    Calls Tryd.prog 40 #[.slice A l.length c] w fun e w' => CloneP 62 2 (l.flatMap semV) l.length w e w' := by
  have q23 := fun (w : World) (a : Option Addr) (n c n' c' : Nat) => Lib.run_eql_slice_nil (P := Tryd.prog) w 26 62 a n c n' c' Tryd.underlying26
  cases A with
  | none =>
    have h0 : l = [] := by
      cases l with
      | nil => rfl
      | cons x r => obtain ⟨_, _, e⟩ := Arr.head hA (i := 0) (by simp); cases e
    subst h0
    clear hA
    go_enter Tryd.func40, Tryd.ntmps40
    go_wp2_with fail
    go_ret
    exact ⟨_, rfl, World.ownsRow_nil _ _ _ _, Below.refl _ _⟩
  | some a =>
    obtain ⟨i0, hi, hz0, hz1, hz2⟩ := info_parts info62
    have hown : (w.alloc (.cells #[] 62)).ownsRow w.heap.size 62 2 (.slice (some ⟨w.heap.size, 0, none⟩) 0 0) 0 [] := World.ownsRow_lit w #[] 0 (Nat.le_refl _) (by decide) rfl
    have hB : Below w.heap.size w (w.alloc (.cells #[] 62)) := (Below.refl _ _).alloc (Nat.le_refl _) _
    have hnews : ∀ j u, (l.flatMap semV)[j]? = some u → (w.alloc (.cells #[] 62)).cell? (a.add j) = some u := by
      intro j u hu
      have hl0 : 0 < l.length := by
        cases l with
        | nil => simp at hu
        | cons x r => simp
      obtain ⟨b, o, e⟩ := Arr.head hA hl0
      have e := Option.some.inj e
      subst e
      exact arr_news (by omega : 0 < 2) (fun _ => rfl) (Arr.keep hA hB) j u hu
    have hlen := flat_len semV 2 l (fun _ => rfl)
    obtain ⟨n, hnn⟩ : ∃ n, n = l.length := ⟨_, rfl⟩
    obtain ⟨xs, hxs⟩ : ∃ xs, xs = l.flatMap semV := ⟨_, rfl⟩
    have hone : ∀ u ∈ xs, u.oneCell' = true := by
      intro u hu
      rw [hxs] at hu
      obtain ⟨x, _, hu⟩ := List.mem_flatMap.1 hu
      simp [semV] at hu
      rcases hu with rfl | rfl <;> rfl
    rw [← hxs] at hnews hlen ⊢
    rw [← hnn] at hn hlen ⊢
    have HNW := Lib.hid hnews
    have HB := Lib.hid hB
    have HLN := Lib.hid hlen
    have HON := Lib.hid hone
    clear hA hB hnews hlen hone hnn hxs
    go_enter Tryd.func40, Tryd.ntmps40
    go_wp2_with (at_builtin; refine wpList_append_own _ rfl _ _ 26 rfl w.heap.size 62 i0 (.agg #[.int .u8 0, .int .u8 0]) 2 2 Tryd.underlying26 hi hz0 hz1 hz2 rfl (by decide) _ _ _ rfl hown a n c xs rfl ?c0 ?c1 ?c2 ?c3 ?c4 ?c5 ?_)
    case c0 => exact HLN.out
    case c1 => exact HNW.out
    case c2 => exact HON.out
    case c3 => unfold maxLen; simp; omega
    case c4 => simp; omega
    case c5 => simp
    intro v' w1 hown' hgrow _
    have hO : w1.ownsRow w.heap.size 62 2 v' n xs := by simpa using hown'
    have HO := Lib.hid hO
    have HB1 := Lib.hid (HB.out.grown hgrow (by simp) (fun k hk => (World.ownsRow.lt hown k hk).1))
    clear hown' hgrow hown hO
    go_wp2
    go_ret
    exact ⟨_, rfl, HO.out, HB1.out⟩

theorem info51 : (Tryd.prog.info? 51).map (fun i => (i.zero, i.size, i.bytes)) = some (some (.agg #[.int .u16 0, .int .u16 0, .int .u8 0, .int .u8 0]), 4, 6) := by kernel_rfl
set_option maxHeartbeats 1000000 in
theorem clone51 (A : Option Addr) (c : Nat) (l : List WinA) (w : World) (hA : Arr w A 4 l.length fun i => winV (l.getD i dW)) (hn : l.length ≤ 1000000) :
    Calls Tryd.prog 41 #[.slice A l.length c] w fun e w' => CloneP 51 4 (l.flatMap winV) l.length w e w' := by
  have q23 := fun (w : World) (a : Option Addr) (n c n' c' : Nat) => Lib.run_eql_slice_nil (P := Tryd.prog) w 49 51 a n c n' c' Tryd.underlying49
  cases A with
  | none =>
    have h0 : l = [] := by
      cases l with
      | nil => rfl
      | cons x r => obtain ⟨_, _, e⟩ := Arr.head hA (i := 0) (by simp); cases e
    subst h0
    clear hA
    go_enter Tryd.func41, Tryd.ntmps41
    go_wp2_with fail
    go_ret
    exact ⟨_, rfl, World.ownsRow_nil _ _ _ _, Below.refl _ _⟩
  | some a =>
    obtain ⟨i0, hi, hz0, hz1, hz2⟩ := info_parts info51
    have hown : (w.alloc (.cells #[] 51)).ownsRow w.heap.size 51 4 (.slice (some ⟨w.heap.size, 0, none⟩) 0 0) 0 [] := World.ownsRow_lit w #[] 0 (Nat.le_refl _) (by decide) rfl
    have hB : Below w.heap.size w (w.alloc (.cells #[] 51)) := (Below.refl _ _).alloc (Nat.le_refl _) _
    have hnews : ∀ j u, (l.flatMap winV)[j]? = some u → (w.alloc (.cells #[] 51)).cell? (a.add j) = some u := by
      intro j u hu
      have hl0 : 0 < l.length := by
        cases l with
        | nil => simp at hu
        | cons x r => simp
      obtain ⟨b, o, e⟩ := Arr.head hA hl0
      have e := Option.some.inj e
      subst e
      exact arr_news (by omega : 0 < 4) (fun _ => rfl) (Arr.keep hA hB) j u hu
    have hlen := flat_len winV 4 l (fun _ => rfl)
    obtain ⟨n, hnn⟩ : ∃ n, n = l.length := ⟨_, rfl⟩
    obtain ⟨xs, hxs⟩ : ∃ xs, xs = l.flatMap winV := ⟨_, rfl⟩
    have hone : ∀ u ∈ xs, u.oneCell' = true := by
      intro u hu
      rw [hxs] at hu
      obtain ⟨x, _, hu⟩ := List.mem_flatMap.1 hu
      simp [winV] at hu
      rcases hu with rfl | rfl | rfl | rfl <;> rfl
    rw [← hxs] at hnews hlen ⊢
    rw [← hnn] at hn hlen ⊢
    have HNW := Lib.hid hnews
    have HB := Lib.hid hB
    have HLN := Lib.hid hlen
    have HON := Lib.hid hone
    clear hA hB hnews hlen hone hnn hxs
    go_enter Tryd.func41, Tryd.ntmps41
    go_wp2_with (at_builtin; refine wpList_append_own _ rfl _ _ 49 rfl w.heap.size 51 i0 (.agg #[.int .u16 0, .int .u16 0, .int .u8 0, .int .u8 0]) 4 6 Tryd.underlying49 hi hz0 hz1 hz2 rfl (by decide) _ _ _ rfl hown a n c xs rfl ?c0 ?c1 ?c2 ?c3 ?c4 ?c5 ?_)
    case c0 => exact HLN.out
    case c1 => exact HNW.out
    case c2 => exact HON.out
    case c3 => unfold maxLen; simp; omega
    case c4 => simp; omega
    case c5 => simp
    intro v' w1 hown' hgrow _
    have hO : w1.ownsRow w.heap.size 51 4 v' n xs := by simpa using hown'
    have HO := Lib.hid hO
    have HB1 := Lib.hid (HB.out.grown hgrow (by simp) (fun k hk => (World.ownsRow.lt hown k hk).1))
    clear hown' hgrow hown hO
    go_wp2
    go_ret
    exact ⟨_, rfl, HO.out, HB1.out⟩

theorem info58 : (Tryd.prog.info? 58).map (fun i => (i.zero, i.size, i.bytes)) = some (some (.agg #[.int .u8 0, .int .u8 0]), 2, 2) := by kernel_rfl
set_option maxHeartbeats 1000000 in
theorem clone58 (A : Option Addr) (c : Nat) (l : List SemA) (w : World) (hA : Arr w A 2 l.length fun i => semV (l.getD i dS)) (hn : l.length ≤ 1000000) :
    Calls Tryd.prog 42 #[.slice A l.length c] w fun e w' => CloneP 58 2 (l.flatMap semV) l.length w e w' := by
  have q23 := fun (w : World) (a : Option Addr) (n c n' c' : Nat) => Lib.run_eql_slice_nil (P := Tryd.prog) w 52 58 a n c n' c' Tryd.underlying52
  cases A with
  | none =>
    have h0 : l = [] := by
      cases l with
      | nil => rfl
      | cons x r => obtain ⟨_, _, e⟩ := Arr.head hA (i := 0) (by simp); cases e
    subst h0
    clear hA
    go_enter Tryd.func42, Tryd.ntmps42
    go_wp2_with fail
    go_ret
    exact ⟨_, rfl, World.ownsRow_nil _ _ _ _, Below.refl _ _⟩
  | some a =>
    obtain ⟨i0, hi, hz0, hz1, hz2⟩ := info_parts info58
    have hown : (w.alloc (.cells #[] 58)).ownsRow w.heap.size 58 2 (.slice (some ⟨w.heap.size, 0, none⟩) 0 0) 0 [] := World.ownsRow_lit w #[] 0 (Nat.le_refl _) (by decide) rfl
    have hB : Below w.heap.size w (w.alloc (.cells #[] 58)) := (Below.refl _ _).alloc (Nat.le_refl _) _
    have hnews : ∀ j u, (l.flatMap semV)[j]? = some u → (w.alloc (.cells #[] 58)).cell? (a.add j) = some u := by
      intro j u hu
      have hl0 : 0 < l.length := by
        cases l with
        | nil => simp at hu
        | cons x r => simp
      obtain ⟨b, o, e⟩ := Arr.head hA hl0
      have e := Option.some.inj e
      subst e
      exact arr_news (by omega : 0 < 2) (fun _ => rfl) (Arr.keep hA hB) j u hu
    have hlen := flat_len semV 2 l (fun _ => rfl)
    obtain ⟨n, hnn⟩ : ∃ n, n = l.length := ⟨_, rfl⟩
    obtain ⟨xs, hxs⟩ : ∃ xs, xs = l.flatMap semV := ⟨_, rfl⟩
    have hone : ∀ u ∈ xs, u.oneCell' = true := by
      intro u hu
      rw [hxs] at hu
      obtain ⟨x, _, hu⟩ := List.mem_flatMap.1 hu
      simp [semV] at hu
      rcases hu with rfl | rfl <;> rfl
    rw [← hxs] at hnews hlen ⊢
    rw [← hnn] at hn hlen ⊢
    have HNW := Lib.hid hnews
    have HB := Lib.hid hB
    have HLN := Lib.hid hlen
    have HON := Lib.hid hone
    clear hA hB hnews hlen hone hnn hxs
    go_enter Tryd.func42, Tryd.ntmps42
    go_wp2_with (at_builtin; refine wpList_append_own _ rfl _ _ 52 rfl w.heap.size 58 i0 (.agg #[.int .u8 0, .int .u8 0]) 2 2 Tryd.underlying52 hi hz0 hz1 hz2 rfl (by decide) _ _ _ rfl hown a n c xs rfl ?c0 ?c1 ?c2 ?c3 ?c4 ?c5 ?_)
    case c0 => exact HLN.out
    case c1 => exact HNW.out
    case c2 => exact HON.out
    case c3 => unfold maxLen; simp; omega
    case c4 => simp; omega
    case c5 => simp
    intro v' w1 hown' hgrow _
    have hO : w1.ownsRow w.heap.size 58 2 v' n xs := by simpa using hown'
    have HO := Lib.hid hO
    have HB1 := Lib.hid (HB.out.grown hgrow (by simp) (fun k hk => (World.ownsRow.lt hown k hk).1))
    clear hown' hgrow hown hO
    go_wp2
    go_ret
    exact ⟨_, rfl, HO.out, HB1.out⟩

def byV (z : Int) : List Value := [bV z]

theorem info5 : (Tryd.prog.info? 5).map (fun i => (i.zero, i.size, i.bytes)) = some (some (.int .u8 0), 1, 1) := by kernel_rfl
set_option maxHeartbeats 1000000 in
theorem clone5 (A : Option Addr) (c : Nat) (l : List Int) (w : World) (hA : Arr w A 1 l.length fun i => byV (l.getD i (0 : Int))) (hn : l.length ≤ 1000000) :
    Calls Tryd.prog 43 #[.slice A l.length c] w fun e w' => CloneP 5 1 (l.flatMap byV) l.length w e w' := by
  have q23 := fun (w : World) (a : Option Addr) (n c n' c' : Nat) => Lib.run_eql_slice_nil (P := Tryd.prog) w 31 5 a n c n' c' Tryd.underlying31
  cases A with
  | none =>
    have h0 : l = [] := by
      cases l with
      | nil => rfl
      | cons x r => obtain ⟨_, _, e⟩ := Arr.head hA (i := 0) (by simp); cases e
    subst h0
    clear hA
    go_enter Tryd.func43, Tryd.ntmps43
    go_wp2_with fail
    go_ret
    exact ⟨_, rfl, World.ownsRow_nil _ _ _ _, Below.refl _ _⟩
  | some a =>
    obtain ⟨i0, hi, hz0, hz1, hz2⟩ := info_parts info5
    have hown : (w.alloc (.cells #[] 5)).ownsRow w.heap.size 5 1 (.slice (some ⟨w.heap.size, 0, none⟩) 0 0) 0 [] := World.ownsRow_lit w #[] 0 (Nat.le_refl _) (by decide) rfl
    have hB : Below w.heap.size w (w.alloc (.cells #[] 5)) := (Below.refl _ _).alloc (Nat.le_refl _) _
    have hnews : ∀ j u, (l.flatMap byV)[j]? = some u → (w.alloc (.cells #[] 5)).cell? (a.add j) = some u := by
      intro j u hu
      have hl0 : 0 < l.length := by
        cases l with
        | nil => simp at hu
        | cons x r => simp
      obtain ⟨b, o, e⟩ := Arr.head hA hl0
      have e := Option.some.inj e
      subst e
      exact arr_news (by omega : 0 < 1) (fun _ => rfl) (Arr.keep hA hB) j u hu
    have hlen := flat_len byV 1 l (fun _ => rfl)
    obtain ⟨n, hnn⟩ : ∃ n, n = l.length := ⟨_, rfl⟩
    obtain ⟨xs, hxs⟩ : ∃ xs, xs = l.flatMap byV := ⟨_, rfl⟩
    have hone : ∀ u ∈ xs, u.oneCell' = true := by
      intro u hu
      rw [hxs] at hu
      obtain ⟨x, _, hu⟩ := List.mem_flatMap.1 hu
      simp [byV] at hu
      subst hu; rfl
    rw [← hxs] at hnews hlen ⊢
    rw [← hnn] at hn hlen ⊢
    have HNW := Lib.hid hnews
    have HB := Lib.hid hB
    have HLN := Lib.hid hlen
    have HON := Lib.hid hone
    clear hA hB hnews hlen hone hnn hxs
    go_enter Tryd.func43, Tryd.ntmps43
    go_wp2_with (at_builtin; refine wpList_append_own _ rfl _ _ 31 rfl w.heap.size 5 i0 (.int .u8 0) 1 1 Tryd.underlying31 hi hz0 hz1 hz2 rfl (by decide) _ _ _ rfl hown a n c xs rfl ?c0 ?c1 ?c2 ?c3 ?c4 ?c5 ?_)
    case c0 => exact HLN.out
    case c1 => exact HNW.out
    case c2 => exact HON.out
    case c3 => unfold maxLen; simp; omega
    case c4 => simp; omega
    case c5 => simp
    intro v' w1 hown' hgrow _
    have hO : w1.ownsRow w.heap.size 5 1 v' n xs := by simpa using hown'
    have HO := Lib.hid hO
    have HB1 := Lib.hid (HB.out.grown hgrow (by simp) (fun k hk => (World.ownsRow.lt hown k hk).1))
    clear hown' hgrow hown hO
    go_wp2
    go_ret
    exact ⟨_, rfl, HO.out, HB1.out⟩
end Go.Proofs.YtkgkjkghdllkhaaDoor.cp
