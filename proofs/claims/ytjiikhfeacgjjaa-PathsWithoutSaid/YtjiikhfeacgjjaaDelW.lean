/-
  slices.DeleteFunc over channels in a row of their own.
-/
import Derived.Test.YtjiikhfeacgjjaaCopyW
import Derived.Deep.MidRow
namespace Go.Proofs.Ytjiikhfeacgjjaa
open Go.RowKit

def IdxP (p : ChanA → Bool) (l : List ChanA) (w : World) (e : Ending) (w' : World) : Prop :=
  ((∃ k : Nat, k < l.length ∧ e = .returned (.int .i64 k) ∧ (∀ j, j < k → p (l.getD j dC) = false) ∧ p (l.getD k dC) = true) ∨ (e = .returned (.int .i64 (-1)) ∧ ∀ j, j < l.length → p (l.getD j dC) = false)) ∧ Below w.heap.size w w'
def IdxRel_chan (w : World) (ws : List ChanA) (p : ChanA → Bool) (i : Value) (wr : World) : Prop :=
  ∃ k : Nat, k ≤ ws.length ∧ i = .int .i64 k ∧ (∀ j, j < k → p (ws.getD j dC) = false) ∧ Below w.heap.size w wr

set_option maxHeartbeats 4000000 in
theorem index_chan (K : FuncId) (cap : Array Value) (p : ChanA → Bool) (A : Option Addr) (c : Nat) (ws : List ChanA) (w : World) (hA : ChansAt w A ws) (hK : Enters K) (hn : ws.length ≤ 1000000000000000)
    (hcall : ∀ v W, v ∈ ws → Below w.heap.size w W → Calls Try.prog K (#[cv v] ++ cap) W fun e w' => e = .returned (.bool (p v)) ∧ Below W.heap.size W w') :
    Calls Try.prog 50 #[.slice A ws.length c, .func (.func K) #[] cap] w fun e w' => IdxP p ws w e w' := by
  have HA := Lib.hid hA
  have HC := Lib.hid hcall
  have eg := hK
  unfold Enters at eg
  clear hA hcall hK
  obtain ⟨n, hnn⟩ : ∃ n, n = ws.length := ⟨_, rfl⟩
  rw [← hnn] at hn ⊢
  have HN := Lib.hid hnn
  clear hnn
  go_enter Try.func50, Try.ntmps50
  go_wp2_with fail
  go_loopw [8] (fun i wr => IdxRel_chan w ws p i wr) (fun i _ => n - (intOf i).toNat)
  case atStart => exact ⟨0, Nat.zero_le _, rfl, fun j hj => by omega, Below.refl _ _⟩
  case round =>
    obtain ⟨k, hk, rfl, hj, hB⟩ := hrel
    rw [← HN.out] at hk
    have HJ := Lib.hid hj
    have HB := Lib.hid hB
    by_cases hlt : k < n
    · have hlw : k < ws.length := by rw [← HN.out]; exact hlt
      obtain ⟨b, o, rfl⟩ := Arr.head HA.out hlw
      have HC1 := HC.out (ws.getD k dC) _ (getD_mem dC hlw) hB
      obtain ⟨⟨x0, x1, x2, x3, x4, x5⟩, hx⟩ : ∃ x, x = ws.getD k dC := ⟨_, rfl⟩
      obtain ⟨c0, c1, c2, c3, c4, c5⟩ := ChansAt.cell (Arr.keep HA.out HB.out) hlw hx
      dsimp only at c0 c1 c2 c3 c4 c5
      rw [← hx] at HC1
      simp only [cv] at HC1
      obtain ⟨q, hq⟩ : ∃ q, q = p (x0, x1, x2, x3, x4, x5) := ⟨_, rfl⟩
      rw [← hq] at HC1
      have HCC := Lib.hid HC1
      have HX := Lib.hid hx
      have HQ := Lib.hid hq
      clear hj hB hx hlw HC1 hq
      cases q
      · go_wp2_with fail
        refine HCC.out.mono ?_
        rintro e w1 ⟨rfl, hB⟩
        have HB1 := Lib.hid hB
        clear hB
        go_wp2_with fail
        go_roundw
        case rel => exact ⟨k + 1, by rw [← HN.out]; omega, by go_num, fun j hj => (by
          rcases Nat.lt_or_ge j k with h | h
          · exact HJ.out j h
          · obtain rfl : j = k := by omega
            rw [← HX.out]; exact HQ.out.symm), below_two HB.out HB1.out⟩
        case measure => simp [intOf]; omega
      · go_wp2_with fail
        refine HCC.out.mono ?_
        rintro e w1 ⟨rfl, hB⟩
        have HB1 := Lib.hid hB
        clear hB
        have HF : Hid (IdxP p ws w (.returned (.int .i64 k)) w1) := ⟨.inl ⟨k, by rw [← HN.out]; exact hlt, rfl, HJ.out, by rw [← HX.out]; exact HQ.out.symm⟩, below_two HB.out HB1.out⟩
        go_wp2_with fail
        go_ret
        exact HF.out
    · have hk' : k = n := by omega
      subst hk'
      have HF : Hid (IdxP p ws w (.returned (.int .i64 (-1))) wr) := ⟨.inr ⟨rfl, by rw [← HN.out]; exact HJ.out⟩, HB.out⟩
      clear hj hB
      go_wp2_with fail
      go_ret
      exact HF.out

/-! ### a row of channels, written in place -/
structure CRow (w : World) (g m : Nat) (X : Nat → ChanA) : Prop where
  blk : ∃ cur, w.heap[g]? = some (.cells cur 44 (0, 0)) ∧ m * 6 ≤ cur.size
  at' : ∀ p, p < m → ∀ j u, (chanV (X p))[j]? = some u → w.cell? ⟨g, p * 6 + j, none⟩ = some u
theorem CRow.lt {w : World} {g m : Nat} {X : Nat → ChanA} (h : CRow w g m X) : g < w.heap.size := by
  obtain ⟨cur, hb, _⟩ := h.blk
  exact (Array.getElem?_eq_some_iff.1 hb).1
theorem CRow.frozen {w : World} {g m j : Nat} {X : Nat → ChanA} (h : CRow w g m X) : w.frozen? ⟨g, j, none⟩ = false := by
  obtain ⟨cur, hb, _⟩ := h.blk
  exact frozen_of_row _ _ _ _ _ hb
theorem CRow.of_own {w : World} {base g m c : Nat} {hs : List ChanA} (h : w.ownsRow base 44 6 (.slice (some ⟨g, 0, none⟩) m c) m (hs.flatMap chanV)) (hm : hs.length = m) : CRow w g m fun p => hs.getD p dC := by
  subst hm
  refine ⟨?_, fun p hp j u hu => ?_⟩
  · rcases h.2 with ⟨e, e2⟩ | ⟨g', cap, cur, e, hb, hg, h1, _, h2, _⟩
    · cases e
    · injection e with e1 _ e3
      injection e1 with e1
      injection e1 with e1 _ _
      subst e1
      exact ⟨cur, hg, by rw [h2]; exact Nat.mul_le_mul_right 6 h1⟩
  · have := Arr.at (arr_flat (f := chanV) (d := dC) h (fun _ => rfl)) hp hu
    simpa using this
theorem CRow.keep {w w' : World} {g m : Nat} {X : Nat → ChanA} (h : CRow w g m X) (hB : Below w.heap.size w w') : CRow w' g m X := by
  obtain ⟨cur, hb, hs⟩ := h.blk
  exact ⟨⟨cur, (hB.block g h.lt).trans hb, hs⟩, fun p hp j u hu => kept (h.at' p hp j u hu) hB⟩
theorem CRow.congr {w : World} {g m : Nat} {X Y : Nat → ChanA} (h : CRow w g m X) (e : ∀ p, p < m → X p = Y p) : CRow w g m Y := ⟨h.blk, fun p hp j u hu => h.at' p hp j u (by rw [e p hp]; exact hu)⟩
theorem CRow.cells {w : World} {g m : Nat} {X : Nat → ChanA} (h : CRow w g m X) {p : Nat} (hp : p < m) {c : ChanA} (hc : c = X p) :
    w.cell? ⟨g, p * 6, none⟩ = some (.int .u8 c.1) ∧ w.cell? ⟨g, p * 6 + 1, none⟩ = some (.int .u8 c.2.1) ∧ w.cell? ⟨g, p * 6 + 2, none⟩ = some (.int .u8 c.2.2.1) ∧ w.cell? ⟨g, p * 6 + 3, none⟩ = some (.int .u8 c.2.2.2.1) ∧ w.cell? ⟨g, p * 6 + 4, none⟩ = some (.int .u8 c.2.2.2.2.1) ∧ w.cell? ⟨g, p * 6 + 5, none⟩ = some (.int .u16 c.2.2.2.2.2) := by
  subst hc
  exact ⟨h.at' p hp 0 _ rfl, h.at' p hp 1 _ rfl, h.at' p hp 2 _ rfl, h.at' p hp 3 _ rfl, h.at' p hp 4 _ rfl, h.at' p hp 5 _ rfl⟩
theorem CRow.set1 {w : World} {g m : Nat} {X : Nat → ChanA} (h : CRow w g m X) (o : Nat) (v : Value) : ∃ cur, (w.setCell ⟨g, o, none⟩ v).heap[g]? = some (.cells cur 44 (0, 0)) ∧ m * 6 ≤ cur.size := by
  obtain ⟨cur, hb, hs⟩ := h.blk
  exact ⟨_, heap_setCell_same w g o cur 44 v hb, by simpa using hs⟩
theorem cell_set_same {w : World} {g o : Nat} {v : Value} {u : Value} (h : w.cell? ⟨g, o, none⟩ = some u) : (w.setCell ⟨g, o, none⟩ v).cell? ⟨g, o, none⟩ = some v := by
  unfold World.cell? at h
  dsimp only at h
  unfold World.cell? World.setCell
  dsimp only
  split at h
  · rename_i cs t fr hg
    have := (Array.getElem?_eq_some_iff.1 h).1
    simp [Array.getElem?_modify, hg, this]
  · cases h
theorem CRow.set {w : World} {g m : Nat} {X : Nat → ChanA} (h : CRow w g m X) {i : Nat} (hi : i < m) (x : ChanA) :
    CRow ((((((w.setCell ⟨g, i * 6, none⟩ (.int .u8 x.1)).setCell ⟨g, i * 6 + 1, none⟩ (.int .u8 x.2.1)).setCell ⟨g, i * 6 + 2, none⟩ (.int .u8 x.2.2.1)).setCell ⟨g, i * 6 + 3, none⟩ (.int .u8 x.2.2.2.1)).setCell ⟨g, i * 6 + 4, none⟩ (.int .u8 x.2.2.2.2.1)).setCell ⟨g, i * 6 + 5, none⟩ (.int .u16 x.2.2.2.2.2)) g m fun p => if p = i then x else X p := by
  have oth : ∀ (W : World) (o o' : Nat) (v : Value), o ≠ o' → (W.setCell ⟨g, o, none⟩ v).cell? ⟨g, o', none⟩ = W.cell? ⟨g, o', none⟩ := fun W o o' v hn => World.cell?_setCell_other _ _ _ _ (fun e => by injection e with _ e2 _; exact hn e2)
  have some' : ∀ (W : World) (o o' : Nat) (v : Value), (∃ u, W.cell? ⟨g, o', none⟩ = some u) → ∃ u, (W.setCell ⟨g, o, none⟩ v).cell? ⟨g, o', none⟩ = some u := fun W o o' v ⟨u, hu⟩ => by
    by_cases e : o = o'
    · subst e; exact ⟨_, cell_set_same hu⟩
    · exact ⟨u, by rw [oth _ _ _ _ e]; exact hu⟩
  refine ⟨?_, fun p hp j u hu => ?_⟩
  · obtain ⟨cur, hb, hs⟩ := h.blk
    have st : ∀ (W : World) (o : Nat) (v : Value), (∃ cur, W.heap[g]? = some (.cells cur 44 (0, 0)) ∧ m * 6 ≤ cur.size) → ∃ cur, (W.setCell ⟨g, o, none⟩ v).heap[g]? = some (.cells cur 44 (0, 0)) ∧ m * 6 ≤ cur.size := fun W o v ⟨cur, hb, hs⟩ => ⟨_, heap_setCell_same W g o cur 44 v hb, by simpa using hs⟩
    exact st _ _ _ (st _ _ _ (st _ _ _ (st _ _ _ (st _ _ _ (st _ _ _ ⟨cur, hb, hs⟩)))))
  · obtain ⟨x0, x1, x2, x3, x4, x5⟩ := x
    dsimp only at hu ⊢
    have hj : j < 6 := by
      have := (List.getElem?_eq_some_iff.1 hu).1
      simpa [chanV] using this
    by_cases e : p = i
    · subst e
      rw [if_pos rfl] at hu
      obtain ⟨c0, c1, c2, c3, c4, c5⟩ := h.cells hp rfl
      match j, hj, hu with
      | 0, _, hu =>
        simp [chanV] at hu; subst hu
        rw [oth _ _ _ _ (by omega), oth _ _ _ _ (by omega), oth _ _ _ _ (by omega), oth _ _ _ _ (by omega), oth _ _ _ _ (by omega)]
        exact cell_set_same c0
      | 1, _, hu =>
        simp [chanV] at hu; subst hu
        rw [oth _ _ _ _ (by omega), oth _ _ _ _ (by omega), oth _ _ _ _ (by omega), oth _ _ _ _ (by omega)]
        exact cell_set_same (by rw [oth _ _ _ _ (by omega)]; exact c1)
      | 2, _, hu =>
        simp [chanV] at hu; subst hu
        rw [oth _ _ _ _ (by omega), oth _ _ _ _ (by omega), oth _ _ _ _ (by omega)]
        exact cell_set_same (by rw [oth _ _ _ _ (by omega), oth _ _ _ _ (by omega)]; exact c2)
      | 3, _, hu =>
        simp [chanV] at hu; subst hu
        rw [oth _ _ _ _ (by omega), oth _ _ _ _ (by omega)]
        exact cell_set_same (by rw [oth _ _ _ _ (by omega), oth _ _ _ _ (by omega), oth _ _ _ _ (by omega)]; exact c3)
      | 4, _, hu =>
        simp [chanV] at hu; subst hu
        rw [oth _ _ _ _ (by omega)]
        exact cell_set_same (by rw [oth _ _ _ _ (by omega), oth _ _ _ _ (by omega), oth _ _ _ _ (by omega), oth _ _ _ _ (by omega)]; exact c4)
      | 5, _, hu =>
        simp [chanV] at hu; subst hu
        exact cell_set_same (by rw [oth _ _ _ _ (by omega), oth _ _ _ _ (by omega), oth _ _ _ _ (by omega), oth _ _ _ _ (by omega), oth _ _ _ _ (by omega)]; exact c5)
    · rw [if_neg e] at hu
      rw [oth _ _ _ _ (by omega), oth _ _ _ _ (by omega), oth _ _ _ _ (by omega), oth _ _ _ _ (by omega), oth _ _ _ _ (by omega), oth _ _ _ _ (by omega)]
      exact h.at' p hp j u hu
theorem only6 (w : World) (g o0 o1 o2 o3 o4 o5 : Nat) (v0 v1 v2 v3 v4 v5 : Value) : Only g w.heap.size w ((((((w.setCell ⟨g, o0, none⟩ v0).setCell ⟨g, o1, none⟩ v1).setCell ⟨g, o2, none⟩ v2).setCell ⟨g, o3, none⟩ v3).setCell ⟨g, o4, none⟩ v4).setCell ⟨g, o5, none⟩ v5) :=
  ((((((Only.refl _ _ _).set _).set _).set _).set _).set _).set _

/-- The zero cells of n channels. -/
def zeroCh (n : Nat) : List Value := (Builtin.zeroCells (Value.agg #[.int .u8 0, .int .u8 0, .int .u8 0, .int .u8 0, .int .u8 0, .int .u16 0]).cells n).toList
theorem zeroCh_len (n : Nat) : (zeroCh n).length = n * 6 := by simp [zeroCh, Builtin.zeroCells, Value.cells]
theorem zeroCh_one (n : Nat) : ∀ u ∈ zeroCh n, u.oneCell' = true := by
  intro u hu
  simp [zeroCh, Builtin.zeroCells, Value.cells] at hu
  obtain ⟨i, hi, rfl⟩ := hu
  have : i % 6 < 6 := Nat.mod_lt _ (by omega)
  generalize i % 6 = k at this
  match k, this with
  | 0, _ => rfl
  | 1, _ => rfl
  | 2, _ => rfl
  | 3, _ => rfl
  | 4, _ => rfl
  | 5, _ => rfl
theorem only_setCells (g : Nat) : ∀ (vs : List Value) (o : Nat) (w : World), Only g w.heap.size w (w.setCells g o vs)
  | [], _, w => Only.refl _ _ _
  | v :: r, o, w => by
    have h := only_setCells g r (o + 1) (w.setCell ⟨g, o, none⟩ v)
    exact ((Only.refl g w.heap.size w).set v).trans (h.mono (by simp))
theorem run_clear_chans (w : World) (ty : TypeId) (g o n c : Nat) (hn : 0 < n) (hc : ∀ j, j < n * 6 → (w.cell? ⟨g, o + j, none⟩).isSome = true) (hf : ∀ j, w.frozen? ⟨g, j, none⟩ = false) :
    (Builtin.clear_ #[25] ty #[.slice (some ⟨g, o, none⟩) n c]).run Try.prog w = .ok (.tuple #[]) (w.setCells g o (zeroCh n)) := by
  have hst := run_storeCells_cells (P := Try.prog) g o (zeroCh n) 0 w (by simpa [zeroCh_len] using hc) (by simpa using fun j _ => hf _) (zeroCh_one n)
  simp only [Nat.add_zero] at hst
  obtain ⟨m, rfl⟩ : ∃ m, n = m + 1 := ⟨n - 1, by omega⟩
  unfold zeroCh at hst ⊢
  simp [Builtin.clear_, run_underlying Try.underlying25, hst]

/-- The channels' block alone may have changed. -/
def OnlyA (A : Option Addr) (w w' : World) : Prop := ∀ g, A = some ⟨g, 0, none⟩ → Only g w.heap.size w w'
def DelP (keep : ChanA → Bool) (A : Option Addr) (hs : List ChanA) (c : Nat) (w : World) (e : Ending) (w' : World) : Prop :=
  e = .returned (.slice A (hs.filter keep).length c) ∧ ChansAt w' A (hs.filter keep) ∧ OnlyA A w w' ∧ Below 0 w w' ∧ w.heap.size ≤ w'.heap.size ∧ (A = none → Below w.heap.size w w')
/-- What a round knows, behind j channels. -/
structure DI (keep : ChanA → Bool) (g : Nat) (hs : List ChanA) (w : World) (j i : Nat) (X : Nat → ChanA) (wr : World) : Prop where
  only : Only g w.heap.size w wr
  row : CRow wr g hs.length X
  num : i = ((hs.take j).filter keep).length
  lt : i < j
  got : ∀ p, p < i → X p = ((hs.take j).filter keep).getD p dC
  left : ∀ p, j ≤ p → p < hs.length → X p = hs.getD p dC
theorem filter_snoc {keep : ChanA → Bool} {hs : List ChanA} {j : Nat} (hj : j < hs.length) : (hs.take (j + 1)).filter keep = (hs.take j).filter keep ++ if keep (hs.getD j dC) then [hs.getD j dC] else [] := by
  rw [List.take_succ_eq_append_getElem hj, List.filter_append, List.getD_eq_getElem?_getD, List.getElem?_eq_getElem hj, List.filter_cons, List.filter_nil]
  rfl
theorem DI.skip {keep : ChanA → Bool} {g : Nat} {hs : List ChanA} {w : World} {j i : Nat} {X : Nat → ChanA} {wr wr' : World} (h : DI keep g hs w j i X wr) (hB : Below wr.heap.size wr wr') (hj : j < hs.length) (hk : keep (hs.getD j dC) = false) : DI keep g hs w (j + 1) i X wr' := by
  have e : (hs.take (j + 1)).filter keep = (hs.take j).filter keep := by rw [filter_snoc hj, hk]; simp
  exact ⟨h.only.then hB, h.row.keep hB, by rw [e]; exact h.num, by have := h.lt; omega, by rw [e]; exact h.got, fun p h1 h2 => h.left p (by omega) h2⟩
theorem DI.put {keep : ChanA → Bool} {g : Nat} {hs : List ChanA} {w : World} {j i : Nat} {X : Nat → ChanA} {wr wr' : World} (h : DI keep g hs w j i X wr) (hB : Below wr.heap.size wr wr') (hj : j < hs.length) (hk : keep (hs.getD j dC) = true) {x : ChanA} (hx : x = hs.getD j dC) :
    DI keep g hs w (j + 1) (i + 1) (fun p => if p = i then x else X p) ((((((wr'.setCell ⟨g, i * 6, none⟩ (.int .u8 x.1)).setCell ⟨g, i * 6 + 1, none⟩ (.int .u8 x.2.1)).setCell ⟨g, i * 6 + 2, none⟩ (.int .u8 x.2.2.1)).setCell ⟨g, i * 6 + 3, none⟩ (.int .u8 x.2.2.2.1)).setCell ⟨g, i * 6 + 4, none⟩ (.int .u8 x.2.2.2.2.1)).setCell ⟨g, i * 6 + 5, none⟩ (.int .u16 x.2.2.2.2.2)) := by
  have e : (hs.take (j + 1)).filter keep = (hs.take j).filter keep ++ [x] := by rw [filter_snoc hj, hk, hx]; rfl
  have hlt := h.lt
  refine ⟨(h.only.then hB).two (only6 _ _ _ _ _ _ _ _ _ _ _ _ _ _), (h.row.keep hB).set (by omega) x, ?_, by omega, fun p hp => ?_, fun p h1 h2 => ?_⟩
  · rw [e, List.length_append, ← h.num]; rfl
  · rw [e]
    by_cases e2 : p = i
    · subst e2
      rw [if_pos rfl, List.getD_eq_getElem?_getD, List.getElem?_append_right (by rw [← h.num]; exact Nat.le_refl _), ← h.num]
      simp
    · rw [if_neg e2, List.getD_eq_getElem?_getD, List.getElem?_append_left (by rw [← h.num]; omega), ← List.getD_eq_getElem?_getD]
      exact h.got p (by omega)
  · rw [if_neg (by omega)]
    exact h.left p (by omega) h2
theorem DI.done {keep : ChanA → Bool} {g i : Nat} {hs : List ChanA} {w : World} {X : Nat → ChanA} {wr wr' : World} (h : DI keep g hs w hs.length i X wr) (hs' : ∀ b j, j < i * 6 → wr'.cell? ⟨b, j, none⟩ = wr.cell? ⟨b, j, none⟩) : i = (hs.filter keep).length ∧ ChansAt wr' (some ⟨g, 0, none⟩) (hs.filter keep) := by
  have hn := h.num
  have hg := h.got
  have hlt := h.lt
  rw [List.take_length] at hn hg
  refine ⟨hn, fun p hp => ⟨g, 0, rfl, fun j u hu => ?_⟩⟩
  have hj : j < 6 := by
    have := (List.getElem?_eq_some_iff.1 hu).1
    simpa [chanV] using this
  rw [show 0 + p * 6 + j = p * 6 + j by omega, hs' g (p * 6 + j) (by rw [hn]; omega)]
  exact h.row.at' p (by omega) j u (by rw [hg p (by omega)]; exact hu)

set_option maxHeartbeats 8000000 in
set_option maxRecDepth 100000 in
theorem delete_any (K : FuncId) (cap : Array Value) (keep : ChanA → Bool) (A : Option Addr) (c : Nat) (hs : List ChanA) (base : Nat) (w : World) (hown : w.ownsRow base 44 6 (.slice A hs.length c) hs.length (hs.flatMap chanV)) (hK : Enters K) (hn : hs.length ≤ 1000)
    (hcall : ∀ v W, v ∈ hs → OnlyA A w W → Calls Try.prog K (#[cv v] ++ cap) W fun e w' => e = .returned (.bool (!keep v)) ∧ Below W.heap.size W w') :
    Calls Try.prog 38 #[.slice A hs.length c, .func (.func K) #[] cap] w fun e w' => DelP keep A hs c w e w' := by
  have hat := arr_flat (f := chanV) (d := dC) hown (fun _ => rfl)
  have HIX := Lib.hid (index_chan K cap (fun v => !keep v) A c hs w hat hK (by omega) fun v W hv hB => hcall v W hv fun g _ => Only.of_below hB)
  have HC := Lib.hid hcall
  have HAT := Lib.hid hat
  have HOWN := Lib.hid hown
  have eg := hK
  unfold Enters at eg
  have hcp := own_cap hown
  obtain ⟨m, hm⟩ : ∃ m, m = hs.length := ⟨_, rfl⟩
  rw [← hm] at HIX hn hcp HOWN ⊢
  have HM := Lib.hid hm
  clear hat hown hcall hK hm
  go_enter Try.func38, Try.ntmps38
  go_wp2_with fail
  refine HIX.out.mono ?_
  rintro e w1 ⟨h, hB⟩
  rcases h with ⟨k, hk, rfl, hall, hx⟩ | ⟨rfl, hall⟩
  · have hA : ∃ g, A = some ⟨g, 0, none⟩ := by
      obtain ⟨b, o, e⟩ := Arr.head HAT.out hk
      have := (own_addr HOWN.out e).1
      subst this
      exact ⟨b, e⟩
    obtain ⟨g, rfl⟩ := hA
    have hfk : (hs.take k).filter keep = hs.take k := List.filter_eq_self.2 fun x hx' => by
      obtain ⟨j, hj, rfl⟩ := mem_at dC hx'
      rw [List.length_take] at hj
      have := hall j (by omega)
      rw [take_getD dC (by omega)]
      simpa using this
    have hkeepk : keep (hs.getD k dC) = false := by simpa using hx
    have hfk1 : (hs.take (k + 1)).filter keep = hs.take k := by rw [filter_snoc hk, hfk, hkeepk]; simp
    have hd : DI keep g hs w (k + 1) k (fun p => hs.getD p dC) w1 := ⟨Only.of_below hB, (CRow.of_own HOWN.out HM.out.symm |> fun h => (by rw [HM.out] at h; exact h.keep hB)), by rw [hfk1, List.length_take]; omega, by omega, fun p hp => by rw [hfk1, take_getD dC hp], fun p _ _ => rfl⟩
    have HD := Lib.hid hd
    have hkm : k < m := by rw [HM.out]; exact hk
    have hk1 : IntKind.i64.wrap ((k : Int) + 1) = ((k + 1 : Nat) : Int) := by rw [IntWalk.i64_in _ (by omega)]; omega
    have hk9 : ((k : Int) == -1) = false := beq_eq_false_iff_ne.2 (by omega)
    clear hfk hkeepk hfk1 hd hB hall hx hk HIX
    go_wp2_with fail
    go_loopw [5, 6] (fun iv jv wr => ∃ (j i : Nat) (X : Nat → ChanA), j ≤ m ∧ iv = .int .i64 i ∧ jv = .int .i64 j ∧ DI keep g hs w j i X wr) (fun _ jv _ => m - (intOf jv).toNat)
    case atStart => exact ⟨k + 1, k, _, by omega, rfl, by go_num, HD.out⟩
    case round =>
      obtain ⟨j, i, X, hj, rfl, rfl, hI⟩ := hrel
      have HI := Lib.hid hI
      have hil := hI.lt
      by_cases hlt : j < m
      · have hjl : j < hs.length := by rw [← HM.out]; exact hlt
        obtain ⟨⟨x0, x1, x2, x3, x4, x5⟩, hx⟩ : ∃ x, x = hs.getD j dC := ⟨_, rfl⟩
        obtain ⟨c0, c1, c2, c3, c4, c5⟩ := hI.row.cells hjl (c := (x0, x1, x2, x3, x4, x5)) (by rw [hI.left j (Nat.le_refl _) hjl]; exact hx)
        dsimp only at c0 c1 c2 c3 c4 c5
        have hba : Below wr.heap.size wr (wr.alloc (.cells #[.int .u8 x0, .int .u8 x1, .int .u8 x2, .int .u8 x3, .int .u8 x4, .int .u16 x5] 44)) := (Below.refl _ _).alloc (Nat.le_refl _) _
        have HCB := Lib.hid (CB.new wr x0 x1 x2 x3 x4 x5)
        have HBA := Lib.hid hba
        have hcl := HC.out _ (wr.alloc (.cells #[.int .u8 x0, .int .u8 x1, .int .u8 x2, .int .u8 x3, .int .u8 x4, .int .u16 x5] 44)) (getD_mem dC hjl) fun g' e => by
          injection e with e
          injection e with e1 _ _
          subst e1
          exact hI.only.then hba
        rw [← hx] at hcl
        simp only [cv] at hcl
        obtain ⟨q, hq⟩ : ∃ q, q = keep (x0, x1, x2, x3, x4, x5) := ⟨_, rfl⟩
        rw [← hq] at hcl
        have HCL := Lib.hid hcl
        have HX := Lib.hid hx
        have HQ := Lib.hid hq
        have HJL := Lib.hid hjl
        have i0 : (0 : Int) ≤ (j : Int) := Int.natCast_nonneg _
        have i1 : (j : Int) < (m : Int) := by omega
        clear hI hx hba hcl hq hjl
        cases q
        · go_wp2_with fail
          refine HCL.out.mono ?_
          rintro e w2 ⟨rfl, hB⟩
          have HB2 := Lib.hid (below_two HBA.out hB)
          clear hB
          go_wp2_with fail
          go_roundw
          case rel => exact ⟨j + 1, i, X, by omega, rfl, by go_num, HI.out.skip HB2.out HJL.out (by rw [← HX.out]; exact HQ.out.symm)⟩
          case measure => simp [intOf]; omega
        · go_wp2_with fail
          refine HCL.out.mono ?_
          rintro e w2 ⟨rfl, hB⟩
          obtain ⟨m0, m1, m2, m3, m4, m5⟩ := HCB.out.keep hB
          dsimp only at m0 m1 m2 m3 m4 m5
          have hb2 := below_two HBA.out hB
          have hrow := HI.out.row.keep hb2
          have him : i < hs.length := by rw [← HM.out]; omega
          have hth : w2.there g (i * 6) (#[Value.int .u8 x0, .int .u8 x1, .int .u8 x2, .int .u8 x3, .int .u8 x4, .int .u16 x5]).size := fun p hp => by
            have hp : p < 6 := hp
            obtain ⟨cur, hb, hs'⟩ := hrow.blk
            exact ⟨by rw [cell_of_row _ _ _ _ _ _ hb, Array.getElem?_eq_getElem (by omega)]; rfl, hrow.frozen⟩
          have hput := HI.out.put hb2 HJL.out (by rw [← HX.out]; exact HQ.out.symm) HX.out
          have hinf : (Try.prog.info? 44).map (·.size) = some (#[Value.int .u8 x0, .int .u8 x1, .int .u8 x2, .int .u8 x3, .int .u8 x4, .int .u16 x5]).size := by kernel_rfl
          have hone : (#[Value.int .u8 x0, .int .u8 x1, .int .u8 x2, .int .u8 x3, .int .u8 x4, .int .u16 x5]).all (·.oneCell') = true := by simp [Value.oneCell']
          have HONE := Lib.hid hone
          have HTH := Lib.hid hth
          have HPUT := Lib.hid hput
          have HINF := Lib.hid hinf
          have HB2 := Lib.hid hb2
          have i2 : (0 : Int) ≤ (i : Int) := Int.natCast_nonneg _
          have i3 : (i : Int) < (m : Int) := by omega
          clear hB hb2 hrow him hth hput hinf hone c0 c1 c2 c3 c4 c5
          go_wp2_with (with_reducible refine wpList_store_mid rfl 44 (.tmp 33) (.tmp 32) rfl g (i * 6) #[.int .u8 x0, .int .u8 x1, .int .u8 x2, .int .u8 x3, .int .u8 x4, .int .u16 x5] rfl rfl HTH.out HINF.out HONE.out ?_)
          obtain ⟨w3, hw3⟩ : ∃ w3, w3 = w2.setCells g (i * 6) (#[Value.int .u8 x0, .int .u8 x1, .int .u8 x2, .int .u8 x3, .int .u8 x4, .int .u16 x5]).toList := ⟨_, rfl⟩
          rw [← hw3]
          have HP3 : Hid (DI keep g hs w (j + 1) (i + 1) (fun p => if p = i then (x0, x1, x2, x3, x4, x5) else X p) w3) := by rw [hw3]; exact HPUT.out
          clear hw3 m0 m1 m2 m3 m4 m5
          go_wp2_with fail
          go_roundw
          case rel => exact ⟨j + 1, i + 1, _, by omega, by go_num, by go_num, HP3.out⟩
          case measure => simp [intOf]; omega
      · obtain rfl : m = j := by omega
        have him : i < m := hI.lt
        have hic : i < c := by omega
        have hcells : ∀ p, p < m * 6 → (wr.cell? ⟨g, p, none⟩).isSome = true := fun p hp => by
          obtain ⟨cur, hb, hs'⟩ := hI.row.blk
          rw [cell_of_row _ _ _ _ _ _ hb, Array.getElem?_eq_getElem (by rw [← HM.out] at hs'; omega)]
          rfl
        have hclr := fun ty => run_clear_chans wr ty g (i * 6) (m - i) (c - i) (by omega) (fun p hp => hcells _ (by omega)) (fun p => hI.row.frozen)
        have hI' := hI
        rw [HM.out] at hI'
        have hdn := hI'.done (wr' := wr.setCells g (i * 6) (zeroCh (m - i))) fun b p hp => World.cell?_setCells_out _ _ _ _ _ (fun _ _ => .inl hp)
        have hon := hI.only.trans ((only_setCells g (zeroCh (m - i)) (i * 6) wr).mono hI.only.size)
        have HF : Hid (DelP keep (some ⟨g, 0, none⟩) hs c w (.returned (.slice (some ⟨g, 0, none⟩) i c)) (wr.setCells g (i * 6) (zeroCh (m - i)))) := ⟨by rw [hdn.1], hdn.2, fun g' e => (by injection e with e; injection e with e1 _ _; subst e1; exact hon), hon.below (Nat.zero_le _) (Nat.zero_le _), hon.size, fun e => by cases e⟩
        have i2 : (0 : Int) ≤ (i : Int) := Int.natCast_nonneg _
        have i3 : (i : Int) ≤ (m : Int) := by omega
        have i4 : (i : Int) ≤ (c : Int) := by omega
        have i5 : ¬ (c = i) := by omega
        have i6 : ¬ ((c : Int) = (i : Int)) := by omega
        clear hI hI' hdn hon hcells hj hlt
        go_wp2_with fail
        go_ret
        exact HF.out
  · have hfe : hs.filter keep = hs := List.filter_eq_self.2 fun x hx' => by
      obtain ⟨j, hj, rfl⟩ := mem_at dC hx'
      simpa using hall j hj
    have HF : Hid (DelP keep A hs c w (.returned (.slice A m c)) w1) := ⟨by rw [hfe, HM.out], by rw [hfe]; exact Arr.keep HAT.out hB, fun g _ => Only.of_below hB, hB.mono (Nat.zero_le _), hB.size, fun _ => hB⟩
    clear hfe hB hall
    go_wp2_with fail
    go_ret
    exact HF.out
end Go.Proofs.Ytjiikhfeacgjjaa
