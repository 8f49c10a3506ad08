/-
  slices.IndexFunc and slices.DeleteFunc over a row of numbers of its own.
-/
import Derived.Test.YtkbafiepnnldeaaListW
import Derived.Deep.MidRow
namespace Go.Proofs.Ytkbafiepnnldeaa
open Go.RowKit

def IdxP (p : Int → Bool) (l : List Int) (w : World) (e : Ending) (w' : World) : Prop :=
  ((∃ k : Nat, k < l.length ∧ e = .returned (nV k) ∧ (∀ j, j < k → p (l.getD j 0) = false) ∧ p (l.getD k 0) = true) ∨ (e = .returned (nV (-1)) ∧ ∀ j, j < l.length → p (l.getD j 0) = false)) ∧ Below w.heap.size w w'
theorem getD_in {l : List Int} {k : Nat} (h : k < l.length) : l.getD k 0 ∈ l := by
  rw [List.getD_eq_getElem?_getD, List.getElem?_eq_getElem h]
  exact List.getElem_mem h
set_option maxRecDepth 100000 in
set_option maxHeartbeats 2000000 in
theorem index_any (K : FuncId) (cap : Array Value) (p : Int → Bool) (A : Option Addr) (c : Nat) (l : List Int) (w : World) (hA : Ints w A l) (hK : Enters K) (hn : l.length ≤ 100000)
    (hcall : ∀ x W, x ∈ l → Below w.heap.size w W → Calls Try.prog K (#[nV x] ++ cap) W fun e w' => e = .returned (.bool (p x)) ∧ Below W.heap.size W w') :
    Calls Try.prog 58 #[.slice A l.length c, .func (.func K) #[] cap] w fun e w' => IdxP p l w e w' := by
  have HA := Lib.hid hA
  have HC := Lib.hid hcall
  have eg := hK
  unfold Enters at eg
  clear hA hcall hK
  obtain ⟨n, hnn⟩ : ∃ n, n = l.length := ⟨_, rfl⟩
  rw [← hnn] at hn ⊢
  have HN := Lib.hid hnn
  clear hnn
  go_enter Try.func58, Try.ntmps58
  go_wp2_with fail
  go_loopw [8] (fun i wr => ∃ k : Nat, k ≤ n ∧ i = .int .i64 k ∧ Hid (∀ j, j < k → p (l.getD j 0) = false) ∧ Below w.heap.size w wr) (fun i _ => n - (intOf i).toNat)
  case atStart => exact ⟨0, Nat.zero_le _, rfl, fun j hj => absurd hj (Nat.not_lt_zero _), Below.refl _ _⟩
  case round =>
    obtain ⟨k, hk, rfl, HJ, hB⟩ := hrel
    have HB := Lib.hid hB
    clear hB
    by_cases hlt : k < n
    · have hlw : k < l.length := by rw [← HN.out]; exact hlt
      obtain ⟨b, o, rfl⟩ := HA.out.head (by omega)
      have k0 := (HA.out.keep HB.out).cell hlw
      have HC1 := Lib.hid (HC.out (l.getD k 0) _ (getD_in hlw) HB.out)
      obtain ⟨x, hx⟩ : ∃ x, x = l.getD k 0 := ⟨_, rfl⟩
      rw [← hx] at k0 HC1
      obtain ⟨q, hq⟩ : ∃ q, q = p x := ⟨_, rfl⟩
      rw [← hq] at HC1
      have HX := Lib.hid hx
      have HQ := Lib.hid hq
      have i0 : (0 : Int) ≤ (k : Int) := Int.natCast_nonneg _
      have i1 : (k : Int) < (n : Int) := by omega
      clear hx hlw hq
      cases q
      · go_wp2_with fail
        refine HC1.out.mono ?_
        rintro e w1 ⟨rfl, hB⟩
        have HB1 := Lib.hid hB
        clear hB
        go_wp2_with fail
        go_roundw
        case rel => exact ⟨k + 1, by omega, by go_num, fun j hj => (by
          rcases Nat.lt_or_ge j k with h | h
          · exact HJ j h
          · obtain rfl : j = k := by omega
            rw [← HX.out]; exact HQ.out.symm), below_two HB.out HB1.out⟩
        case measure => simp [intOf]; omega
      · go_wp2_with fail
        refine HC1.out.mono ?_
        rintro e w1 ⟨rfl, hB⟩
        have HF : Hid (IdxP p l w (.returned (nV k)) w1) := ⟨.inl ⟨k, by rw [← HN.out]; exact hlt, rfl, HJ, by rw [← HX.out]; exact HQ.out.symm⟩, below_two HB.out hB⟩
        clear hB
        go_wp2_with fail
        go_ret
        exact HF
    · obtain rfl : k = n := by omega
      have HF : Hid (IdxP p l w (.returned (nV (-1))) wr) := ⟨.inr ⟨rfl, by rw [← HN.out]; exact HJ⟩, HB.out⟩
      clear HJ
      go_wp2_with fail
      go_ret
      exact HF

def zerosL (n : Nat) : List Value := (Builtin.zeroCells (Value.int .i64 0).cells n).toList
theorem zerosL_len (n : Nat) : (zerosL n).length = n := by simp [zerosL, zc_len]
theorem zerosL_one (n : Nat) : ∀ u ∈ zerosL n, u.oneCell' = true := by
  intro u hu
  unfold zerosL at hu
  obtain ⟨i, hi, rfl⟩ := List.getElem_of_mem hu
  have hi' : i < n := by simpa [zc_len] using hi
  have := zc_at hi'
  simp only [Array.getElem_toList]
  rw [Array.getElem?_eq_getElem (by rw [zc_len]; exact hi')] at this
  injection this with this
  rw [this]
  rfl
theorem run_clear_ints (w : World) (ty : TypeId) (g o n c : Nat) (hn : 0 < n) (hc : ∀ j, j < n → (w.cell? ⟨g, o + j, none⟩).isSome = true) (hf : ∀ j, w.frozen? ⟨g, j, none⟩ = false) :
    (Builtin.clear_ #[29] ty #[.slice (some ⟨g, o, none⟩) n c]).run Try.prog w = .ok (.tuple #[]) (w.setCells g o (zerosL n)) := by
  have hst := run_storeCells_cells (P := Try.prog) g o (zerosL n) 0 w (by simpa [zerosL_len] using hc) (by simpa using fun j _ => hf _) (zerosL_one n)
  simp only [Nat.add_zero] at hst
  obtain ⟨m, rfl⟩ : ∃ m, n = m + 1 := ⟨n - 1, by omega⟩
  unfold zerosL at hst ⊢
  simp [Builtin.clear_, run_underlying Try.underlying29, hst]
/-- What a round knows, behind j numbers. -/
structure DI (keep : Int → Bool) (g cap : Nat) (l : List Int) (w : World) (j i : Nat) (f : Nat → Value) (wr : World) : Prop where
  chg : Chg (fun k => k = g) w wr
  row : wr.rowIs g 3 cap f
  num : i = ((l.take j).filter keep).length
  lt : i < j
  got : ∀ p, p < i → f p = nV (((l.take j).filter keep).getD p 0)
  left : ∀ p, j ≤ p → p < l.length → f p = nV (l.getD p 0)
theorem filter_snoc {keep : Int → Bool} {l : List Int} {j : Nat} (hj : j < l.length) : (l.take (j + 1)).filter keep = (l.take j).filter keep ++ if keep (l.getD j 0) then [l.getD j 0] else [] := by
  rw [List.take_succ_eq_append_getElem hj, List.filter_append, List.getD_eq_getElem?_getD, List.getElem?_eq_getElem hj, List.filter_cons, List.filter_nil]
  rfl
section
variable {keep : Int → Bool} {g cap : Nat} {l : List Int} {w : World} {j i : Nat} {f : Nat → Value} {wr wr' : World}
theorem DI.skip (h : DI keep g cap l w j i f wr) (hB : Below wr.heap.size wr wr') (hj : j < l.length) (hk : keep (l.getD j 0) = false) : DI keep g cap l w (j + 1) i f wr' := by
  have e : (l.take (j + 1)).filter keep = (l.take j).filter keep := by rw [filter_snoc hj, hk]; simp
  exact ⟨h.chg.trans (Chg.of_below hB), h.row.of_block (hB.block _ h.row.lt), by rw [e]; exact h.num, by have := h.lt; omega, by rw [e]; exact h.got, fun p h1 h2 => h.left p (by omega) h2⟩
theorem DI.put (h : DI keep g cap l w j i f wr) (hB : Below wr.heap.size wr wr') (hj : j < l.length) (hk : keep (l.getD j 0) = true) :
    DI keep g cap l w (j + 1) (i + 1) (fun p => if p = i then nV (l.getD j 0) else f p) (wr'.setCell ⟨g, i, none⟩ (nV (l.getD j 0))) := by
  have e : (l.take (j + 1)).filter keep = (l.take j).filter keep ++ [l.getD j 0] := by rw [filter_snoc hj, hk]; rfl
  have hlt := h.lt
  refine ⟨Chg.set (h.chg.trans (Chg.of_below hB)) (a := ⟨g, i, none⟩) rfl _, (h.row.of_block (hB.block _ h.row.lt)).set i _, ?_, by omega, fun p hp => ?_, fun p h1 h2 => ?_⟩
  · rw [e, List.length_append, ← h.num]; rfl
  · rw [e]
    by_cases e2 : p = i
    · subst e2
      rw [if_pos rfl, List.getD_eq_getElem?_getD (l := (l.take j).filter keep ++ _), List.getElem?_append_right (by rw [← h.num]; exact Nat.le_refl _), ← h.num]
      simp
    · rw [if_neg e2, List.getD_eq_getElem?_getD, List.getElem?_append_left (by rw [← h.num]; omega), ← List.getD_eq_getElem?_getD]
      exact h.got p (by omega)
  · rw [if_neg (by omega)]
    exact h.left p (by omega) h2
end
/-- What DeleteFunc leaves. -/
def DelFP (keep : Int → Bool) (v : Value) (l : List Int) (w : World) (e : Ending) (w' : World) : Prop :=
  ∃ v', e = .returned v' ∧ Nums w' v' (l.filter keep) ∧ Chg (fun k => v.ownBlock = some k) w w' ∧ v'.ownBlock = v.ownBlock
set_option maxRecDepth 100000 in
set_option maxHeartbeats 4000000 in
theorem delf_any (K : FuncId) (cp : Array Value) (keep : Int → Bool) (v : Value) (l : List Int) (w : World) (hv : Nums w v l) (hK : Enters K) (hn : l.length ≤ 100000)
    (hcall : ∀ x W, x ∈ l → Chg (fun k => v.ownBlock = some k) w W → Calls Try.prog K (#[nV x] ++ cp) W fun e w' => e = .returned (.bool (!keep x)) ∧ Below W.heap.size W w') :
    Calls Try.prog 56 #[v, .func (.func K) #[] cp] w fun e w' => DelFP keep v l w e w' := by
  obtain ⟨A, c, rfl, hA⟩ := hv.len
  have HIX := Lib.hid (index_any K cp (fun x => !keep x) A c l w hv.ints hK hn fun x W hx hB => hcall x W hx (Chg.of_below hB))
  have HV := Lib.hid hv
  have HC := Lib.hid hcall
  have HA := Lib.hid hA
  have eg := hK
  unfold Enters at eg
  obtain ⟨m, hm⟩ : ∃ m, m = l.length := ⟨_, rfl⟩
  rw [← hm] at hn HIX ⊢
  have HM := Lib.hid hm
  clear hA hcall hK hv hm
  go_enter Try.func56, Try.ntmps56
  go_wp2_with fail
  refine HIX.out.mono ?_
  rintro e w1 ⟨hres, hB⟩
  rcases hres with ⟨k, hk, rfl, hall, hx⟩ | ⟨rfl, hall⟩
  · obtain ⟨g, rfl⟩ := HA.out (by omega)
    obtain ⟨g', cap, f, he, hr, hf, hnc, hmx⟩ := HV.out.row rfl
    injection he with e1 _ e3
    injection e1 with e1
    injection e1 with e1 _ _
    subst e1
    subst e3
    have hfk : (l.take k).filter keep = l.take k := List.filter_eq_self.2 fun y hy => by
      obtain ⟨j, hj, rfl⟩ := List.getElem_of_mem hy
      rw [List.length_take] at hj
      have := hall j (by omega)
      rw [List.getD_eq_getElem?_getD, List.getElem?_eq_getElem (by omega)] at this
      rw [List.getElem_take]
      simpa using this
    have hkeepk : keep (l.getD k 0) = false := by simpa using hx
    have hfk1 : (l.take (k + 1)).filter keep = l.take k := by rw [filter_snoc hk, hfk, hkeepk]; simp
    have hd : DI keep g c l w (k + 1) k f w1 := by
      refine ⟨Chg.of_below hB, hr.of_block (hB.block _ hr.lt), by rw [hfk1, List.length_take]; omega, by omega, fun p hp => ?_, fun p _ h2 => hf p h2⟩
      rw [hfk1, hf p (by omega), List.getD_eq_getElem?_getD (l := l.take k), List.getElem?_take_of_lt hp, ← List.getD_eq_getElem?_getD]
    have HD := Lib.hid hd
    have hkm : k < m := by rw [HM.out]; exact hk
    have hk1 : IntKind.i64.wrap ((k : Int) + 1) = ((k + 1 : Nat) : Int) := by rw [IntWalk.i64_in _ (by omega)]; omega
    have hk9 : ((k : Int) == -1) = false := beq_eq_false_iff_ne.2 (by omega)
    have hmc : m ≤ c := by rw [HM.out]; exact hnc
    have hmx' := hmx
    unfold maxLen at hmx'
    have HMX := Lib.hid hmx
    clear hfk hkeepk hfk1 hd hB hall hx hk HIX hr hf hnc hmx
    go_wp2_with fail
    go_loopw [5, 6] (fun iv jv wr => ∃ (j i : Nat) (f : Nat → Value), j ≤ m ∧ iv = .int .i64 i ∧ jv = .int .i64 j ∧ DI keep g c l w j i f wr) (fun _ jv _ => m - (intOf jv).toNat)
    case atStart => exact ⟨k + 1, k, _, by omega, rfl, by go_num, HD.out⟩
    case round =>
      obtain ⟨j, i, X, hj, rfl, rfl, hI⟩ := hrel
      have HI := Lib.hid hI
      have hil := hI.lt
      by_cases hlt : j < m
      · have hjl : j < l.length := by rw [← HM.out]; exact hlt
        have k0 := hI.row.cell (i := j) (by omega)
        rw [hI.left j (Nat.le_refl _) hjl] at k0
        have hcl := HC.out _ wr (getD_in hjl) (hI.chg.mono fun x hx => by subst hx; rfl)
        obtain ⟨x, hx⟩ : ∃ x, x = l.getD j 0 := ⟨_, rfl⟩
        rw [← hx] at k0 hcl
        obtain ⟨q, hq⟩ : ∃ q, q = keep x := ⟨_, rfl⟩
        rw [← hq] at hcl
        have HCL := Lib.hid hcl
        have HX := Lib.hid hx
        have HQ := Lib.hid hq
        have HJL := Lib.hid hjl
        have i0 : (0 : Int) ≤ (j : Int) := Int.natCast_nonneg _
        have i1 : (j : Int) < (m : Int) := by omega
        clear hI hx hcl hq hjl
        cases q
        · go_wp2_with fail
          refine HCL.out.mono ?_
          rintro e w2 ⟨rfl, hB⟩
          have HB2 := Lib.hid hB
          clear hB
          go_wp2_with fail
          go_roundw
          case rel => exact ⟨j + 1, i, X, by omega, rfl, by go_num, HI.out.skip HB2.out HJL.out (by rw [← HX.out]; exact HQ.out.symm)⟩
          case measure => simp [intOf]; omega
        · go_wp2_with fail
          refine HCL.out.mono ?_
          rintro e w2 ⟨rfl, hB⟩
          have hrow := HI.out.row.of_block (hB.block _ HI.out.row.lt)
          have m0 := hrow.cell (i := i) (by omega)
          have mf := hrow.frozen i
          have HPUT := Lib.hid (HI.out.put hB HJL.out (by rw [← HX.out]; exact HQ.out.symm))
          rw [← HX.out] at HPUT
          have i2 : (0 : Int) ≤ (i : Int) := Int.natCast_nonneg _
          have i3 : (i : Int) < (m : Int) := by omega
          clear hB hrow k0
          go_wp2_with fail
          go_roundw
          case rel => exact ⟨j + 1, i + 1, _, by omega, by go_num, by go_num, HPUT.out⟩
          case measure => simp [intOf]; omega
      · obtain rfl : m = j := by omega
        have hic : i < c := by omega
        have hclr := fun ty => run_clear_ints wr ty g i (m - i) (c - i) (by omega) (fun p hp => by rw [hI.row.cell (by omega)]; rfl) (fun p => hI.row.frozen p)
        have hfl : (l.take m).filter keep = l.filter keep := by rw [HM.out, List.take_length]
        have hlen : (l.filter keep).length = i := by rw [← hfl]; exact hI.num.symm
        have hrow2 := Go.rowIs_setCells (zerosL (m - i)) i wr X hI.row
        have HF : Hid (DelFP keep (.slice (some ⟨g, 0, none⟩) m c) l w (.returned (.slice (some ⟨g, 0, none⟩) i c)) (wr.setCells g i (zerosL (m - i)))) := by
          refine ⟨_, rfl, ?_, (hI.chg.setCells (b := g) rfl _ _).mono fun x hx => by rw [hx]; rfl, rfl⟩
          have hnn := Nums.of_row (l := l.filter keep) hrow2 (fun p hp => by
            rw [hlen] at hp
            rw [if_neg (by omega), hI.got p hp, hfl]) (by omega) HMX.out
          rw [hlen] at hnn
          exact hnn
        have i2 : (0 : Int) ≤ (i : Int) := Int.natCast_nonneg _
        have i3 : (i : Int) ≤ (m : Int) := by omega
        have i4 : (i : Int) ≤ (c : Int) := by omega
        have i5 : ¬ (c = i) := by omega
        have i6 : ¬ ((c : Int) = (i : Int)) := by omega
        clear hI hj hlt hfl hlen hrow2
        go_wp2_with fail
        go_ret
        exact HF
  · have hfe : l.filter keep = l := List.filter_eq_self.2 fun x hx' => by
      obtain ⟨j, hj, rfl⟩ := List.getElem_of_mem hx'
      have := hall j hj
      rw [List.getD_eq_getElem?_getD, List.getElem?_eq_getElem hj] at this
      simpa using this
    have HF : Hid (DelFP keep (.slice A m c) l w (.returned (.slice A m c)) w1) := ⟨_, rfl, by rw [hfe, HM.out]; exact HV.out.keep hB, Chg.of_below hB, rfl⟩
    clear hfe hB hall
    go_wp2_with fail
    go_ret
    exact HF
end Go.Proofs.Ytkbafiepnnldeaa
