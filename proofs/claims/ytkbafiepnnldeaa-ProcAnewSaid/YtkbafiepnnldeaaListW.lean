/-
  slices.Clone, List, and whether two lists are the same.
-/
import Derived.Test.YtkbafiepnnldeaaRowW
import Derived.Laws.IdiomStrings
import Derived.Lib.SliceRun
import Derived.Laws.AppendOwnNone
namespace Go.Proofs.Ytkbafiepnnldeaa
open Go.RowKit

theorem info3z : ∃ i0, Try.prog.info? 3 = some i0 ∧ i0.zero = some (.int .i64 0) ∧ i0.size = 1 ∧ i0.bytes = 8 := by
  have h : (Try.prog.info? 3).map (fun i => (i.zero, i.size, i.bytes)) = some (some (.int .i64 0), 1, 8) := by kernel_rfl
  cases hq : Try.prog.info? 3 with
  | none => simp [hq] at h
  | some i =>
    simp [hq] at h
    exact ⟨i, rfl, h.1, h.2.1, h.2.2⟩
/-- Numbers in a list from an address on. -/
def Ints (w : World) (A : Option Addr) (l : List Int) : Prop := ∀ i, i < l.length → ∃ b o, A = some ⟨b, o, none⟩ ∧ w.cell? ⟨b, o + i, none⟩ = some (nV (l.getD i 0))
theorem Ints.keep {w w' : World} {A : Option Addr} {l : List Int} (h : Ints w A l) (hB : Below w.heap.size w w') : Ints w' A l := fun i hi => by
  obtain ⟨b, o, e, hc⟩ := h i hi
  exact ⟨b, o, e, kept hc hB⟩
theorem Nums.ints {w : World} {A : Option Addr} {n c : Nat} {l : List Int} (h : Nums w (.slice A n c) l) : Ints w A l := fun i hi => by
  rcases h.shape with ⟨h1, h2⟩ | ⟨g, cap, cur, hv, _⟩
  · subst h2; simp at hi
  · injection hv with e1 e2 e3
    subst e1
    have := h.at hi
    exact ⟨g, 0, rfl, by rw [Nat.zero_add]; exact this⟩
theorem Ints.head {w : World} {A : Option Addr} {l : List Int} (h : Ints w A l) (hl : 0 < l.length) : ∃ b o, A = some ⟨b, o, none⟩ := by
  obtain ⟨b, o, e, _⟩ := h 0 hl
  exact ⟨b, o, e⟩
theorem Ints.cell {w : World} {b o : Nat} {l : List Int} (h : Ints w (some ⟨b, o, none⟩) l) {i : Nat} (hi : i < l.length) : w.cell? ⟨b, o + i, none⟩ = some (nV (l.getD i 0)) := by
  obtain ⟨b', o', e, hc⟩ := h i hi
  injection e with e
  injection e with e1 e2
  subst e1 e2
  exact hc
/-- A list of one's own, new. -/
def Fresh (l : List Int) (w : World) (e : Ending) (w' : World) : Prop := ∃ v', e = .returned v' ∧ Nums w' v' l ∧ Below w.heap.size w w' ∧ ∀ k, v'.ownBlock = some k → w.heap.size ≤ k
theorem nil_cap {w : World} {n c : Nat} {l : List Int} (h : Nums w (.slice none n c) l) : n = 0 ∧ c = 0 ∧ l = [] := by
  rcases h.shape with ⟨h1, h2⟩ | ⟨g, cap, cur, hv, _⟩
  · injection h1 with _ e1 e2; exact ⟨e1, e2, h2⟩
  · cases hv
set_option maxRecDepth 100000 in
set_option maxHeartbeats 1000000 in
theorem clone_any (v : Value) (l : List Int) (w : World) (hv : Nums w v l) (hn : l.length ≤ 100000) : Calls Try.prog 34 #[v] w fun e w' => Fresh l w e w' := by
  have q23 := fun (w : World) (a : Option Addr) (n c n' c' : Nat) => Lib.run_eql_slice_nil (P := Try.prog) w 29 3 a n c n' c' Try.underlying29
  obtain ⟨A, c, rfl, hA⟩ := hv.len
  cases A with
  | none =>
    obtain ⟨_, h0, rfl⟩ := nil_cap hv
    subst h0
    clear hA
    go_enter Try.func34, Try.ntmps34
    go_wp2_with fail
    go_ret
    exact ⟨_, rfl, Nums.nil _, Below.refl _ _, fun k e => by cases e⟩
  | some a =>
    obtain ⟨i0, hi, hz0, hz1, hz2⟩ := info3z
    have hown : (w.alloc (.cells #[] 3)).ownsRow w.heap.size 3 1 (.slice (some ⟨w.heap.size, 0, none⟩) 0 0) 0 [] := World.ownsRow_lit w #[] 0 (Nat.le_refl _) (by decide) rfl
    have hB : Below w.heap.size w (w.alloc (.cells #[] 3)) := (Below.refl _ _).alloc (Nat.le_refl _) _
    have hnews : ∀ j u, (l.map nV)[j]? = some u → (w.alloc (.cells #[] 3)).cell? (a.add j) = some u := by
      intro j u hu
      have hj : j < l.length := by have := (List.getElem?_eq_some_iff.1 hu).1; simpa using this
      obtain ⟨b, o, e, hc⟩ := hv.ints j hj
      injection e with e
      subst e
      rw [List.getElem?_map, getD_of hj] at hu
      injection hu with hu
      subst hu
      rw [Go.WideShapes.add_plain]
      exact kept hc hB
    have hone : ∀ u ∈ l.map nV, u.oneCell' = true := one_nV rfl
    obtain ⟨n, hnl⟩ : ∃ n, n = l.length := ⟨_, rfl⟩
    have hlen : (l.map nV).length = n := by simp [hnl]
    rw [← hnl] at hn ⊢
    obtain ⟨xs, hxs⟩ : ∃ xs, xs = l.map nV := ⟨_, rfl⟩
    rw [← hxs] at hnews hone hlen
    have HNW := Lib.hid hnews
    have HB := Lib.hid hB
    have HLN := Lib.hid hlen
    have HON := Lib.hid hone
    have HXS := Lib.hid hxs
    have HNL := Lib.hid hnl
    clear hA hB hnews hlen hone hxs hnl hv
    go_enter Try.func34, Try.ntmps34
    go_wp2_with (at_builtin; refine wpList_append_own _ rfl _ _ 29 rfl w.heap.size 3 i0 (.int .i64 0) 1 8 Try.underlying29 hi hz0 hz1 hz2 rfl (by decide) _ _ _ rfl hown a n c xs rfl ?c0 ?c1 ?c2 ?c3 ?c4 ?c5 ?_)
    case c0 => rw [HLN.out, Nat.mul_one]
    case c1 => exact HNW.out
    case c2 => exact HON.out
    case c3 => unfold maxLen; simp; omega
    case c4 => simp; omega
    case c5 => simp
    intro v' w1 hown' hgrow _
    have hO : w1.ownsRow w.heap.size 3 1 v' n xs := by simpa using hown'
    have hF : Fresh l w (.returned v') w1 := by
      refine ⟨v', rfl, ?_, HB.out.grown hgrow (by simp) (fun k hk => (World.ownsRow.lt hown k hk).1), fun k hk => (World.ownsRow.lt hO k hk).1⟩
      rw [HXS.out, HNL.out] at hO
      refine ⟨hO.1, ?_⟩
      rcases hO.2 with h1 | ⟨g, cap, cur, hv, hb0, hg, rest⟩
      · exact .inl h1
      · exact .inr ⟨g, cap, cur, hv, Nat.zero_le _, hg, rest⟩
    have HF := Lib.hid hF
    clear hown' hgrow hown hO hF
    go_wp2_with fail
    go_ret
    exact HF.out
theorem below_dn (w : World) (q : Nat) : Below w.heap.size w (w.drewN q) := ⟨rfl, rfl, rfl, Nat.le_refl _, fun _ _ => rfl⟩
def SameP (l r : List Int) (w : World) (e : Ending) (w' : World) : Prop := e = .returned (.bool (decide (l = r))) ∧ Below w.heap.size w w'
theorem lists_eq {l r : List Int} (hl : l.length = r.length) (h : ∀ j, j < l.length → l.getD j 0 = r.getD j 0) : l = r := by
  refine List.ext_getElem hl fun j h1 h2 => ?_
  have := h j h1
  simp only [List.getD_eq_getElem?_getD, List.getElem?_eq_getElem h1, List.getElem?_eq_getElem h2, Option.getD_some] at this
  exact this
set_option maxRecDepth 100000 in
set_option maxHeartbeats 1000000 in
theorem same_any (A B : Option Addr) (c d : Nat) (l r : List Int) (w : World) (hA : Ints w A l) (hB : Ints w B r) (hn : l.length ≤ 100000) : Calls Try.prog 17 #[.slice A l.length c, .slice B r.length d] w fun e w' => SameP l r w e w' := by
  by_cases hlen : l.length = r.length
  · obtain ⟨n, hnn⟩ : ∃ n, n = l.length := ⟨_, rfl⟩
    rw [← hlen, ← hnn]
    rw [← hnn] at hn
    have HA := Lib.hid hA
    have HBB := Lib.hid hB
    have HN := Lib.hid hnn
    have HL := Lib.hid hlen
    clear hA hB hnn hlen
    go_enter Try.func17, Try.ntmps17
    go_wp2_with fail
    go_loopw [5] (fun i wr => ∃ k : Nat, k ≤ n ∧ i = .int .i64 k ∧ Below w.heap.size w wr ∧ Hid (∀ j, j < k → l.getD j 0 = r.getD j 0)) (fun i _ => n - (intOf i).toNat)
    case atStart => exact ⟨0, Nat.zero_le _, rfl, Below.refl _ _, fun j hj => absurd hj (Nat.not_lt_zero _)⟩
    case round =>
      obtain ⟨k, hk, rfl, hB, HI⟩ := hrel
      have HB := Lib.hid hB
      clear hB
      by_cases hlt : k < n
      · have h1 : k < l.length := by rw [← HN.out]; exact hlt
        have h2 : k < r.length := by rw [← HL.out]; exact h1
        obtain ⟨b1, o1, rfl⟩ := HA.out.head (by omega)
        obtain ⟨b2, o2, rfl⟩ := HBB.out.head (by omega)
        have k1 := (HA.out.keep HB.out).cell h1
        have k2 := (HBB.out.keep HB.out).cell h2
        obtain ⟨x, hx⟩ : ∃ x, x = l.getD k 0 := ⟨_, rfl⟩
        obtain ⟨y, hy⟩ : ∃ y, y = r.getD k 0 := ⟨_, rfl⟩
        rw [← hx] at k1
        rw [← hy] at k2
        have HX := Lib.hid hx
        have HY := Lib.hid hy
        have i0 : (0 : Int) ≤ (k : Int) := Int.natCast_nonneg _
        have i1 : (k : Int) < (n : Int) := by omega
        clear h1 h2 hx hy
        by_cases hxy : x = y
        · go_wp2_with fail
          go_quiet (fail)
          go_wp2_with fail
          go_roundw
          case rel => exact ⟨k + 1, by omega, by go_num, below_two HB.out (below_dn _ _), fun j hj => by
            rcases Nat.lt_or_ge j k with h | h
            · exact HI j h
            · obtain rfl : j = k := by omega
              rw [← HX.out, ← HY.out]; exact hxy⟩
          case measure => simp [intOf]; omega
        · have HF : Hid (l ≠ r) := fun e => hxy (by rw [HX.out, HY.out, e])
          go_wp2_with fail
          go_quiet (fail)
          go_wp2_with fail
          go_ret
          exact ⟨by rw [decide_eq_false (show ¬ l = r from HF)]; rfl, below_two HB.out (below_dn _ _)⟩
      · obtain rfl : k = n := by omega
        have HF : Hid (l = r) := lists_eq HL.out (by rw [← HN.out]; exact HI)
        clear HI
        go_wp2_with fail
        go_ret
        exact ⟨by rw [decide_eq_true (show l = r from HF)]; rfl, HB.out⟩
  · have HF : Hid (l ≠ r) := fun e => hlen (by rw [e])
    have h2 : ¬ ((l.length : Int) = (r.length : Int)) := by omega
    clear hA hB
    obtain ⟨n, hnn⟩ : ∃ n, n = l.length := ⟨_, rfl⟩
    obtain ⟨m, hm⟩ : ∃ m, m = r.length := ⟨_, rfl⟩
    rw [← hnn, ← hm] at h2 ⊢
    clear hnn hm hlen hn
    go_enter Try.func17, Try.ntmps17
    go_wp2_with fail
    go_ret
    exact ⟨by rw [decide_eq_false (show ¬ l = r from HF)]; rfl, Below.refl _ _⟩
end Go.Proofs.Ytkbafiepnnldeaa
