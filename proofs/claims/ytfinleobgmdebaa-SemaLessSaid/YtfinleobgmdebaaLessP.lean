/-
  The law of those who are dropped or expire: who waits, pure.
-/
import Derived.Test.YtfinleobgmdebaaSemP
namespace Go.Proofs.Ytfinleobgmdebaa

/-- The deadline that a byte tells. -/
def U (l : List Int) (i : Nat) : Int := if 0 < l.getD i 0 then l.getD i 0 else -1
def mkW (l : List Int) (i : Nat) : Wt := ⟨toId (i : Int), 5, U l i, 2 * i + 1⟩
theorem mkW_id {l : List Int} {i : Nat} (h : i < 100) : ((mkW l i).id.val : Int) = i := toId_val (id := (i : Int)) (by omega)
structure Ld (l : List Int) (k : Nat) (S : Ln) : Prop where
  ok : Ok S
  q : S.q = (List.range k).map (mkW l)
  n : S.n = 2 * k
  now : S.now = 0
theorem Ld.new (l : List Int) : Ld l 0 Ln.new := ⟨ok_new, rfl, rfl, rfl⟩
theorem Ld.putE {l : List Int} {k : Nat} {S : Ln} (h : Ld l k S) (hk : k < 40) (hl : 0 ≤ l.getD k 0 ∧ l.getD k 0 ≤ 255) : S.putE k 5 (-1) = 0 ∧ S.bump.putE k 5 (U l k) = 0 := by
  have hh : S.has (k : Int) = false := by
    cases hs : S.has (k : Int) with
    | false => rfl
    | true =>
      obtain ⟨a, ha, e⟩ := has_iff.1 hs
      rw [h.q] at ha
      obtain ⟨i, hi, rfl⟩ := List.mem_map.1 ha
      have hi := List.mem_range.1 hi
      rw [mkW_id (by omega)] at e
      omega
  have hb : S.bump.has (k : Int) = false := hh
  have hnow : S.bump.now = 0 := h.now
  have hU : ¬ (U l k ≠ -1 ∧ (U l k ≤ S.bump.now ∨ 1099511627776 < U l k)) := by
    rw [hnow]; unfold U; split <;> omega
  unfold Ln.putE
  rw [if_neg (by omega), if_neg (by omega), if_neg (by simp), if_neg (by rw [hh]; simp), if_neg (by omega), if_neg (by omega), if_neg hU, if_neg (by rw [hb]; simp)]
  exact ⟨rfl, rfl⟩
theorem Ld.step {l : List Int} {k : Nat} {S : Ln} (h : Ld l k S) (hk : k < 40) (hl : 0 ≤ l.getD k 0 ∧ l.getD k 0 ≤ 255) : Ld l (k + 1) (S.bump.put k 5 (U l k)) := by
  obtain ⟨_, h2⟩ := h.putE hk hl
  have hx : (⟨toId (k : Int), 5, U l k, S.n + 1⟩ : Wt) = mkW l k := by unfold mkW; rw [h.n]
  have hq : (S.bump.put k 5 (U l k)).q = ins (mkW l k) S.q := by unfold Ln.put; rw [if_pos h2, ← hx]; rfl
  have hn : (S.bump.put k 5 (U l k)).n = S.n + 2 := by unfold Ln.put; rw [if_pos h2]; rfl
  have hw : (S.bump.put k 5 (U l k)).now = S.now := by unfold Ln.put; rw [if_pos h2]; rfl
  refine ⟨ok_put (ok_bump h.ok) _ _ _, ?_, by rw [hn, h.n]; omega, by rw [hw, h.now]⟩
  have hall : ∀ a ∈ S.q, Bef a (mkW l k) := fun a ha => by
    rw [h.q] at ha
    obtain ⟨i, hi, rfl⟩ := List.mem_map.1 ha
    have hi := List.mem_range.1 hi
    exact .inr ⟨rfl, by show 2 * i + 1 < 2 * k + 1; omega⟩
  rw [hq]
  unfold ins
  rw [List.filter_eq_self.2 (fun a ha => decide_eq_true (hall a ha)), List.filter_eq_nil_iff.2 (fun a ha => by simp [hall a ha]), h.q, List.range_succ, List.map_append]
  rfl
theorem wait_ld {l : List Int} {k : Nat} {S : Ln} (h : Ld l k S) (hk : k < 40) (hl : 0 ≤ l.getD k 0 ∧ l.getD k 0 ≤ 255) {m : Nat} : (⟨S, 0, m⟩ : Sm).waitE k 5 (U l k) = (false, 0) ∧ (⟨S, 0, m⟩ : Sm).wait k 5 (U l k) = ⟨S.bump.put k 5 (U l k), 0, m⟩ := by
  obtain ⟨h1, h2⟩ := h.putE hk hl
  have h0 : ¬ U l k = 0 := by unfold U; split <;> omega
  unfold Sm.waitE Sm.wait
  constructor
  · rw [if_neg (by show ¬ S.putE k 5 (-1) ≠ 0; rw [h1]; simp), if_neg (by simp), if_neg h0]
    show (false, S.bump.putE k 5 (U l k)) = _
    rw [h2]
  · rw [if_neg (by show ¬ S.putE k 5 (-1) ≠ 0; rw [h1]; simp), if_neg (by simp), if_neg h0]
/-- Whether one is let in: it is neither dropped, nor does it expire. -/
def skips (l : List Int) (gone now : Int) (i : Nat) : Bool := decide ((i : Int) = gone) || (decide (0 < l.getD i 0) && decide (l.getD i 0 ≤ now))
/-- Who is left from i on. -/
structure Rst (l : List Int) (n : Nat) (gone now : Int) (i : Nat) (S : Ln) : Prop where
  ok : Ok S
  q : S.q = (((List.range n).drop i).filter fun j => !skips l gone now j).map (mkW l)
  n : S.n = 2 * n
theorem Ld.drop {l : List Int} {k : Nat} {S : Ln} (h : Ld l k S) (hk : k ≤ 40) {g : Nat} (hg : g < k) : S.dropE g = 0 ∧ Ok (S.drop g) ∧ (S.drop g).q = ((List.range k).filter fun (j : Nat) => !decide ((j : Int) = (g : Int))).map (mkW l) ∧ (S.drop g).n = 2 * k ∧ (S.drop g).now = 0 := by
  have hh : S.has (g : Int) = true := has_iff.2 ⟨mkW l g, by rw [h.q]; exact List.mem_map.2 ⟨g, List.mem_range.2 hg, rfl⟩, mkW_id (by omega)⟩
  have e : S.drop (g : Int) = S.without (toId (g : Int)) := by unfold Ln.drop; rw [if_pos hh]
  refine ⟨by unfold Ln.dropE; rw [if_pos hh], ok_drop h.ok _, ?_, by rw [e]; exact h.n, by rw [e]; exact h.now⟩
  rw [e]
  show S.q.filter _ = _
  rw [h.q, List.filter_map]
  congr 1
  refine List.filter_congr fun j hj => ?_
  have hj := List.mem_range.1 hj
  show (!decide ((mkW l j).id = toId (g : Int))) = _
  congr 1
  rw [decide_eq_decide]
  have h1 := mkW_id (l := l) (i := j) (by omega)
  have h2 := toId_val (id := (g : Int)) (by omega)
  constructor
  · intro e; rw [e] at h1; omega
  · intro e; apply Fin.ext; omega
theorem rst_of {l : List Int} {k : Nat} {S : Ln} {gone now : Int} (ok : Ok S) (hq : S.q = ((List.range k).filter fun (j : Nat) => !decide ((j : Int) = gone)).map (mkW l)) (hn : S.n = 2 * k) (hw : S.now = 0) (hl : ∀ i, 0 ≤ l.getD i 0 ∧ l.getD i 0 ≤ 255) (h0 : 0 ≤ now ∧ now ≤ 255) : S.expE now = 0 ∧ Rst l k gone now 0 (S.expire now) := by
  have he : S.expE now = 0 := by unfold Ln.expE; rw [if_neg (by omega)]
  refine ⟨he, ok_expire ok _, ?_, by rw [(expire_len S now).2]; exact hn⟩
  have e : (S.expire now).q = S.q.filter (fun a => !Wt.due now a) := by unfold Ln.expire; rw [if_pos he]
  rw [e, hq, List.filter_map, List.filter_filter, List.drop_zero]
  congr 1
  refine List.filter_congr fun j _ => ?_
  have h1 := hl j
  show (!Wt.due now (mkW l j) && !decide ((j : Int) = gone)) = !skips l gone now j
  unfold skips Wt.due mkW U
  rw [Bool.not_or, Bool.and_comm]
  congr 2
  by_cases c : 0 < l.getD j 0
  · simp only [if_pos c, decide_eq_true c, Bool.true_and]
    rw [decide_eq_true (show l.getD j 0 ≠ -1 by omega), Bool.true_and]
  · simp only [if_neg c, decide_eq_false c, Bool.false_and]
    rfl
theorem Ld.rest0 {l : List Int} {k : Nat} {S : Ln} (h : Ld l k S) : S.q = ((List.range k).filter fun (j : Nat) => !decide ((j : Int) = (-1))).map (mkW l) := by
  rw [h.q]
  congr 1
  rw [List.filter_eq_self.2 fun j _ => by simp only [Bool.not_eq_true', decide_eq_false_iff_not]; omega]
theorem Rst.skip {l : List Int} {n i : Nat} {gone now : Int} {S : Ln} (h : Rst l n gone now i S) (hi : i < n) (hs : skips l gone now i = true) : Rst l n gone now (i + 1) S := by
  refine ⟨h.ok, ?_, h.n⟩
  rw [h.q, List.drop_eq_getElem_cons (by simpa using hi), List.getElem_range, List.filter_cons_of_neg (by simp [hs])]
theorem Rst.take {l : List Int} {n i : Nat} {gone now : Int} {S : Ln} (h : Rst l n gone now i S) (hn : n ≤ 40) (hi : i < n) (hs : skips l gone now i = false) : S.any = true ∧ S.first = (i : Int) ∧ Rst l n gone now (i + 1) S.take := by
  have hq := h.q
  rw [List.drop_eq_getElem_cons (by simpa using hi), List.getElem_range, List.filter_cons_of_pos (by simp [hs]), List.map_cons] at hq
  have ht : S.take = S.without (mkW l i).id := by unfold Ln.take; rw [hq]
  refine ⟨by unfold Ln.any; rw [hq]; rfl, by unfold Ln.first; rw [hq]; exact mkW_id (by omega), ok_take h.ok, ?_, by rw [(take_len S).2, h.n]⟩
  rw [ht]
  show S.q.filter _ = _
  have hd := h.ok.ids
  rw [hq, List.map_cons, List.nodup_cons] at hd
  rw [hq, List.filter_cons_of_neg (by simp), List.filter_eq_self]
  intro b hb
  simp only [Bool.not_eq_true', decide_eq_false_iff_not]
  intro e
  exact hd.1 (List.mem_map.2 ⟨b, hb, e⟩)
theorem Rst.none {l : List Int} {n : Nat} {gone now : Int} {S : Ln} (h : Rst l n gone now n S) : S.any = false := by
  have hq := h.q
  rw [List.drop_of_length_le (by simp)] at hq
  unfold Ln.any
  rw [hq]
  rfl
theorem Rst.len {l : List Int} {n i : Nat} {gone now : Int} {S : Ln} (h : Rst l n gone now i S) : S.q.length ≤ n := by
  rw [h.q, List.length_map]
  exact Nat.le_trans (List.length_filter_le _ _) (by simp)
end Go.Proofs.Ytfinleobgmdebaa
