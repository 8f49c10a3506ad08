/-
  Calls in a row of one's own; what a line has kept of the calls that came (pure).
-/
import Derived.Test.YtagfhlnedaagbaaOpenX
import Derived.Test.YtagfhlnedaagbaaAwkX
namespace Go.Proofs.Ytagfhlnedaagbaa
open Go.RowKit

theorem info32z : ∃ i0, Try.prog.info? 32 = some i0 ∧ i0.zero = some (.agg #[.int .i64 0, .int .i64 0, .int .i64 0, .int .i64 0]) ∧ i0.size = 4 ∧ i0.bytes = 32 := by
  have h : (Try.prog.info? 32).map (fun i => (i.zero, i.size, i.bytes)) = some (some (.agg #[.int .i64 0, .int .i64 0, .int .i64 0, .int .i64 0]), 4, 32) := by kernel_rfl
  cases hq : Try.prog.info? 32 with
  | none => simp [hq] at h
  | some i =>
    simp [hq] at h
    exact ⟨i, rfl, h.1, h.2.1, h.2.2⟩
/-- A row of calls of one's own. -/
def Rows (w : World) (v : Value) (l : List CallA) : Prop := w.ownsRow 0 32 4 v l.length (l.flatMap xC)
theorem flatC_len (l : List CallA) : (l.flatMap xC).length = l.length * 4 := by
  induction l with
  | nil => rfl
  | cons a r ih => simp only [List.flatMap_cons, List.length_append, ih, List.length_cons]; simp only [xC, List.length_cons, List.length_nil]; omega
theorem flatC_at (l : List CallA) : ∀ (i : Nat), i < l.length → ∀ j, j < 4 → (l.flatMap xC)[i * 4 + j]? = (xC (l.getD i dX))[j]? := by
  induction l with
  | nil => intro i h; simp at h
  | cons a r ih =>
    intro i h j hj
    rw [List.flatMap_cons]
    cases i with
    | zero =>
      rw [List.getElem?_append_left (by simp only [xC, List.length_cons, List.length_nil]; omega)]
      simp
    | succ i =>
      rw [List.getElem?_append_right (by simp only [xC, List.length_cons, List.length_nil]; omega)]
      have := ih i (by simpa using h) j hj
      rw [show (i + 1) * 4 + j - (xC a).length = i * 4 + j by simp only [xC, List.length_cons, List.length_nil]; omega, this]
      simp
section
variable {w w' : World} {v : Value} {l : List CallA}
theorem Rows.shape (h : Rows w v l) : (v = .slice Option.none 0 0 ∧ l = []) ∨ ∃ g cap cur, v = .slice (some ⟨g, 0, Option.none⟩) l.length cap ∧ w.heap[g]? = some (.cells cur 32 (0, 0)) ∧ l.length ≤ cap ∧ cap ≤ maxLen ∧ cur.toList.take (l.length * 4) = l.flatMap xC := by
  rcases h.2 with ⟨h1, h2⟩ | ⟨g, cap, cur, hv, _, hg, hn, hm, hs, ht⟩
  · exact .inl ⟨h1, List.length_eq_zero_iff.1 h2⟩
  · exact .inr ⟨g, cap, cur, hv, hg, hn, hm, ht⟩
theorem Rows.lt (h : Rows w v l) {x : Nat} (hx : v.ownBlock = some x) : x < w.heap.size := (World.ownsRow.lt h x hx).2
theorem Rows.same (h : Rows w v l) (hb : ∀ x, v.ownBlock = some x → w'.heap[x]? = w.heap[x]?) : Rows w' v l := by
  refine ⟨h.1, ?_⟩
  rcases h.2 with h1 | ⟨g, cap, cur, hv, hb0, hg, rest⟩
  · exact .inl h1
  · exact .inr ⟨g, cap, cur, hv, hb0, by rw [hb g (by rw [hv]; rfl)]; exact hg, rest⟩
theorem Rows.keep (h : Rows w v l) (hB : Below w.heap.size w w') : Rows w' v l := h.same fun _ hx => hB.block _ (h.lt hx)
theorem Rows.len (h : Rows w v l) : ∃ A cap, v = .slice A l.length cap := by
  rcases h.shape with ⟨h1, h2⟩ | ⟨g, cap, cur, hv, _⟩
  · subst h2; exact ⟨Option.none, 0, h1⟩
  · exact ⟨_, cap, hv⟩
theorem Rows.calls {A : Option Addr} {n c : Nat} (h : Rows w (.slice A n c) l) : CallsAt w A l := fun i hi => by
  rcases h.shape with ⟨_, h2⟩ | ⟨g, cap, cur, hv, hg, hn, hm, ht⟩
  · subst h2; simp at hi
  · injection hv with e1 e2 e3
    subst e1
    refine ⟨g, 0, rfl, fun j u hu => ?_⟩
    have hj : j < 4 := by
      have := (List.getElem?_eq_some_iff.1 hu).1
      simpa [xC] using this
    have h1 : cur[i * 4 + j]? = some u := by
      have h2 : cur.toList[i * 4 + j]? = (l.flatMap xC)[i * 4 + j]? := by rw [← ht, List.getElem?_take_of_lt (by omega)]
      rw [flatC_at l i hi j hj, hu] at h2
      simpa using h2
    rw [Nat.zero_add]
    simp [World.cell?, hg, h1]
theorem Rows.far {g b : Nat} {vq vq' : Value} (h : Rows w v l) (hf : ∀ k, Far w g b vq k → w'.heap[k]? = w.heap[k]? ∧ Far w' g b vq' k) (hd : ∀ x, v.ownBlock = some x → ¬ Blk g b vq x) : Rows w' v l ∧ ∀ x, v.ownBlock = some x → ¬ Blk g b vq' x :=
  ⟨h.same fun x hx => (hf x ⟨h.lt hx, hd x hx⟩).1, fun x hx => (hf x ⟨h.lt hx, hd x hx⟩).2.2⟩
end
/-- The append of one call. -/
theorem wpList_appC {ops : Array Oper} {rest : List Oper} {o : Oper} {a : Act} {Q : Exit → Act → World → Prop} (hgd : o.guard = Option.none) (s x : Operand)
    (ho : o.op = .call { callee := .builtin .append, args := #[s, x], argTypes := #[22, 22] }) {w : World} {v : Value} {l : List CallA} {y : CallA} (h : Rows w v l) (hk : l.length ≤ 100000)
    (hs : a.eval s = v) (hx : a.eval x = .slice (some ⟨w.heap.size, 0, Option.none⟩) 1 1)
    (hQ : ∀ g' cap' w2, Rows w2 (.slice (some ⟨g', 0, Option.none⟩) (l.length + 1) cap') (l ++ [y]) → Chg (fun x => v.ownBlock = some x) w w2 → (v.ownBlock = some g' ∨ w.heap.size ≤ g') → wpList Try.prog ops Q rest (a.put o.dst (.slice (some ⟨g', 0, Option.none⟩) (l.length + 1) cap')) w2) :
    wpList Try.prog ops Q (o :: rest) a (w.alloc (.cells #[nV y.1, nV y.2.1, nV y.2.2.1, nV y.2.2.2] 32)) := by
  obtain ⟨i0, hi, hz0, hz1, hz2⟩ := info32z
  have hA : Below w.heap.size w (w.alloc (.cells #[nV y.1, nV y.2.1, nV y.2.2.1, nV y.2.2.2] 32)) := (Below.refl _ _).alloc (Nat.le_refl _) _
  have hown := h.keep hA
  refine wpList_append_lies _ hgd s x 22 ho 0 32 i0 _ 4 32 Try.underlying22 hi hz0 hz1 hz2 rfl (by decide) v l.length (l.flatMap xC) hs hown ⟨w.heap.size, 0, Option.none⟩ 1 1 (xC y) hx rfl ?_ ?_ (by decide) (by unfold maxLen; omega) ?_ (Nat.zero_le _) (w.heap.size + 1) (by simp) ?_
  · exact World.news_of_block (heap_alloc_new w (.cells #[nV y.1, nV y.2.1, nV y.2.2.1, nV y.2.2.2] 32))
  · intro u' hu'
    simp only [xC, List.mem_cons, List.not_mem_nil, or_false] at hu'
    rcases hu' with rfl | rfl | rfl | rfl <;> rfl
  · omega
  · intro g' cap' w2 hown' hgrow hat hlt
    have hCa : Chg (fun x => v.ownBlock = some x) (w.alloc (.cells #[nV y.1, nV y.2.1, nV y.2.2.1, nV y.2.2.2] 32)) w2 := ⟨hgrow.os, hgrow.tape, hgrow.output, hgrow.size, fun x hx hn => hgrow.block x hx (fun e => hn e.symm)⟩
    refine hQ g' cap' w2 ?_ ((Chg.of_below hA).trans hCa) (hat.elim .inl fun e => .inr (by omega))
    unfold Rows
    rw [List.length_append, List.flatMap_append]
    simpa using hown'

/-! ### what a line has kept -/
abbrev dW : Wt := ⟨⟨0, by decide⟩, 0, 0, 0⟩
structure Cm (S : Ln) (l : List CallA) : Prop where
  n : S.n = l.length
  len : S.q.length = l.length
  get : ∀ a ∈ S.q, (l.getD a.arr dX).2.1 = (a.id.val : Int) ∧ (l.getD a.arr dX).2.2.1 = a.prio
  all : ∀ j, j < l.length → ∃ a ∈ S.q, a.arr = j
theorem Cm.new : Cm Ln.new [] := ⟨rfl, rfl, fun a ha => by simp [Ln.new] at ha, fun j hj => by simp at hj⟩
theorem getD_app_lt {α : Type} {l : List α} {y d : α} {i : Nat} (h : i < l.length) : (l ++ [y]).getD i d = l.getD i d := by
  simp [List.getD, List.getElem?_append_left h]
theorem getD_app_eq {α : Type} {l : List α} {y d : α} : (l ++ [y]).getD l.length d = y := by simp [List.getD]
theorem Cm.put {S : Ln} {l : List CallA} (h : Cm S l) (ok : Ok S) {y : CallA} (he : S.putE y.2.1 y.2.2.1 y.2.2.2 = 0) : Cm (S.put y.2.1 y.2.2.1 y.2.2.2) (l ++ [y]) := by
  obtain ⟨h1, h2, h3, h4⟩ := putE_ok he
  unfold Ln.put
  rw [if_pos he]
  refine ⟨by simp [h.n], ?_, fun a ha => ?_, fun j hj => ?_⟩
  · show (ins _ S.q).length = _
    rw [(ins_perm _ _).length_eq, List.length_cons, h.len, List.length_append]
    rfl
  · rcases ins_mem.1 ha with rfl | ha
    · show ((l ++ [y]).getD S.n dX).2.1 = _ ∧ _
      rw [h.n, getD_app_eq]
      exact ⟨(toId_val h1).symm, rfl⟩
    · rw [getD_app_lt (by rw [← h.n]; exact ok.arr a ha)]
      exact h.get a ha
  · rw [List.length_append] at hj
    rcases Nat.lt_or_ge j l.length with hl | hl
    · obtain ⟨a, ha, e⟩ := h.all j hl
      exact ⟨a, ins_mem.2 (.inr ha), e⟩
    · refine ⟨_, ins_mem.2 (.inl rfl), ?_⟩
      simp only [List.length_cons, List.length_nil] at hj
      show S.n = j
      rw [h.n]
      omega
theorem put_no {S : Ln} {id prio til : Int} (h : S.putE id prio til ≠ 0) : S.put id prio til = S := by unfold Ln.put; rw [if_neg h]
theorem put_n {S : Ln} {id prio til : Int} : (S.put id prio til).n ≤ S.n + 1 := by
  unfold Ln.put
  split
  · exact Nat.le_refl _
  · exact Nat.le_succ _
theorem id_inj {q : List Wt} (h : (q.map (·.id)).Nodup) {a b : Wt} (ha : a ∈ q) (hb : b ∈ q) (e : a.id = b.id) : a = b := by
  induction q with
  | nil => simp at ha
  | cons x r ih =>
    rw [List.map_cons, List.nodup_cons] at h
    rcases List.mem_cons.1 ha with e1 | ha'
    · rcases List.mem_cons.1 hb with e2 | hb'
      · rw [e1, e2]
      · exact absurd (List.mem_map.2 ⟨b, hb', by rw [← e, e1]⟩) h.1
    · rcases List.mem_cons.1 hb with e2 | hb'
      · exact absurd (List.mem_map.2 ⟨a, ha', by rw [e, e2]⟩) h.1
      · exact ih h.2 ha' hb'
theorem q_mem {S : Ln} {i : Nat} (h : i < S.q.length) : S.q.getD i dW ∈ S.q := by
  rw [List.getD_eq_getElem?_getD, List.getElem?_eq_getElem h]
  exact List.getElem_mem h
theorem numsC_at {S : Ln} {i : Nat} (h : i < S.q.length) : S.nums.getD i 0 = ((S.q.getD i dW).id.val : Int) := by
  unfold Ln.nums
  simp [List.getD, List.getElem?_eq_getElem h]
theorem who_iff {S : Ln} {l : List CallA} (h : Cm S l) (ok : Ok S) {i j : Nat} (hi : i < S.q.length) (hj : j < l.length) : (l.getD j dX).2.1 = S.nums.getD i 0 ↔ j = (S.q.getD i dW).arr := by
  rw [numsC_at hi]
  constructor
  · intro e
    obtain ⟨a, ha, rfl⟩ := h.all j hj
    rw [(h.get a ha).1] at e
    rw [id_inj ok.ids ha (q_mem hi) (Fin.ext (by omega))]
  · rintro rfl
    exact (h.get _ (q_mem hi)).1
/-- The places where those ahead of i came. -/
def arrs (S : Ln) (i : Nat) : List Int := (S.q.take i).map fun a => (a.arr : Int)
theorem arrs_len {S : Ln} {i : Nat} (h : i ≤ S.q.length) : (arrs S i).length = i := by simp [arrs]; omega
theorem arrs_at {S : Ln} {i t : Nat} (h : i ≤ S.q.length) (ht : t < i) : (arrs S i).getD t 0 = ((S.q.getD t dW).arr : Int) := by
  unfold arrs
  have h1 : t < S.q.length := by omega
  simp [List.getD, List.getElem?_take_of_lt ht, List.getElem?_eq_getElem h1]
theorem arrs_succ {S : Ln} {i : Nat} (h : i < S.q.length) : arrs S (i + 1) = arrs S i ++ [((S.q.getD i dW).arr : Int)] := by
  unfold arrs
  rw [List.take_add_one, List.map_append, List.getElem?_eq_getElem h, List.getD_eq_getElem?_getD, List.getElem?_eq_getElem h]
  rfl
def mid (S : Ln) (i k : Nat) : List Int := arrs S i ++ if (S.q.getD i dW).arr < k then [((S.q.getD i dW).arr : Int)] else []
theorem mid_zero {S : Ln} {i : Nat} : mid S i 0 = arrs S i := by simp [mid]
theorem mid_end {S : Ln} {l : List CallA} (h : Cm S l) (ok : Ok S) {i : Nat} (hi : i < S.q.length) : mid S i l.length = arrs S (i + 1) := by
  unfold mid
  rw [if_pos (by rw [← h.n]; exact ok.arr _ (q_mem hi)), arrs_succ hi]
theorem mid_yes {S : Ln} {i k : Nat} (h : k = (S.q.getD i dW).arr) : mid S i (k + 1) = mid S i k ++ [(k : Int)] := by
  unfold mid
  rw [if_pos (by omega), if_neg (by omega), ← h]
  simp
theorem mid_no {S : Ln} {i k : Nat} (h : k ≠ (S.q.getD i dW).arr) : mid S i (k + 1) = mid S i k := by
  unfold mid
  by_cases h1 : (S.q.getD i dW).arr < k
  · rw [if_pos h1, if_pos (by omega)]
  · rw [if_neg h1, if_neg (by omega)]
theorem mid_len {S : Ln} {i k : Nat} (h : i ≤ S.q.length) : (mid S i k).length ≤ i + 1 := by
  unfold mid
  rw [List.length_append, arrs_len h]
  split <;> simp
/-- The earlier of two neighbours in the order is not behind the later. -/
theorem no_turn {S : Ln} {l : List CallA} (h : Cm S l) (ok : Ok S) {i : Nat} (h0 : 0 < i) (hi : i < S.q.length) :
    ¬ ((l.getD (S.q.getD (i - 1) dW).arr dX).2.2.1 < (l.getD (S.q.getD i dW).arr dX).2.2.1 ∨ ((l.getD (S.q.getD (i - 1) dW).arr dX).2.2.1 = (l.getD (S.q.getD i dW).arr dX).2.2.1 ∧ ((S.q.getD (i - 1) dW).arr : Int) ≥ ((S.q.getD i dW).arr : Int))) := by
  rw [(h.get _ (q_mem (by omega : i - 1 < S.q.length))).2, (h.get _ (q_mem hi)).2]
  have hb : Bef (S.q.getD (i - 1) dW) (S.q.getD i dW) := by
    rw [List.getD_eq_getElem?_getD, List.getD_eq_getElem?_getD, List.getElem?_eq_getElem (by omega : i - 1 < S.q.length), List.getElem?_eq_getElem hi]
    exact List.pairwise_iff_getElem.1 ok.ord (i - 1) i (by omega) hi (by omega)
  unfold Bef at hb
  omega
end Go.Proofs.Ytagfhlnedaagbaa
