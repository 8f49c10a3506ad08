/-
  The appends of a task and of the document's task, in a region that draws its order.
-/
import Derived.Test.YtdhanenbcjmfkaaDoorRefP
namespace Go.Proofs.YtdhanenbcjmfkaaDoor
open Go.RowKit

/-- The append of a task at a step. -/
theorem step_app_task {w V : World} {ops : Array Oper} {o : Oper} {a : Act} {K : Act → World → Prop} {Q : Exit → Act → World → Prop} {E : Prop} (hgd : o.guard = none) (s x : Operand)
    (ho : o.op = .call { callee := .builtin .append, args := #[s, x], argTypes := #[29, 29] }) {base k g cap : Nat} {xs : List Value} (u : Value) (hu : u.oneCell' = true) (hown : V.ownsRow base 32 1 (.slice (some ⟨g, 0, none⟩) k cap) k xs) (hV : w.heap[g]? = V.heap[g]?) (hb : base ≤ w.heap.size) (hk : k ≤ 1000)
    (hs : a.eval s = .slice (some ⟨g, 0, none⟩) k cap) (H : Nat) (hx : a.eval x = .slice (some ⟨H, 0, none⟩) 1 1) (hH : w.heap[H]? = some (.cells #[u] 32 (0, 0)))
    (h : ∀ g' cap' w', w'.ownsRow base 32 1 (.slice (some ⟨g', 0, none⟩) (k + 1) cap') (k + 1) (xs ++ [u]) → Chg (fun x => x = g) w w' → (g' = g ∨ w.heap.size ≤ g') → g' < w'.heap.size → K (a.put o.dst (.slice (some ⟨g', 0, none⟩) (k + 1) cap')) w') :
    if Region.wanted o (yielded ops a.tmps) = true then Oper.wp Tryd.prog o a w K Q else E := by
  obtain ⟨i0, hi, hz0, hz1, hz2⟩ := info_parts info32
  refine step_append_lies w hgd s x 29 ho base 32 i0 .nilIface 1 16 Tryd.underlying29 hi hz0 hz1 hz2 rfl (by decide) _ k xs hs (ownsRow_same hown hV) ⟨H, 0, none⟩ 1 1 [u] hx rfl (World.news_of_block hH) (fun v hv => by simp at hv; subst hv; exact hu) (by decide) (by unfold maxLen; omega) (by omega) hb w.heap.size rfl ?_
  intro g' cap' w' h1 hgrow hat hlt
  refine h g' cap' w' h1 ⟨hgrow.os, hgrow.tape, hgrow.output, hgrow.size, fun x hx hn => hgrow.block x hx (by intro e; injection e with e; exact hn e)⟩ ?_ hlt
  rcases hat with e | e
  · injection e with e; exact .inl e.symm
  · exact .inr (by omega)
/-- The append of a document's task at a step. -/
theorem step_app_want {w V : World} {ops : Array Oper} {o : Oper} {a : Act} {K : Act → World → Prop} {Q : Exit → Act → World → Prop} {E : Prop} (hgd : o.guard = none) (s x : Operand)
    (ho : o.op = .call { callee := .builtin .append, args := #[s, x], argTypes := #[30, 30] }) {base k g cap : Nat} {t : Nat → Tk} (t' : Tk) (hown : V.ownsRow base 35 6 (.slice (some ⟨g, 0, none⟩) k cap) k (flT t k)) (hV : w.heap[g]? = V.heap[g]?) (hb : base ≤ w.heap.size) (hk : k ≤ 1000) (ht : t' = t k)
    (hs : a.eval s = .slice (some ⟨g, 0, none⟩) k cap) (H : Nat) (hx : a.eval x = .slice (some ⟨H, 0, none⟩) 1 1) (hH : w.heap[H]? = some (.cells (dC t').toArray 35 (0, 0)))
    (h : ∀ g' cap' w', w'.ownsRow base 35 6 (.slice (some ⟨g', 0, none⟩) (k + 1) cap') (k + 1) (flT t (k + 1)) → Chg (fun x => x = g) w w' → (g' = g ∨ w.heap.size ≤ g') → g' < w'.heap.size → K (a.put o.dst (.slice (some ⟨g', 0, none⟩) (k + 1) cap')) w') :
    if Region.wanted o (yielded ops a.tmps) = true then Oper.wp Tryd.prog o a w K Q else E := by
  subst ht
  obtain ⟨i0, hi, hz0, hz1, hz2⟩ := info_parts info35
  have hfl : flT t k ++ dC (t k) = flT t (k + 1) := by unfold flT; rw [List.range_succ, List.map_append, List.flatMap_append]; simp
  refine step_append_lies w hgd s x 30 ho base 35 i0 _ 6 40 Tryd.underlying30 hi hz0 hz1 hz2 rfl (by decide) _ k (flT t k) hs (ownsRow_same hown hV) ⟨H, 0, none⟩ 1 1 (dC (t k)) hx rfl (World.news_of_block hH) (fun v hv => by simp [dC] at hv; rcases hv with rfl | rfl | rfl | rfl | rfl | rfl <;> rfl) (by decide) (by unfold maxLen; omega) (by omega) hb w.heap.size rfl ?_
  intro g' cap' w' h1 hgrow hat hlt
  rw [hfl] at h1
  refine h g' cap' w' h1 ⟨hgrow.os, hgrow.tape, hgrow.output, hgrow.size, fun x hx hn => hgrow.block x hx (by intro e; injection e with e; exact hn e)⟩ ?_ hlt
  rcases hat with e | e
  · injection e with e; exact .inl e.symm
  · exact .inr (by omega)
theorem heap_at (w : World) (c : Array Value) (t : TypeId) (H : Nat) (hH : H = w.heap.size) : (w.alloc (.cells c t)).heap[H]? = some (.cells c t (0, 0)) := by subst hH; exact heap_alloc_new w _
theorem heap_past {w : World} {o : Obj} {H : Nat} {x : Obj} (h : w.heap[H]? = some x) : (w.alloc o).heap[H]? = some x := by
  rw [Below.heap_alloc w o H (by rcases Nat.lt_or_ge H w.heap.size with h' | h'
                                 · exact h'
                                 · rw [Array.getElem?_eq_none h'] at h; cases h)]
  exact h
theorem heap_old {w V : World} {o : Obj} {g : Nat} (h : w.heap[g]? = V.heap[g]?) (hg : g < w.heap.size) : (w.alloc o).heap[g]? = V.heap[g]? := by rw [Below.heap_alloc w o g hg]; exact h
end Go.Proofs.YtdhanenbcjmfkaaDoor
