/-
  From a walk that answers true and changes nothing that was there to the row's own words; the kinds' variables out of the row's list; a world that the row's conditions fit.
-/
import Derived.Test.YtoaaeamogpdcgaaDoorCards
import Derived.Test.YtoaaeamogpdcgaaDoorTie
import Derived.Test.YtoaaeamogpdcgaaDoorAwkW
import Derived.WalkKit
import Derived.ProofKit
import Derived.OpenShut
import Derived.Deep.DeepHandedRow
import Derived.Lib.LaidTab
import Derived.Stop.LaidErr
namespace Go.Proofs.YtoaaeamogpdcgaaDoor
open Go.ChangeShapes Go.WideShapes Go.ChangeAt Go.RowKit

theorem own : ownKnob Tryd.prog.godebug = none := by kernel_rfl
theorem laidOut : laidOutB Tryd.prog = true := by kernel_rfl
theorem cells3 : Tryd.prog.cellsOf 3 = 1 := by kernel_rfl
theorem cells22 : Tryd.prog.cellsOf 22 = 1 := by kernel_rfl
theorem cells4 : Tryd.prog.cellsOf 4 = 1 := by kernel_rfl
theorem cells80 : Tryd.prog.cellsOf 80 = 4 := by kernel_rfl

section
variable {H : Type} {enc : TypeId × Value → H}

theorem trodAll_kept {W W' : World} (hb : Below W.heap.size W W') : ∀ {ts : List TypeId} {vs : List Value} {ds : List (DataW H)} {ps : List MemPlace},
    (ts.all fun t => Tryd.prog.readableRec t && decide (t < Tryd.prog.types.size)) = true → DataW.TrodAll enc Tryd.prog W 0 (fun _ => true) true ts vs ds ps →
    (∀ x ∈ ps, x.block < W.heap.size) → DataW.TrodAll enc Tryd.prog W' 0 (fun b => decide (b < W.heap.size)) true ts vs ds ps := by
  intro ts
  induction ts with
  | nil =>
    intro vs ds ps _ h _
    obtain ⟨rfl, rfl, rfl⟩ := trodAll_nil h
    exact trodAll_mk0
  | cons t ts ih =>
    intro vs ds ps hts h hlt
    obtain ⟨v, vs0, d, ds0, p, q, rfl, rfl, rfl, h0, r0⟩ := trodAll_cons h
    simp only [List.all_cons, Bool.and_eq_true, decide_eq_true_eq] at hts
    exact trodAll_cons_mk (hb.trod laidOut hts.1.1 hts.1.2 h0 (fun x hx => hlt x (List.mem_append_left _ hx)))
      (ih hts.2 r0 (fun x hx => hlt x (List.mem_append_right _ hx)))

/-- The row's words, behind a walk that ends in true. -/
theorem post_law {fn : Func} {s : ChangeSpec} {W W' : World} {args : Array Value} {ds gs : List (DataW H)} {before : List MemPlace}
    (hs : s.vars = []) (hres : fn.resultTypes = #[4])
    (hts : (fn.params.toList.all fun t => Tryd.prog.readableRec t && decide (t < Tryd.prog.types.size)) = true)
    (hW : DataW.Whole enc Tryd.prog fn.params.toList s.vars false W args.toList ds gs before)
    (e1 : (s.fn H (ds ++ gs)).results = [.lit (.bool true)]) (e2 : (s.fn H (ds ++ gs)).args = ds) (e3 : (s.fn H (ds ++ gs)).vars = [])
    (hb : Below W.heap.size W W') : s.post enc Tryd.prog fn false true false false W args (.bool true) W' := by
  have hlt : ∀ p ∈ before, p.block < W.heap.size := fun p hp => hW.lt p hp
  have hW' := hW
  obtain ⟨p, q, hA, hV, rfl, _, _⟩ := hW
  refine ⟨ds, gs, p ++ q, [], p, [], hW', ?_, ?_, ?_, hb.frame _, fun h => by cases h⟩
  · rw [e1, hres]
    exact trodAll_mk1 (shut_bool Tryd.underlying4 true)
  · rw [e2]
    exact trodAll_kept hb hts hA (fun x hx => hlt x (List.mem_append_left _ hx))
  · rw [e3, hs]
    rfl
end

/-- A variable of four truths that reads as it is listed. -/
theorem four_cells {H : Type} {en : TypeId × Value → H} {w : World} {base n : Nat} {sp : Nat → Bool} {held : Bool} {cs : List Value} {a b c d : Bool} {p : List MemPlace}
    (h : DataW.trod en Tryd.prog w base sp held n 80 cs = some (.agg [.lit (.bool a), .lit (.bool b), .lit (.bool c), .lit (.bool d)], p)) : cs = [.bool a, .bool b, .bool c, .bool d] := by
  obtain ⟨xs, m, _, hxx, hlen, hx, hf⟩ := DataW.trod_struct Tryd.underlying80 h
  rw [cells80] at hlen
  have hx : xs.length = 4 := hx
  clear h
  match cs, hlen, xs, hx with
  | [a0, a1, a2, a3], _, [y0, y1, y2, y3], _ =>
    have h0 : DataW.trod en Tryd.prog w base sp held m 4 [a0] = some y0 := by simpa [cells4] using hf 0 _ rfl
    have h1 : DataW.trod en Tryd.prog w base sp held m 4 [a1] = some y1 := by simpa [cells4] using hf 1 _ rfl
    have h2 : DataW.trod en Tryd.prog w base sp held m 4 [a2] = some y2 := by simpa [cells4] using hf 2 _ rfl
    have h3 : DataW.trod en Tryd.prog w base sp held m 4 [a3] = some y3 := by simpa [cells4] using hf 3 _ rfl
    obtain ⟨z0, e0, rfl⟩ := DataW.trod_bool Tryd.underlying4 h0
    obtain ⟨z1, e1, rfl⟩ := DataW.trod_bool Tryd.underlying4 h1
    obtain ⟨z2, e2, rfl⟩ := DataW.trod_bool Tryd.underlying4 h2
    obtain ⟨z3, e3, rfl⟩ := DataW.trod_bool Tryd.underlying4 h3
    simp only [List.cons.injEq, and_true] at e0 e1 e2 e3
    subst e0 e1 e2 e3
    simp at hxx
    obtain ⟨⟨rfl, rfl, rfl, rfl⟩, _⟩ := hxx
    rfl
theorem four_head {W : World} {name : String} {rest : List (String × DataW Unit)} {g : Nat} {a b c d : Bool}
    (hg : Tryd.prog.globalNamed name = some g) (hty : (Tryd.prog.globals[g]?).map (·.type) = some 80)
    (h : laidMet Tryd.prog ((name, .agg [.lit (.bool a), .lit (.bool b), .lit (.bool c), .lit (.bool d)]) :: rest) W) : Four W g (a, b, c, d) := by
  obtain ⟨ps, ⟨g', t', cs, fuel, p, q, hg', ht', hvar, hd, _, _⟩, _⟩ := h
  obtain rfl := Option.some.inj (hg.symm.trans hg')
  obtain rfl := Option.some.inj (hty.symm.trans ht')
  have e := four_cells hd
  have hc := World.var?_cell hg hvar
  have hcs : cs = #[.bool a, .bool b, .bool c, .bool d] := by rw [← Array.toArray_toList (xs := cs), e]
  subst hcs
  exact ⟨by rw [hc 0]; rfl, by rw [hc 1]; rfl, by rw [hc 2]; rfl, by rw [hc 3]; rfl⟩
theorem gok_of_laid {W : World} (h : laidMetH Tryd.prog [("purlin/mem.load", Rows.laid_purlin_mem_load), ("purlin/mem.store", Rows.laid_purlin_mem_store), ("purlin/mem.swap", Rows.laid_purlin_mem_swap), ("purlin/mem.add", Rows.laid_purlin_mem_add), ("purlin/mem.or", Rows.laid_purlin_mem_or), ("purlin/mem.take", Rows.laid_purlin_mem_take)] W) : GOk W := by
  have h0 : laidMet Tryd.prog [("purlin/mem.load", Rows.laid_purlin_mem_load), ("purlin/mem.store", Rows.laid_purlin_mem_store), ("purlin/mem.swap", Rows.laid_purlin_mem_swap), ("purlin/mem.add", Rows.laid_purlin_mem_add), ("purlin/mem.or", Rows.laid_purlin_mem_or), ("purlin/mem.take", Rows.laid_purlin_mem_take)] W := h
  have h1 := h0.tail
  have h2 := h1.tail
  have h3 := h2.tail
  have h4 := h3.tail
  have h5 := h4.tail
  intro K hK
  match K, hK with
  | 0, _ => exact four_head (g := 1) (by kernel_rfl) (by kernel_rfl) h0
  | 1, _ => exact four_head (g := 0) (by kernel_rfl) (by kernel_rfl) h1
  | 2, _ => exact four_head (g := 2) (by kernel_rfl) (by kernel_rfl) h2
  | 3, _ => exact four_head (g := 3) (by kernel_rfl) (by kernel_rfl) h3
  | 4, _ => exact four_head (g := 4) (by kernel_rfl) (by kernel_rfl) h4
  | 5, _ => exact four_head (g := 5) (by kernel_rfl) (by kernel_rfl) h5

/-- A world for the witness: the variables hold what their text lays. -/
noncomputable def setFour (h : Array Obj) (g : Nat) (a b c d : Bool) : Array Obj := h.modify g fun
  | .cells _ t frozen => .cells #[.bool a, .bool b, .bool c, .bool d] t frozen
  | o => o
noncomputable def laidWorld (os : Os) : World :=
  { World.holding Tryd.prog os ⟨#[], #[], []⟩ with heap := setFour (setFour (setFour (setFour (setFour (setFour (World.holding Tryd.prog os ⟨#[], #[], []⟩).heap 1 true false false false) 0 false true false false) 2 false true false true) 3 true true false false) 4 true true true false) 5 false false false false }
theorem bounds32 {n : Int} (h : (Lit.int .u32 n).wf = true) : 0 ≤ n ∧ n < 4294967296 := by have := bounds_u32 h; omega
theorem bounds8 {n : Int} (h : (Lit.int .u8 n).wf = true) : 0 ≤ n ∧ n < 256 := by have := bounds_u8 h; omega
end Go.Proofs.YtoaaeamogpdcgaaDoor
