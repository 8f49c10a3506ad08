/-
  Two tables in one world, apart from one another.
-/
import Derived.Test.YtkbafiepnnldeaaLaw
namespace Go.Proofs.Ytkbafiepnnldeaa
open Go.RowKit

/-- The numbers of a table's blocks. -/
structure TbN where
  g : Nat
  bi : Nat
  ba : Nat
  ci : Nat
def Sep (a : TbN) (v : Value) (b : TbN) (v' : Value) : Prop := ∀ k, Blk a.g a.bi a.ba v k → Blk b.g b.bi b.ba v' k → False
/-- Two tables in one world. -/
structure Two (H : Nat) (w0 w : World) (a : TbN) (v : Value) (T : Tb) (b : TbN) (v' : Value) (U : Tb) : Prop where
  t : TB H w0 w a.g a.bi a.ba a.ci v T
  u : TB H w0 w b.g b.bi b.ba b.ci v' U
  sep : Sep a v b v'
section
variable {H : Nat} {w0 w w' : World} {a b : TbN} {v v' : Value} {T T' U U' : Tb}
theorem Two.swap (h : Two H w0 w a v T b v' U) : Two H w0 w b v' U a v T := ⟨h.u, h.t, fun k h1 h2 => h.sep k h2 h1⟩
theorem Two.keep (h : Two H w0 w a v T b v' U) (hB : Below w.heap.size w w') : Two H w0 w' a v T b v' U := ⟨h.t.keep hB, h.u.keep hB, h.sep⟩
/-- One of them has done a step. -/
theorem Two.step (h : Two H w0 w a v T b v' U) (ok : TOk T') (hP : TbP a.g a.bi a.ba a.ci v T' w w') : ∃ v2, Two H w0 w' a v2 T' b v' U ∧ ∀ k, Far w a.g a.bi a.ba v k → w'.heap[k]? = w.heap[k]? ∧ Far w' a.g a.bi a.ba v2 k := by
  obtain ⟨v2, h1, h2, h3⟩ := h.t.step ok hP
  have hf : ∀ k, Blk b.g b.bi b.ba v' k → Far w a.g a.bi a.ba v k := fun k hk => ⟨h.u.tb.blk_lt hk, fun c => h.sep k c hk⟩
  refine ⟨v2, ⟨h1, ⟨h.u.tb.same fun k hk => (h3 k (hf k hk)).1, h.u.ok, h.u.blk, h1.bel, h1.sz⟩, fun k c hk => (h3 k (hf k hk)).2.2 c⟩, h3⟩
end
end Go.Proofs.Ytkbafiepnnldeaa
