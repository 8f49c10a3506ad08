/-
  NARROWER THAN 'FOR EVERY INPUT', by the rows' own cells (each row's printed sentence says how): SeqlockPlays: laid · SeqlockWhole: laid · SeqlockCalm: laid · SeqlockOdd: laid · SeqlockTries: laid.
  DERIVED. THE GIVEN ROWS OF THIS SEAT. 5 by the template 'for every input the law returns true; each argument reads behind the call as it read before'; 0 by the template 'total and deterministic' (their statements: YtoaaeamogpdcgaaDoorTotals.lean).
  GIVEN WITH THE SEED: the statements are not yours to turn. If you find one false, say at which input.
  Laid BY PROGRAM, IN A SANDBOX (cutbox-rows.mjs): the forced cells as the released guide's own fill.sh prints them over the translation 53ff2cc1cbe4765c… (all of the seat's roots in one cut). By AI agents, Wed Nov 11 2026. No macro, syntax, notation, axiom, sorry.
-/
import Derived.Test.YtoaaeamogpdcgaaDoorChecked
import GoSem.Claim
import GoSem.ClaimJoined
import GoSem.ClaimMapViews
import Derived.JoinedTies
import Derived.KernelRfl
namespace Go.Proofs.YtoaaeamogpdcgaaDoor
/- THE CELL 'sum', in the pinned program and in every row, IS THE sha256 OF THE DUMP (.gsa) THAT YtoaaeamogpdcgaaDoorProg.lean LOADS. Nothing in Lean hashes anything: it is a label: what it is worth is what the hold of that sum in a sandbox is worth. -/
noncomputable def Tryd.pinned : Pinned := { name := "ytoaaeamogpdcgaadoor", sum := "53ff2cc1cbe4765c9030fce091e25e8d59698378681828816b1f5a25c86c6a29", checked := Tryd.checked }
namespace Rows
def none {H : Type} : Left H := { results := [], args := [] }

/- WHAT THE LISTED PACKAGE-LEVEL VARIABLES READ AS WHEN THE CALL BEGINS. Each datum BY PROGRAM (the guide's laid-datum.mjs) off the statement by which the dump's own 'gosem.cut.vars' lays the variable. In a bare row this is a premise. The card (YtoaaeamogpdcgaaDoorCards.lean) ties it to the program's text. -/
def laid_purlin_mem_load {H : Type} : DataW H := .agg [.lit (.bool true), .lit (.bool false), .lit (.bool false), .lit (.bool false)]
def laid_purlin_mem_store {H : Type} : DataW H := .agg [.lit (.bool false), .lit (.bool true), .lit (.bool false), .lit (.bool false)]
def laid_purlin_mem_swap {H : Type} : DataW H := .agg [.lit (.bool false), .lit (.bool true), .lit (.bool false), .lit (.bool true)]
def laid_purlin_mem_add {H : Type} : DataW H := .agg [.lit (.bool true), .lit (.bool true), .lit (.bool false), .lit (.bool false)]
def laid_purlin_mem_or {H : Type} : DataW H := .agg [.lit (.bool true), .lit (.bool true), .lit (.bool true), .lit (.bool false)]
def laid_purlin_mem_take {H : Type} : DataW H := .agg [.lit (.bool false), .lit (.bool false), .lit (.bool false), .lit (.bool false)]

/-- 'purlinlaw10.SeqlockPlays': WHATEVER THE INPUT: true; the input reads as it did. -/
def seqlockPlaysSpec : ChangeSpec := { name := "seqlockPlays", fn := fun _ => fun
  | [d1, d2, d3] => { results := [.lit (.bool true)], args := [d1, d2, d3] }
  | _ => none }
def seqlockPlaysRow : OpenClaim := { program := "ytoaaeamogpdcgaadoor", sum := "53ff2cc1cbe4765c9030fce091e25e8d59698378681828816b1f5a25c86c6a29", func := "purlin/purlinlaw10.SeqlockPlays", spec := "seqlockPlays", unfollowed := true, recurses := true, named := ["purlin/mem.store", "purlin/mem.swap", "purlin/mem.add", "purlin/mem.or", "purlin/mem.take", "purlin/mem.load"], apart := false, laid := [("purlin/mem.load", laid_purlin_mem_load), ("purlin/mem.store", laid_purlin_mem_store), ("purlin/mem.swap", laid_purlin_mem_swap), ("purlin/mem.add", laid_purlin_mem_add), ("purlin/mem.or", laid_purlin_mem_or), ("purlin/mem.take", laid_purlin_mem_take)] }
def SeqlockPlaysSaid : Prop := seqlockPlaysRow.holds Tryd.pinned (OpenSpec.ofChange seqlockPlaysSpec)

/-- ITS FALSE NEIGHBOUR: 'it returns false'. Refute it at one input. -/
def seqlockPlaysWrong : ChangeSpec := { name := "seqlockPlays", fn := fun _ => fun
  | [d1, d2, d3] => { results := [.lit (.bool false)], args := [d1, d2, d3] }
  | _ => none }
def SeqlockPlaysWrongFalsely : Prop := seqlockPlaysRow.holds Tryd.pinned (OpenSpec.ofChange seqlockPlaysWrong)

/-- 'purlinlaw10.SeqlockWhole': WHATEVER THE INPUT: true; the input reads as it did. -/
def seqlockWholeSpec : ChangeSpec := { name := "seqlockWhole", fn := fun _ => fun
  | [d1, d2, d3] => { results := [.lit (.bool true)], args := [d1, d2, d3] }
  | _ => none }
def seqlockWholeRow : OpenClaim := { program := "ytoaaeamogpdcgaadoor", sum := "53ff2cc1cbe4765c9030fce091e25e8d59698378681828816b1f5a25c86c6a29", func := "purlin/purlinlaw10.SeqlockWhole", spec := "seqlockWhole", unfollowed := true, recurses := true, named := ["purlin/mem.store", "purlin/mem.swap", "purlin/mem.add", "purlin/mem.or", "purlin/mem.take", "purlin/mem.load"], apart := false, laid := [("purlin/mem.load", laid_purlin_mem_load), ("purlin/mem.store", laid_purlin_mem_store), ("purlin/mem.swap", laid_purlin_mem_swap), ("purlin/mem.add", laid_purlin_mem_add), ("purlin/mem.or", laid_purlin_mem_or), ("purlin/mem.take", laid_purlin_mem_take)] }
def SeqlockWholeSaid : Prop := seqlockWholeRow.holds Tryd.pinned (OpenSpec.ofChange seqlockWholeSpec)

/-- ITS FALSE NEIGHBOUR: 'it returns false'. Refute it at one input. -/
def seqlockWholeWrong : ChangeSpec := { name := "seqlockWhole", fn := fun _ => fun
  | [d1, d2, d3] => { results := [.lit (.bool false)], args := [d1, d2, d3] }
  | _ => none }
def SeqlockWholeWrongFalsely : Prop := seqlockWholeRow.holds Tryd.pinned (OpenSpec.ofChange seqlockWholeWrong)

/-- 'purlinlaw10.SeqlockCalm': WHATEVER THE INPUT: true; the input reads as it did. -/
def seqlockCalmSpec : ChangeSpec := { name := "seqlockCalm", fn := fun _ => fun
  | [d1, d2, d3] => { results := [.lit (.bool true)], args := [d1, d2, d3] }
  | _ => none }
def seqlockCalmRow : OpenClaim := { program := "ytoaaeamogpdcgaadoor", sum := "53ff2cc1cbe4765c9030fce091e25e8d59698378681828816b1f5a25c86c6a29", func := "purlin/purlinlaw10.SeqlockCalm", spec := "seqlockCalm", unfollowed := true, recurses := true, named := ["purlin/mem.store", "purlin/mem.swap", "purlin/mem.add", "purlin/mem.or", "purlin/mem.take", "purlin/mem.load"], apart := false, laid := [("purlin/mem.load", laid_purlin_mem_load), ("purlin/mem.store", laid_purlin_mem_store), ("purlin/mem.swap", laid_purlin_mem_swap), ("purlin/mem.add", laid_purlin_mem_add), ("purlin/mem.or", laid_purlin_mem_or), ("purlin/mem.take", laid_purlin_mem_take)] }
def SeqlockCalmSaid : Prop := seqlockCalmRow.holds Tryd.pinned (OpenSpec.ofChange seqlockCalmSpec)

/-- ITS FALSE NEIGHBOUR: 'it returns false'. Refute it at one input. -/
def seqlockCalmWrong : ChangeSpec := { name := "seqlockCalm", fn := fun _ => fun
  | [d1, d2, d3] => { results := [.lit (.bool false)], args := [d1, d2, d3] }
  | _ => none }
def SeqlockCalmWrongFalsely : Prop := seqlockCalmRow.holds Tryd.pinned (OpenSpec.ofChange seqlockCalmWrong)

/-- 'purlinlaw10.SeqlockOdd': WHATEVER THE INPUT: true; the input reads as it did. -/
def seqlockOddSpec : ChangeSpec := { name := "seqlockOdd", fn := fun _ => fun
  | [d1, d2, d3] => { results := [.lit (.bool true)], args := [d1, d2, d3] }
  | _ => none }
def seqlockOddRow : OpenClaim := { program := "ytoaaeamogpdcgaadoor", sum := "53ff2cc1cbe4765c9030fce091e25e8d59698378681828816b1f5a25c86c6a29", func := "purlin/purlinlaw10.SeqlockOdd", spec := "seqlockOdd", unfollowed := true, recurses := true, named := ["purlin/mem.store", "purlin/mem.swap", "purlin/mem.add", "purlin/mem.or", "purlin/mem.take", "purlin/mem.load"], apart := false, laid := [("purlin/mem.load", laid_purlin_mem_load), ("purlin/mem.store", laid_purlin_mem_store), ("purlin/mem.swap", laid_purlin_mem_swap), ("purlin/mem.add", laid_purlin_mem_add), ("purlin/mem.or", laid_purlin_mem_or), ("purlin/mem.take", laid_purlin_mem_take)] }
def SeqlockOddSaid : Prop := seqlockOddRow.holds Tryd.pinned (OpenSpec.ofChange seqlockOddSpec)

/-- ITS FALSE NEIGHBOUR: 'it returns false'. Refute it at one input. -/
def seqlockOddWrong : ChangeSpec := { name := "seqlockOdd", fn := fun _ => fun
  | [d1, d2, d3] => { results := [.lit (.bool false)], args := [d1, d2, d3] }
  | _ => none }
def SeqlockOddWrongFalsely : Prop := seqlockOddRow.holds Tryd.pinned (OpenSpec.ofChange seqlockOddWrong)

/-- 'purlinlaw10.SeqlockTries': WHATEVER THE INPUT: true; the input reads as it did. -/
def seqlockTriesSpec : ChangeSpec := { name := "seqlockTries", fn := fun _ => fun
  | [d1, d2, d3] => { results := [.lit (.bool true)], args := [d1, d2, d3] }
  | _ => none }
def seqlockTriesRow : OpenClaim := { program := "ytoaaeamogpdcgaadoor", sum := "53ff2cc1cbe4765c9030fce091e25e8d59698378681828816b1f5a25c86c6a29", func := "purlin/purlinlaw10.SeqlockTries", spec := "seqlockTries", unfollowed := true, recurses := true, named := ["purlin/mem.store", "purlin/mem.swap", "purlin/mem.add", "purlin/mem.or", "purlin/mem.take", "purlin/mem.load"], apart := false, laid := [("purlin/mem.load", laid_purlin_mem_load), ("purlin/mem.store", laid_purlin_mem_store), ("purlin/mem.swap", laid_purlin_mem_swap), ("purlin/mem.add", laid_purlin_mem_add), ("purlin/mem.or", laid_purlin_mem_or), ("purlin/mem.take", laid_purlin_mem_take)] }
def SeqlockTriesSaid : Prop := seqlockTriesRow.holds Tryd.pinned (OpenSpec.ofChange seqlockTriesSpec)

/-- ITS FALSE NEIGHBOUR: 'it returns false'. Refute it at one input. -/
def seqlockTriesWrong : ChangeSpec := { name := "seqlockTries", fn := fun _ => fun
  | [d1, d2, d3] => { results := [.lit (.bool false)], args := [d1, d2, d3] }
  | _ => none }
def SeqlockTriesWrongFalsely : Prop := seqlockTriesRow.holds Tryd.pinned (OpenSpec.ofChange seqlockTriesWrong)

/- THE SECOND FORM. 'bulk': how many values and letters a reading holds, each counted each time it is reached (what is shared counts as often as it is met; a slice's spare places count too). A statement '..UptoSaid' is the law's where the arguments, and the package variables that the reading takes, are together of bulk at most 1048576: NARROWER than '..Said'. Prove '..Said' where nothing that the law and all that it calls make is longer than what came in: it says more and counts as full. Else prove '..UptoSaid'. A law counts once. -/
mutual
def uptoBulk {H : Type} : DataW H → Nat
  | .lit (.string bytes) => bytes.length + 1
  | .lit _ => 1
  | .nil => 1
  | .ptr d => uptoBulk d + 1
  | .slice elems spare => uptoBulkAll elems + uptoBulkAll spare + 1
  | .agg parts => uptoBulkAll parts + 1
  | .iface _ d => uptoBulk d + 1
  | .map entries => uptoBulkEntries entries + 1
  | .held _ => 1
def uptoBulkAll {H : Type} : List (DataW H) → Nat
  | [] => 0
  | d :: r => uptoBulk d + uptoBulkAll r
def uptoBulkEntries {H : Type} : List (Lit × DataW H) → Nat
  | [] => 0
  | x :: r => uptoBulkEntry x + uptoBulkEntries r
def uptoBulkEntry {H : Type} : Lit × DataW H → Nat
  | (.string bytes, d) => bytes.length + uptoBulk d + 1
  | (_, d) => uptoBulk d + 1
 end
def uptoSmall : (H : Type) → List (DataW H) → Bool := fun _ ds => decide (uptoBulkAll ds ≤ 1048576)
def OpenSpec.upto (s : _root_.Go.ChangeSpec) : _root_.Go.OpenSpec := { _root_.Go.OpenSpec.ofChange s with cond := some uptoSmall }

/-- 'purlinlaw10.SeqlockPlays', WHERE WHAT IT READS IS OF BULK AT MOST 1048576: true; the input reads as it did. -/
def seqlockPlaysUptoRow : OpenClaim := { program := "ytoaaeamogpdcgaadoor", sum := "53ff2cc1cbe4765c9030fce091e25e8d59698378681828816b1f5a25c86c6a29", func := "purlin/purlinlaw10.SeqlockPlays", spec := "seqlockPlays", unfollowed := true, recurses := true, named := ["purlin/mem.store", "purlin/mem.swap", "purlin/mem.add", "purlin/mem.or", "purlin/mem.take", "purlin/mem.load"], apart := false, laid := [("purlin/mem.load", laid_purlin_mem_load), ("purlin/mem.store", laid_purlin_mem_store), ("purlin/mem.swap", laid_purlin_mem_swap), ("purlin/mem.add", laid_purlin_mem_add), ("purlin/mem.or", laid_purlin_mem_or), ("purlin/mem.take", laid_purlin_mem_take)], narrowed := true }
def SeqlockPlaysUptoSaid : Prop := seqlockPlaysUptoRow.holds Tryd.pinned (OpenSpec.upto seqlockPlaysSpec)

/-- 'purlinlaw10.SeqlockWhole', WHERE WHAT IT READS IS OF BULK AT MOST 1048576: true; the input reads as it did. -/
def seqlockWholeUptoRow : OpenClaim := { program := "ytoaaeamogpdcgaadoor", sum := "53ff2cc1cbe4765c9030fce091e25e8d59698378681828816b1f5a25c86c6a29", func := "purlin/purlinlaw10.SeqlockWhole", spec := "seqlockWhole", unfollowed := true, recurses := true, named := ["purlin/mem.store", "purlin/mem.swap", "purlin/mem.add", "purlin/mem.or", "purlin/mem.take", "purlin/mem.load"], apart := false, laid := [("purlin/mem.load", laid_purlin_mem_load), ("purlin/mem.store", laid_purlin_mem_store), ("purlin/mem.swap", laid_purlin_mem_swap), ("purlin/mem.add", laid_purlin_mem_add), ("purlin/mem.or", laid_purlin_mem_or), ("purlin/mem.take", laid_purlin_mem_take)], narrowed := true }
def SeqlockWholeUptoSaid : Prop := seqlockWholeUptoRow.holds Tryd.pinned (OpenSpec.upto seqlockWholeSpec)

/-- 'purlinlaw10.SeqlockCalm', WHERE WHAT IT READS IS OF BULK AT MOST 1048576: true; the input reads as it did. -/
def seqlockCalmUptoRow : OpenClaim := { program := "ytoaaeamogpdcgaadoor", sum := "53ff2cc1cbe4765c9030fce091e25e8d59698378681828816b1f5a25c86c6a29", func := "purlin/purlinlaw10.SeqlockCalm", spec := "seqlockCalm", unfollowed := true, recurses := true, named := ["purlin/mem.store", "purlin/mem.swap", "purlin/mem.add", "purlin/mem.or", "purlin/mem.take", "purlin/mem.load"], apart := false, laid := [("purlin/mem.load", laid_purlin_mem_load), ("purlin/mem.store", laid_purlin_mem_store), ("purlin/mem.swap", laid_purlin_mem_swap), ("purlin/mem.add", laid_purlin_mem_add), ("purlin/mem.or", laid_purlin_mem_or), ("purlin/mem.take", laid_purlin_mem_take)], narrowed := true }
def SeqlockCalmUptoSaid : Prop := seqlockCalmUptoRow.holds Tryd.pinned (OpenSpec.upto seqlockCalmSpec)

/-- 'purlinlaw10.SeqlockOdd', WHERE WHAT IT READS IS OF BULK AT MOST 1048576: true; the input reads as it did. -/
def seqlockOddUptoRow : OpenClaim := { program := "ytoaaeamogpdcgaadoor", sum := "53ff2cc1cbe4765c9030fce091e25e8d59698378681828816b1f5a25c86c6a29", func := "purlin/purlinlaw10.SeqlockOdd", spec := "seqlockOdd", unfollowed := true, recurses := true, named := ["purlin/mem.store", "purlin/mem.swap", "purlin/mem.add", "purlin/mem.or", "purlin/mem.take", "purlin/mem.load"], apart := false, laid := [("purlin/mem.load", laid_purlin_mem_load), ("purlin/mem.store", laid_purlin_mem_store), ("purlin/mem.swap", laid_purlin_mem_swap), ("purlin/mem.add", laid_purlin_mem_add), ("purlin/mem.or", laid_purlin_mem_or), ("purlin/mem.take", laid_purlin_mem_take)], narrowed := true }
def SeqlockOddUptoSaid : Prop := seqlockOddUptoRow.holds Tryd.pinned (OpenSpec.upto seqlockOddSpec)

/-- 'purlinlaw10.SeqlockTries', WHERE WHAT IT READS IS OF BULK AT MOST 1048576: true; the input reads as it did. -/
def seqlockTriesUptoRow : OpenClaim := { program := "ytoaaeamogpdcgaadoor", sum := "53ff2cc1cbe4765c9030fce091e25e8d59698378681828816b1f5a25c86c6a29", func := "purlin/purlinlaw10.SeqlockTries", spec := "seqlockTries", unfollowed := true, recurses := true, named := ["purlin/mem.store", "purlin/mem.swap", "purlin/mem.add", "purlin/mem.or", "purlin/mem.take", "purlin/mem.load"], apart := false, laid := [("purlin/mem.load", laid_purlin_mem_load), ("purlin/mem.store", laid_purlin_mem_store), ("purlin/mem.swap", laid_purlin_mem_swap), ("purlin/mem.add", laid_purlin_mem_add), ("purlin/mem.or", laid_purlin_mem_or), ("purlin/mem.take", laid_purlin_mem_take)], narrowed := true }
def SeqlockTriesUptoSaid : Prop := seqlockTriesUptoRow.holds Tryd.pinned (OpenSpec.upto seqlockTriesSpec)

end Rows
end Go.Proofs.YtoaaeamogpdcgaaDoor
