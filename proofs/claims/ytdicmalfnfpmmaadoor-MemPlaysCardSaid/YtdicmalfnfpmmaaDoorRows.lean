/-
  NARROWER THAN 'FOR EVERY INPUT', by the rows' own cells (each row's printed sentence says how): MemPlays: laid · MemApart: laid · MemSwaps: laid · MemOwn: laid · MemAdds: laid.
  DERIVED. THE GIVEN ROWS OF THIS SEAT. 5 by the template 'for every input the law returns true; each argument reads behind the call as it read before'; 0 by the template 'total and deterministic' (their statements: YtdicmalfnfpmmaaDoorTotals.lean).
  GIVEN WITH THE SEED: the statements are not yours to turn. If you find one false, say at which input.
  Laid BY PROGRAM, IN A SANDBOX (cutbox-rows.mjs): the forced cells as the released guide's own fill.sh prints them over the translation e6a97a2657dd059c… (all of the seat's roots in one cut). By AI agents, Wed Nov 11 2026. No macro, syntax, notation, axiom, sorry.
-/
import Derived.Test.YtdicmalfnfpmmaaDoorChecked
import GoSem.Claim
import GoSem.ClaimJoined
import GoSem.ClaimMapViews
import Derived.JoinedTies
import Derived.KernelRfl
namespace Go.Proofs.YtdicmalfnfpmmaaDoor
/- THE CELL 'sum', in the pinned program and in every row, IS THE sha256 OF THE DUMP (.gsa) THAT YtdicmalfnfpmmaaDoorProg.lean LOADS. Nothing in Lean hashes anything: it is a label: what it is worth is what the hold of that sum in a sandbox is worth. -/
noncomputable def Tryd.pinned : Pinned := { name := "ytdicmalfnfpmmaadoor", sum := "e6a97a2657dd059cd18bf0f27a6024e54a8ee08d5c543840db79ad5a0898cb9f", checked := Tryd.checked }
namespace Rows
def none {H : Type} : Left H := { results := [], args := [] }

/- WHAT THE LISTED PACKAGE-LEVEL VARIABLES READ AS WHEN THE CALL BEGINS. Each datum BY PROGRAM (the guide's laid-datum.mjs) off the statement by which the dump's own 'gosem.cut.vars' lays the variable. In a bare row this is a premise. The card (YtdicmalfnfpmmaaDoorCards.lean) ties it to the program's text. -/
def laid_purlin_mem_load {H : Type} : DataW H := .agg [.lit (.bool true), .lit (.bool false), .lit (.bool false), .lit (.bool false)]
def laid_purlin_mem_store {H : Type} : DataW H := .agg [.lit (.bool false), .lit (.bool true), .lit (.bool false), .lit (.bool false)]
def laid_purlin_mem_swap {H : Type} : DataW H := .agg [.lit (.bool false), .lit (.bool true), .lit (.bool false), .lit (.bool true)]
def laid_purlin_mem_add {H : Type} : DataW H := .agg [.lit (.bool true), .lit (.bool true), .lit (.bool false), .lit (.bool false)]
def laid_purlin_mem_or {H : Type} : DataW H := .agg [.lit (.bool true), .lit (.bool true), .lit (.bool true), .lit (.bool false)]
def laid_purlin_mem_take {H : Type} : DataW H := .agg [.lit (.bool false), .lit (.bool false), .lit (.bool false), .lit (.bool false)]

/-- 'purlinlaw07.MemPlays': WHATEVER THE INPUT: true; the input reads as it did. -/
def memPlaysSpec : ChangeSpec := { name := "memPlays", fn := fun _ => fun
  | [d1, d2] => { results := [.lit (.bool true)], args := [d1, d2] }
  | _ => none }
def memPlaysRow : OpenClaim := { program := "ytdicmalfnfpmmaadoor", sum := "e6a97a2657dd059cd18bf0f27a6024e54a8ee08d5c543840db79ad5a0898cb9f", func := "purlin/purlinlaw07.MemPlays", spec := "memPlays", named := ["purlin/mem.store", "purlin/mem.swap", "purlin/mem.add", "purlin/mem.or", "purlin/mem.take", "purlin/mem.load"], apart := false, laid := [("purlin/mem.load", laid_purlin_mem_load), ("purlin/mem.store", laid_purlin_mem_store), ("purlin/mem.swap", laid_purlin_mem_swap), ("purlin/mem.add", laid_purlin_mem_add), ("purlin/mem.or", laid_purlin_mem_or), ("purlin/mem.take", laid_purlin_mem_take)] }
def MemPlaysSaid : Prop := memPlaysRow.holds Tryd.pinned (OpenSpec.ofChange memPlaysSpec)

/-- ITS FALSE NEIGHBOUR: 'it returns false'. Refute it at one input. -/
def memPlaysWrong : ChangeSpec := { name := "memPlays", fn := fun _ => fun
  | [d1, d2] => { results := [.lit (.bool false)], args := [d1, d2] }
  | _ => none }
def MemPlaysWrongFalsely : Prop := memPlaysRow.holds Tryd.pinned (OpenSpec.ofChange memPlaysWrong)

/-- 'purlinlaw07.MemApart': WHATEVER THE INPUT: true; the input reads as it did. -/
def memApartSpec : ChangeSpec := { name := "memApart", fn := fun _ => fun
  | [d1, d2, d3] => { results := [.lit (.bool true)], args := [d1, d2, d3] }
  | _ => none }
def memApartRow : OpenClaim := { program := "ytdicmalfnfpmmaadoor", sum := "e6a97a2657dd059cd18bf0f27a6024e54a8ee08d5c543840db79ad5a0898cb9f", func := "purlin/purlinlaw07.MemApart", spec := "memApart", named := ["purlin/mem.store", "purlin/mem.swap", "purlin/mem.add", "purlin/mem.or", "purlin/mem.take", "purlin/mem.load"], apart := false, laid := [("purlin/mem.load", laid_purlin_mem_load), ("purlin/mem.store", laid_purlin_mem_store), ("purlin/mem.swap", laid_purlin_mem_swap), ("purlin/mem.add", laid_purlin_mem_add), ("purlin/mem.or", laid_purlin_mem_or), ("purlin/mem.take", laid_purlin_mem_take)] }
def MemApartSaid : Prop := memApartRow.holds Tryd.pinned (OpenSpec.ofChange memApartSpec)

/-- ITS FALSE NEIGHBOUR: 'it returns false'. Refute it at one input. -/
def memApartWrong : ChangeSpec := { name := "memApart", fn := fun _ => fun
  | [d1, d2, d3] => { results := [.lit (.bool false)], args := [d1, d2, d3] }
  | _ => none }
def MemApartWrongFalsely : Prop := memApartRow.holds Tryd.pinned (OpenSpec.ofChange memApartWrong)

/-- 'purlinlaw07.MemSwaps': WHATEVER THE INPUT: true; the input reads as it did. -/
def memSwapsSpec : ChangeSpec := { name := "memSwaps", fn := fun _ => fun
  | [d1, d2, d3] => { results := [.lit (.bool true)], args := [d1, d2, d3] }
  | _ => none }
def memSwapsRow : OpenClaim := { program := "ytdicmalfnfpmmaadoor", sum := "e6a97a2657dd059cd18bf0f27a6024e54a8ee08d5c543840db79ad5a0898cb9f", func := "purlin/purlinlaw07.MemSwaps", spec := "memSwaps", named := ["purlin/mem.store", "purlin/mem.swap", "purlin/mem.add", "purlin/mem.or", "purlin/mem.take", "purlin/mem.load"], apart := false, laid := [("purlin/mem.load", laid_purlin_mem_load), ("purlin/mem.store", laid_purlin_mem_store), ("purlin/mem.swap", laid_purlin_mem_swap), ("purlin/mem.add", laid_purlin_mem_add), ("purlin/mem.or", laid_purlin_mem_or), ("purlin/mem.take", laid_purlin_mem_take)] }
def MemSwapsSaid : Prop := memSwapsRow.holds Tryd.pinned (OpenSpec.ofChange memSwapsSpec)

/-- ITS FALSE NEIGHBOUR: 'it returns false'. Refute it at one input. -/
def memSwapsWrong : ChangeSpec := { name := "memSwaps", fn := fun _ => fun
  | [d1, d2, d3] => { results := [.lit (.bool false)], args := [d1, d2, d3] }
  | _ => none }
def MemSwapsWrongFalsely : Prop := memSwapsRow.holds Tryd.pinned (OpenSpec.ofChange memSwapsWrong)

/-- 'purlinlaw07.MemOwn': WHATEVER THE INPUT: true; the input reads as it did. -/
def memOwnSpec : ChangeSpec := { name := "memOwn", fn := fun _ => fun
  | [d1, d2] => { results := [.lit (.bool true)], args := [d1, d2] }
  | _ => none }
def memOwnRow : OpenClaim := { program := "ytdicmalfnfpmmaadoor", sum := "e6a97a2657dd059cd18bf0f27a6024e54a8ee08d5c543840db79ad5a0898cb9f", func := "purlin/purlinlaw07.MemOwn", spec := "memOwn", named := ["purlin/mem.store", "purlin/mem.swap", "purlin/mem.add", "purlin/mem.or", "purlin/mem.take", "purlin/mem.load"], apart := false, laid := [("purlin/mem.load", laid_purlin_mem_load), ("purlin/mem.store", laid_purlin_mem_store), ("purlin/mem.swap", laid_purlin_mem_swap), ("purlin/mem.add", laid_purlin_mem_add), ("purlin/mem.or", laid_purlin_mem_or), ("purlin/mem.take", laid_purlin_mem_take)] }
def MemOwnSaid : Prop := memOwnRow.holds Tryd.pinned (OpenSpec.ofChange memOwnSpec)

/-- ITS FALSE NEIGHBOUR: 'it returns false'. Refute it at one input. -/
def memOwnWrong : ChangeSpec := { name := "memOwn", fn := fun _ => fun
  | [d1, d2] => { results := [.lit (.bool false)], args := [d1, d2] }
  | _ => none }
def MemOwnWrongFalsely : Prop := memOwnRow.holds Tryd.pinned (OpenSpec.ofChange memOwnWrong)

/-- 'purlinlaw07.MemAdds': WHATEVER THE INPUT: true; the input reads as it did. -/
def memAddsSpec : ChangeSpec := { name := "memAdds", fn := fun _ => fun
  | [d1, d2, d3] => { results := [.lit (.bool true)], args := [d1, d2, d3] }
  | _ => none }
def memAddsRow : OpenClaim := { program := "ytdicmalfnfpmmaadoor", sum := "e6a97a2657dd059cd18bf0f27a6024e54a8ee08d5c543840db79ad5a0898cb9f", func := "purlin/purlinlaw07.MemAdds", spec := "memAdds", named := ["purlin/mem.store", "purlin/mem.swap", "purlin/mem.add", "purlin/mem.or", "purlin/mem.take", "purlin/mem.load"], apart := false, laid := [("purlin/mem.load", laid_purlin_mem_load), ("purlin/mem.store", laid_purlin_mem_store), ("purlin/mem.swap", laid_purlin_mem_swap), ("purlin/mem.add", laid_purlin_mem_add), ("purlin/mem.or", laid_purlin_mem_or), ("purlin/mem.take", laid_purlin_mem_take)] }
def MemAddsSaid : Prop := memAddsRow.holds Tryd.pinned (OpenSpec.ofChange memAddsSpec)

/-- ITS FALSE NEIGHBOUR: 'it returns false'. Refute it at one input. -/
def memAddsWrong : ChangeSpec := { name := "memAdds", fn := fun _ => fun
  | [d1, d2, d3] => { results := [.lit (.bool false)], args := [d1, d2, d3] }
  | _ => none }
def MemAddsWrongFalsely : Prop := memAddsRow.holds Tryd.pinned (OpenSpec.ofChange memAddsWrong)

/- THE SECOND FORM. 'bulk': how many values and letters a reading holds, each counted each time it is reached (what is shared counts as often as it is met; a slice's spare places count too). A statement '..UptoSaid' is the law's where the arguments, and the package variables that the reading takes, are together of bulk at most 1048576: NARROWER than '..Said'. Prove '..Said' where nothing that the law and all that it calls make is longer than what came in: it says more and counts as full. Else prove '..UptoSaid'. A law counts once. -/
mutual
def uptoBulk {H : Type} : DataW H → Nat
  | .lit (.string bytes) => bytes.length + 1
  | .lit _ => 1
  | .nil => 1
  | .ptr d => uptoBulk d + 1
  | .slice elems spare => uptoBulkAll elems + uptoBulkAll spare + 1
  | .agg parts => uptoBulkAll parts + 1
  | .iface _ d => uptoBulk d + 1
  | .map entries => uptoBulkEntries entries + 1
  | .held _ => 1
def uptoBulkAll {H : Type} : List (DataW H) → Nat
  | [] => 0
  | d :: r => uptoBulk d + uptoBulkAll r
def uptoBulkEntries {H : Type} : List (Lit × DataW H) → Nat
  | [] => 0
  | x :: r => uptoBulkEntry x + uptoBulkEntries r
def uptoBulkEntry {H : Type} : Lit × DataW H → Nat
  | (.string bytes, d) => bytes.length + uptoBulk d + 1
  | (_, d) => uptoBulk d + 1
 end
def uptoSmall : (H : Type) → List (DataW H) → Bool := fun _ ds => decide (uptoBulkAll ds ≤ 1048576)
def OpenSpec.upto (s : _root_.Go.ChangeSpec) : _root_.Go.OpenSpec := { _root_.Go.OpenSpec.ofChange s with cond := some uptoSmall }

/-- 'purlinlaw07.MemPlays', WHERE WHAT IT READS IS OF BULK AT MOST 1048576: true; the input reads as it did. -/
def memPlaysUptoRow : OpenClaim := { program := "ytdicmalfnfpmmaadoor", sum := "e6a97a2657dd059cd18bf0f27a6024e54a8ee08d5c543840db79ad5a0898cb9f", func := "purlin/purlinlaw07.MemPlays", spec := "memPlays", named := ["purlin/mem.store", "purlin/mem.swap", "purlin/mem.add", "purlin/mem.or", "purlin/mem.take", "purlin/mem.load"], apart := false, laid := [("purlin/mem.load", laid_purlin_mem_load), ("purlin/mem.store", laid_purlin_mem_store), ("purlin/mem.swap", laid_purlin_mem_swap), ("purlin/mem.add", laid_purlin_mem_add), ("purlin/mem.or", laid_purlin_mem_or), ("purlin/mem.take", laid_purlin_mem_take)], narrowed := true }
def MemPlaysUptoSaid : Prop := memPlaysUptoRow.holds Tryd.pinned (OpenSpec.upto memPlaysSpec)

/-- 'purlinlaw07.MemApart', WHERE WHAT IT READS IS OF BULK AT MOST 1048576: true; the input reads as it did. -/
def memApartUptoRow : OpenClaim := { program := "ytdicmalfnfpmmaadoor", sum := "e6a97a2657dd059cd18bf0f27a6024e54a8ee08d5c543840db79ad5a0898cb9f", func := "purlin/purlinlaw07.MemApart", spec := "memApart", named := ["purlin/mem.store", "purlin/mem.swap", "purlin/mem.add", "purlin/mem.or", "purlin/mem.take", "purlin/mem.load"], apart := false, laid := [("purlin/mem.load", laid_purlin_mem_load), ("purlin/mem.store", laid_purlin_mem_store), ("purlin/mem.swap", laid_purlin_mem_swap), ("purlin/mem.add", laid_purlin_mem_add), ("purlin/mem.or", laid_purlin_mem_or), ("purlin/mem.take", laid_purlin_mem_take)], narrowed := true }
def MemApartUptoSaid : Prop := memApartUptoRow.holds Tryd.pinned (OpenSpec.upto memApartSpec)

/-- 'purlinlaw07.MemSwaps', WHERE WHAT IT READS IS OF BULK AT MOST 1048576: true; the input reads as it did. -/
def memSwapsUptoRow : OpenClaim := { program := "ytdicmalfnfpmmaadoor", sum := "e6a97a2657dd059cd18bf0f27a6024e54a8ee08d5c543840db79ad5a0898cb9f", func := "purlin/purlinlaw07.MemSwaps", spec := "memSwaps", named := ["purlin/mem.store", "purlin/mem.swap", "purlin/mem.add", "purlin/mem.or", "purlin/mem.take", "purlin/mem.load"], apart := false, laid := [("purlin/mem.load", laid_purlin_mem_load), ("purlin/mem.store", laid_purlin_mem_store), ("purlin/mem.swap", laid_purlin_mem_swap), ("purlin/mem.add", laid_purlin_mem_add), ("purlin/mem.or", laid_purlin_mem_or), ("purlin/mem.take", laid_purlin_mem_take)], narrowed := true }
def MemSwapsUptoSaid : Prop := memSwapsUptoRow.holds Tryd.pinned (OpenSpec.upto memSwapsSpec)

/-- 'purlinlaw07.MemOwn', WHERE WHAT IT READS IS OF BULK AT MOST 1048576: true; the input reads as it did. -/
def memOwnUptoRow : OpenClaim := { program := "ytdicmalfnfpmmaadoor", sum := "e6a97a2657dd059cd18bf0f27a6024e54a8ee08d5c543840db79ad5a0898cb9f", func := "purlin/purlinlaw07.MemOwn", spec := "memOwn", named := ["purlin/mem.store", "purlin/mem.swap", "purlin/mem.add", "purlin/mem.or", "purlin/mem.take", "purlin/mem.load"], apart := false, laid := [("purlin/mem.load", laid_purlin_mem_load), ("purlin/mem.store", laid_purlin_mem_store), ("purlin/mem.swap", laid_purlin_mem_swap), ("purlin/mem.add", laid_purlin_mem_add), ("purlin/mem.or", laid_purlin_mem_or), ("purlin/mem.take", laid_purlin_mem_take)], narrowed := true }
def MemOwnUptoSaid : Prop := memOwnUptoRow.holds Tryd.pinned (OpenSpec.upto memOwnSpec)

/-- 'purlinlaw07.MemAdds', WHERE WHAT IT READS IS OF BULK AT MOST 1048576: true; the input reads as it did. -/
def memAddsUptoRow : OpenClaim := { program := "ytdicmalfnfpmmaadoor", sum := "e6a97a2657dd059cd18bf0f27a6024e54a8ee08d5c543840db79ad5a0898cb9f", func := "purlin/purlinlaw07.MemAdds", spec := "memAdds", named := ["purlin/mem.store", "purlin/mem.swap", "purlin/mem.add", "purlin/mem.or", "purlin/mem.take", "purlin/mem.load"], apart := false, laid := [("purlin/mem.load", laid_purlin_mem_load), ("purlin/mem.store", laid_purlin_mem_store), ("purlin/mem.swap", laid_purlin_mem_swap), ("purlin/mem.add", laid_purlin_mem_add), ("purlin/mem.or", laid_purlin_mem_or), ("purlin/mem.take", laid_purlin_mem_take)], narrowed := true }
def MemAddsUptoSaid : Prop := memAddsUptoRow.holds Tryd.pinned (OpenSpec.upto memAddsSpec)

end Rows
end Go.Proofs.YtdicmalfnfpmmaaDoor
