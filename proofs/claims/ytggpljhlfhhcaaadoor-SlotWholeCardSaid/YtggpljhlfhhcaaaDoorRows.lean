/-
  NARROWER THAN 'FOR EVERY INPUT', by the rows' own cells (each row's printed sentence says how): SlotPlays: laid · SlotWhole: laid · SlotFresh: laid · SlotBack: laid.
  DERIVED. THE GIVEN ROWS OF THIS SEAT. 4 by the template 'for every input the law returns true; each argument reads behind the call as it read before'; 0 by the template 'total and deterministic' (their statements: YtggpljhlfhhcaaaDoorTotals.lean).
  GIVEN WITH THE SEED: the statements are not yours to turn. If you find one false, say at which input.
  Laid BY PROGRAM, IN A SANDBOX (cutbox-rows.mjs): the forced cells as the released guide's own fill.sh prints them over the translation 8a5dbd6de2a73d6d… (all of the seat's roots in one cut). By AI agents, Wed Nov 11 2026. No macro, syntax, notation, axiom, sorry.
-/
import Derived.Test.YtggpljhlfhhcaaaDoorChecked
import GoSem.Claim
import GoSem.ClaimJoined
import GoSem.ClaimMapViews
import Derived.JoinedTies
import Derived.KernelRfl
namespace Go.Proofs.YtggpljhlfhhcaaaDoor
/- THE CELL 'sum', in the pinned program and in every row, IS THE sha256 OF THE DUMP (.gsa) THAT YtggpljhlfhhcaaaDoorProg.lean LOADS. Nothing in Lean hashes anything: it is a label: what it is worth is what the hold of that sum in a sandbox is worth. -/
noncomputable def Tryd.pinned : Pinned := { name := "ytggpljhlfhhcaaadoor", sum := "8a5dbd6de2a73d6d857569417de4f2d571009da2eab1a33bda3a2a9e4179b222", checked := Tryd.checked }
namespace Rows
def none {H : Type} : Left H := { results := [], args := [] }

/- WHAT THE LISTED PACKAGE-LEVEL VARIABLES READ AS WHEN THE CALL BEGINS. Each datum BY PROGRAM (the guide's laid-datum.mjs) off the statement by which the dump's own 'gosem.cut.vars' lays the variable. In a bare row this is a premise. The card (YtggpljhlfhhcaaaDoorCards.lean) ties it to the program's text. -/
def laid_purlin_mem_load {H : Type} : DataW H := .agg [.lit (.bool true), .lit (.bool false), .lit (.bool false), .lit (.bool false)]
def laid_purlin_mem_store {H : Type} : DataW H := .agg [.lit (.bool false), .lit (.bool true), .lit (.bool false), .lit (.bool false)]
def laid_purlin_mem_swap {H : Type} : DataW H := .agg [.lit (.bool false), .lit (.bool true), .lit (.bool false), .lit (.bool true)]
def laid_purlin_mem_add {H : Type} : DataW H := .agg [.lit (.bool true), .lit (.bool true), .lit (.bool false), .lit (.bool false)]
def laid_purlin_mem_or {H : Type} : DataW H := .agg [.lit (.bool true), .lit (.bool true), .lit (.bool true), .lit (.bool false)]
def laid_purlin_mem_take {H : Type} : DataW H := .agg [.lit (.bool false), .lit (.bool false), .lit (.bool false), .lit (.bool false)]

/-- 'purlinlaw13.SlotPlays': WHATEVER THE INPUT: true; the input reads as it did. -/
def slotPlaysSpec : ChangeSpec := { name := "slotPlays", fn := fun _ => fun
  | [d] => { results := [.lit (.bool true)], args := [d] }
  | _ => none }
def slotPlaysRow : OpenClaim := { program := "ytggpljhlfhhcaaadoor", sum := "8a5dbd6de2a73d6d857569417de4f2d571009da2eab1a33bda3a2a9e4179b222", func := "purlin/purlinlaw13.SlotPlays", spec := "slotPlays", unfollowed := true, recurses := true, named := ["purlin/mem.add", "purlin/mem.store", "purlin/mem.swap", "purlin/mem.or", "purlin/mem.take", "purlin/mem.load"], apart := false, laid := [("purlin/mem.load", laid_purlin_mem_load), ("purlin/mem.store", laid_purlin_mem_store), ("purlin/mem.swap", laid_purlin_mem_swap), ("purlin/mem.add", laid_purlin_mem_add), ("purlin/mem.or", laid_purlin_mem_or), ("purlin/mem.take", laid_purlin_mem_take)] }
def SlotPlaysSaid : Prop := slotPlaysRow.holds Tryd.pinned (OpenSpec.ofChange slotPlaysSpec)

/-- ITS FALSE NEIGHBOUR: 'it returns false'. Refute it at one input. -/
def slotPlaysWrong : ChangeSpec := { name := "slotPlays", fn := fun _ => fun
  | [d] => { results := [.lit (.bool false)], args := [d] }
  | _ => none }
def SlotPlaysWrongFalsely : Prop := slotPlaysRow.holds Tryd.pinned (OpenSpec.ofChange slotPlaysWrong)

/-- 'purlinlaw13.SlotWhole': WHATEVER THE INPUT: true; the input reads as it did. -/
def slotWholeSpec : ChangeSpec := { name := "slotWhole", fn := fun _ => fun
  | [d1, d2, d3] => { results := [.lit (.bool true)], args := [d1, d2, d3] }
  | _ => none }
def slotWholeRow : OpenClaim := { program := "ytggpljhlfhhcaaadoor", sum := "8a5dbd6de2a73d6d857569417de4f2d571009da2eab1a33bda3a2a9e4179b222", func := "purlin/purlinlaw13.SlotWhole", spec := "slotWhole", unfollowed := true, recurses := true, named := ["purlin/mem.add", "purlin/mem.store", "purlin/mem.swap", "purlin/mem.or", "purlin/mem.take", "purlin/mem.load"], apart := false, laid := [("purlin/mem.load", laid_purlin_mem_load), ("purlin/mem.store", laid_purlin_mem_store), ("purlin/mem.swap", laid_purlin_mem_swap), ("purlin/mem.add", laid_purlin_mem_add), ("purlin/mem.or", laid_purlin_mem_or), ("purlin/mem.take", laid_purlin_mem_take)] }
def SlotWholeSaid : Prop := slotWholeRow.holds Tryd.pinned (OpenSpec.ofChange slotWholeSpec)

/-- ITS FALSE NEIGHBOUR: 'it returns false'. Refute it at one input. -/
def slotWholeWrong : ChangeSpec := { name := "slotWhole", fn := fun _ => fun
  | [d1, d2, d3] => { results := [.lit (.bool false)], args := [d1, d2, d3] }
  | _ => none }
def SlotWholeWrongFalsely : Prop := slotWholeRow.holds Tryd.pinned (OpenSpec.ofChange slotWholeWrong)

/-- 'purlinlaw13.SlotFresh': WHATEVER THE INPUT: true; the input reads as it did. -/
def slotFreshSpec : ChangeSpec := { name := "slotFresh", fn := fun _ => fun
  | [d1, d2, d3] => { results := [.lit (.bool true)], args := [d1, d2, d3] }
  | _ => none }
def slotFreshRow : OpenClaim := { program := "ytggpljhlfhhcaaadoor", sum := "8a5dbd6de2a73d6d857569417de4f2d571009da2eab1a33bda3a2a9e4179b222", func := "purlin/purlinlaw13.SlotFresh", spec := "slotFresh", unfollowed := true, recurses := true, named := ["purlin/mem.add", "purlin/mem.store", "purlin/mem.swap", "purlin/mem.or", "purlin/mem.take", "purlin/mem.load"], apart := false, laid := [("purlin/mem.load", laid_purlin_mem_load), ("purlin/mem.store", laid_purlin_mem_store), ("purlin/mem.swap", laid_purlin_mem_swap), ("purlin/mem.add", laid_purlin_mem_add), ("purlin/mem.or", laid_purlin_mem_or), ("purlin/mem.take", laid_purlin_mem_take)] }
def SlotFreshSaid : Prop := slotFreshRow.holds Tryd.pinned (OpenSpec.ofChange slotFreshSpec)

/-- ITS FALSE NEIGHBOUR: 'it returns false'. Refute it at one input. -/
def slotFreshWrong : ChangeSpec := { name := "slotFresh", fn := fun _ => fun
  | [d1, d2, d3] => { results := [.lit (.bool false)], args := [d1, d2, d3] }
  | _ => none }
def SlotFreshWrongFalsely : Prop := slotFreshRow.holds Tryd.pinned (OpenSpec.ofChange slotFreshWrong)

/-- 'purlinlaw13.SlotBack': WHATEVER THE INPUT: true; the input reads as it did. -/
def slotBackSpec : ChangeSpec := { name := "slotBack", fn := fun _ => fun
  | [d1, d2, d3] => { results := [.lit (.bool true)], args := [d1, d2, d3] }
  | _ => none }
def slotBackRow : OpenClaim := { program := "ytggpljhlfhhcaaadoor", sum := "8a5dbd6de2a73d6d857569417de4f2d571009da2eab1a33bda3a2a9e4179b222", func := "purlin/purlinlaw13.SlotBack", spec := "slotBack", unfollowed := true, recurses := true, named := ["purlin/mem.add", "purlin/mem.store", "purlin/mem.swap", "purlin/mem.or", "purlin/mem.take", "purlin/mem.load"], apart := false, laid := [("purlin/mem.load", laid_purlin_mem_load), ("purlin/mem.store", laid_purlin_mem_store), ("purlin/mem.swap", laid_purlin_mem_swap), ("purlin/mem.add", laid_purlin_mem_add), ("purlin/mem.or", laid_purlin_mem_or), ("purlin/mem.take", laid_purlin_mem_take)] }
def SlotBackSaid : Prop := slotBackRow.holds Tryd.pinned (OpenSpec.ofChange slotBackSpec)

/-- ITS FALSE NEIGHBOUR: 'it returns false'. Refute it at one input. -/
def slotBackWrong : ChangeSpec := { name := "slotBack", fn := fun _ => fun
  | [d1, d2, d3] => { results := [.lit (.bool false)], args := [d1, d2, d3] }
  | _ => none }
def SlotBackWrongFalsely : Prop := slotBackRow.holds Tryd.pinned (OpenSpec.ofChange slotBackWrong)

/- THE SECOND FORM. 'bulk': how many values and letters a reading holds, each counted each time it is reached (what is shared counts as often as it is met; a slice's spare places count too). A statement '..UptoSaid' is the law's where the arguments, and the package variables that the reading takes, are together of bulk at most 1048576: NARROWER than '..Said'. Prove '..Said' where nothing that the law and all that it calls make is longer than what came in: it says more and counts as full. Else prove '..UptoSaid'. A law counts once. -/
mutual
def uptoBulk {H : Type} : DataW H → Nat
  | .lit (.string bytes) => bytes.length + 1
  | .lit _ => 1
  | .nil => 1
  | .ptr d => uptoBulk d + 1
  | .slice elems spare => uptoBulkAll elems + uptoBulkAll spare + 1
  | .agg parts => uptoBulkAll parts + 1
  | .iface _ d => uptoBulk d + 1
  | .map entries => uptoBulkEntries entries + 1
  | .held _ => 1
def uptoBulkAll {H : Type} : List (DataW H) → Nat
  | [] => 0
  | d :: r => uptoBulk d + uptoBulkAll r
def uptoBulkEntries {H : Type} : List (Lit × DataW H) → Nat
  | [] => 0
  | x :: r => uptoBulkEntry x + uptoBulkEntries r
def uptoBulkEntry {H : Type} : Lit × DataW H → Nat
  | (.string bytes, d) => bytes.length + uptoBulk d + 1
  | (_, d) => uptoBulk d + 1
 end
def uptoSmall : (H : Type) → List (DataW H) → Bool := fun _ ds => decide (uptoBulkAll ds ≤ 1048576)
def OpenSpec.upto (s : _root_.Go.ChangeSpec) : _root_.Go.OpenSpec := { _root_.Go.OpenSpec.ofChange s with cond := some uptoSmall }

/-- 'purlinlaw13.SlotPlays', WHERE WHAT IT READS IS OF BULK AT MOST 1048576: true; the input reads as it did. -/
def slotPlaysUptoRow : OpenClaim := { program := "ytggpljhlfhhcaaadoor", sum := "8a5dbd6de2a73d6d857569417de4f2d571009da2eab1a33bda3a2a9e4179b222", func := "purlin/purlinlaw13.SlotPlays", spec := "slotPlays", unfollowed := true, recurses := true, named := ["purlin/mem.add", "purlin/mem.store", "purlin/mem.swap", "purlin/mem.or", "purlin/mem.take", "purlin/mem.load"], apart := false, laid := [("purlin/mem.load", laid_purlin_mem_load), ("purlin/mem.store", laid_purlin_mem_store), ("purlin/mem.swap", laid_purlin_mem_swap), ("purlin/mem.add", laid_purlin_mem_add), ("purlin/mem.or", laid_purlin_mem_or), ("purlin/mem.take", laid_purlin_mem_take)], narrowed := true }
def SlotPlaysUptoSaid : Prop := slotPlaysUptoRow.holds Tryd.pinned (OpenSpec.upto slotPlaysSpec)

/-- 'purlinlaw13.SlotWhole', WHERE WHAT IT READS IS OF BULK AT MOST 1048576: true; the input reads as it did. -/
def slotWholeUptoRow : OpenClaim := { program := "ytggpljhlfhhcaaadoor", sum := "8a5dbd6de2a73d6d857569417de4f2d571009da2eab1a33bda3a2a9e4179b222", func := "purlin/purlinlaw13.SlotWhole", spec := "slotWhole", unfollowed := true, recurses := true, named := ["purlin/mem.add", "purlin/mem.store", "purlin/mem.swap", "purlin/mem.or", "purlin/mem.take", "purlin/mem.load"], apart := false, laid := [("purlin/mem.load", laid_purlin_mem_load), ("purlin/mem.store", laid_purlin_mem_store), ("purlin/mem.swap", laid_purlin_mem_swap), ("purlin/mem.add", laid_purlin_mem_add), ("purlin/mem.or", laid_purlin_mem_or), ("purlin/mem.take", laid_purlin_mem_take)], narrowed := true }
def SlotWholeUptoSaid : Prop := slotWholeUptoRow.holds Tryd.pinned (OpenSpec.upto slotWholeSpec)

/-- 'purlinlaw13.SlotFresh', WHERE WHAT IT READS IS OF BULK AT MOST 1048576: true; the input reads as it did. -/
def slotFreshUptoRow : OpenClaim := { program := "ytggpljhlfhhcaaadoor", sum := "8a5dbd6de2a73d6d857569417de4f2d571009da2eab1a33bda3a2a9e4179b222", func := "purlin/purlinlaw13.SlotFresh", spec := "slotFresh", unfollowed := true, recurses := true, named := ["purlin/mem.add", "purlin/mem.store", "purlin/mem.swap", "purlin/mem.or", "purlin/mem.take", "purlin/mem.load"], apart := false, laid := [("purlin/mem.load", laid_purlin_mem_load), ("purlin/mem.store", laid_purlin_mem_store), ("purlin/mem.swap", laid_purlin_mem_swap), ("purlin/mem.add", laid_purlin_mem_add), ("purlin/mem.or", laid_purlin_mem_or), ("purlin/mem.take", laid_purlin_mem_take)], narrowed := true }
def SlotFreshUptoSaid : Prop := slotFreshUptoRow.holds Tryd.pinned (OpenSpec.upto slotFreshSpec)

/-- 'purlinlaw13.SlotBack', WHERE WHAT IT READS IS OF BULK AT MOST 1048576: true; the input reads as it did. -/
def slotBackUptoRow : OpenClaim := { program := "ytggpljhlfhhcaaadoor", sum := "8a5dbd6de2a73d6d857569417de4f2d571009da2eab1a33bda3a2a9e4179b222", func := "purlin/purlinlaw13.SlotBack", spec := "slotBack", unfollowed := true, recurses := true, named := ["purlin/mem.add", "purlin/mem.store", "purlin/mem.swap", "purlin/mem.or", "purlin/mem.take", "purlin/mem.load"], apart := false, laid := [("purlin/mem.load", laid_purlin_mem_load), ("purlin/mem.store", laid_purlin_mem_store), ("purlin/mem.swap", laid_purlin_mem_swap), ("purlin/mem.add", laid_purlin_mem_add), ("purlin/mem.or", laid_purlin_mem_or), ("purlin/mem.take", laid_purlin_mem_take)], narrowed := true }
def SlotBackUptoSaid : Prop := slotBackUptoRow.holds Tryd.pinned (OpenSpec.upto slotBackSpec)

end Rows
end Go.Proofs.YtggpljhlfhhcaaaDoor
