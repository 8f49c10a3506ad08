/-
  No cell of these rows narrows 'for every input' (looked for: loops, veiled, ifaces, maps, wideKeys, modest, calm, conditions, laid).
  DERIVED. THE GIVEN ROWS OF THIS SEAT. 5 by the template 'for every input the law returns true; each argument reads behind the call as it read before'; 0 by the template 'total and deterministic' (their statements: YtkbafiepnnldeaaTotals.lean).
  GIVEN WITH THE SEED: the statements are not yours to turn. If you find one false, say at which input.
  Laid BY PROGRAM, IN A SANDBOX (cutbox-rows.mjs): the forced cells as the released guide's own fill.sh prints them over the translation 22ab010473c7888e… (all of the seat's roots in one cut). By AI agents, Wed Nov 11 2026. No macro, syntax, notation, axiom, sorry.
-/
import Derived.Test.YtkbafiepnnldeaaChecked
import GoSem.Claim
import GoSem.ClaimJoined
import GoSem.ClaimMapViews
import Derived.JoinedTies
import Derived.KernelRfl
namespace Go.Proofs.Ytkbafiepnnldeaa
/- THE CELL 'sum', in the pinned program and in every row, IS THE sha256 OF THE DUMP (.gsa) THAT YtkbafiepnnldeaaProg.lean LOADS. Nothing in Lean hashes anything: it is a label: what it is worth is what the hold of that sum in a sandbox is worth. -/
noncomputable def Try.pinned : Pinned := { name := "ytkbafiepnnldeaa", sum := "22ab010473c7888e8de92c4aaa7c2ec68bf67f602cde30367ff0242119cf6b08", checked := Try.checked }
namespace Rows
def none {H : Type} : Left H := { results := [], args := [] }

/-- 'purlinlaw17.ProcPlays': WHATEVER THE INPUT: true; the input reads as it did. -/
def procPlaysSpec : ChangeSpec := { name := "procPlays", fn := fun _ => fun
  | [d1, d2] => { results := [.lit (.bool true)], args := [d1, d2] }
  | _ => none }
def procPlaysRow : OpenClaim := { program := "ytkbafiepnnldeaa", sum := "22ab010473c7888e8de92c4aaa7c2ec68bf67f602cde30367ff0242119cf6b08", func := "purlin/purlinlaw17.ProcPlays", spec := "procPlays", inPlace := ["slices.overlaps[int]"], unfollowed := true, recurses := true, apart := false }
def ProcPlaysSaid : Prop := procPlaysRow.holds Try.pinned (OpenSpec.ofChange procPlaysSpec)

/-- ITS FALSE NEIGHBOUR: 'it returns false'. Refute it at one input. -/
def procPlaysWrong : ChangeSpec := { name := "procPlays", fn := fun _ => fun
  | [d1, d2] => { results := [.lit (.bool false)], args := [d1, d2] }
  | _ => none }
def ProcPlaysWrongFalsely : Prop := procPlaysRow.holds Try.pinned (OpenSpec.ofChange procPlaysWrong)

/-- 'purlinlaw17.ProcRuns': WHATEVER THE INPUT: true; the input reads as it did. -/
def procRunsSpec : ChangeSpec := { name := "procRuns", fn := fun _ => fun
  | [d1, d2] => { results := [.lit (.bool true)], args := [d1, d2] }
  | _ => none }
def procRunsRow : OpenClaim := { program := "ytkbafiepnnldeaa", sum := "22ab010473c7888e8de92c4aaa7c2ec68bf67f602cde30367ff0242119cf6b08", func := "purlin/purlinlaw17.ProcRuns", spec := "procRuns", inPlace := ["slices.overlaps[int]"], unfollowed := true, recurses := true, apart := false }
def ProcRunsSaid : Prop := procRunsRow.holds Try.pinned (OpenSpec.ofChange procRunsSpec)

/-- ITS FALSE NEIGHBOUR: 'it returns false'. Refute it at one input. -/
def procRunsWrong : ChangeSpec := { name := "procRuns", fn := fun _ => fun
  | [d1, d2] => { results := [.lit (.bool false)], args := [d1, d2] }
  | _ => none }
def ProcRunsWrongFalsely : Prop := procRunsRow.holds Try.pinned (OpenSpec.ofChange procRunsWrong)

/-- 'purlinlaw17.ProcTurns': WHATEVER THE INPUT: true; the input reads as it did. -/
def procTurnsSpec : ChangeSpec := { name := "procTurns", fn := fun _ => fun
  | [d1, d2] => { results := [.lit (.bool true)], args := [d1, d2] }
  | _ => none }
def procTurnsRow : OpenClaim := { program := "ytkbafiepnnldeaa", sum := "22ab010473c7888e8de92c4aaa7c2ec68bf67f602cde30367ff0242119cf6b08", func := "purlin/purlinlaw17.ProcTurns", spec := "procTurns", inPlace := ["slices.overlaps[int]"], unfollowed := true, recurses := true, apart := false }
def ProcTurnsSaid : Prop := procTurnsRow.holds Try.pinned (OpenSpec.ofChange procTurnsSpec)

/-- ITS FALSE NEIGHBOUR: 'it returns false'. Refute it at one input. -/
def procTurnsWrong : ChangeSpec := { name := "procTurns", fn := fun _ => fun
  | [d1, d2] => { results := [.lit (.bool false)], args := [d1, d2] }
  | _ => none }
def ProcTurnsWrongFalsely : Prop := procTurnsRow.holds Try.pinned (OpenSpec.ofChange procTurnsWrong)

/-- 'purlinlaw17.ProcApart': WHATEVER THE INPUT: true; the input reads as it did. -/
def procApartSpec : ChangeSpec := { name := "procApart", fn := fun _ => fun
  | [d1, d2, d3] => { results := [.lit (.bool true)], args := [d1, d2, d3] }
  | _ => none }
def procApartRow : OpenClaim := { program := "ytkbafiepnnldeaa", sum := "22ab010473c7888e8de92c4aaa7c2ec68bf67f602cde30367ff0242119cf6b08", func := "purlin/purlinlaw17.ProcApart", spec := "procApart", inPlace := ["slices.overlaps[int]"], unfollowed := true, recurses := true, apart := false }
def ProcApartSaid : Prop := procApartRow.holds Try.pinned (OpenSpec.ofChange procApartSpec)

/-- ITS FALSE NEIGHBOUR: 'it returns false'. Refute it at one input. -/
def procApartWrong : ChangeSpec := { name := "procApart", fn := fun _ => fun
  | [d1, d2, d3] => { results := [.lit (.bool false)], args := [d1, d2, d3] }
  | _ => none }
def ProcApartWrongFalsely : Prop := procApartRow.holds Try.pinned (OpenSpec.ofChange procApartWrong)

/-- 'purlinlaw17.ProcAnew': WHATEVER THE INPUT: true; the input reads as it did. -/
def procAnewSpec : ChangeSpec := { name := "procAnew", fn := fun _ => fun
  | [d1, d2, d3] => { results := [.lit (.bool true)], args := [d1, d2, d3] }
  | _ => none }
def procAnewRow : OpenClaim := { program := "ytkbafiepnnldeaa", sum := "22ab010473c7888e8de92c4aaa7c2ec68bf67f602cde30367ff0242119cf6b08", func := "purlin/purlinlaw17.ProcAnew", spec := "procAnew", inPlace := ["slices.overlaps[int]"], unfollowed := true, recurses := true, apart := false }
def ProcAnewSaid : Prop := procAnewRow.holds Try.pinned (OpenSpec.ofChange procAnewSpec)

/-- ITS FALSE NEIGHBOUR: 'it returns false'. Refute it at one input. -/
def procAnewWrong : ChangeSpec := { name := "procAnew", fn := fun _ => fun
  | [d1, d2, d3] => { results := [.lit (.bool false)], args := [d1, d2, d3] }
  | _ => none }
def ProcAnewWrongFalsely : Prop := procAnewRow.holds Try.pinned (OpenSpec.ofChange procAnewWrong)

/- THE SECOND FORM. 'bulk': how many values and letters a reading holds, each counted each time it is reached (what is shared counts as often as it is met; a slice's spare places count too). A statement '..UptoSaid' is the law's where the arguments, and the package variables that the reading takes, are together of bulk at most 1048576: NARROWER than '..Said'. Prove '..Said' where nothing that the law and all that it calls make is longer than what came in: it says more and counts as full. Else prove '..UptoSaid'. A law counts once. -/
mutual
def uptoBulk {H : Type} : DataW H → Nat
  | .lit (.string bytes) => bytes.length + 1
  | .lit _ => 1
  | .nil => 1
  | .ptr d => uptoBulk d + 1
  | .slice elems spare => uptoBulkAll elems + uptoBulkAll spare + 1
  | .agg parts => uptoBulkAll parts + 1
  | .iface _ d => uptoBulk d + 1
  | .map entries => uptoBulkEntries entries + 1
  | .held _ => 1
def uptoBulkAll {H : Type} : List (DataW H) → Nat
  | [] => 0
  | d :: r => uptoBulk d + uptoBulkAll r
def uptoBulkEntries {H : Type} : List (Lit × DataW H) → Nat
  | [] => 0
  | x :: r => uptoBulkEntry x + uptoBulkEntries r
def uptoBulkEntry {H : Type} : Lit × DataW H → Nat
  | (.string bytes, d) => bytes.length + uptoBulk d + 1
  | (_, d) => uptoBulk d + 1
 end
def uptoSmall : (H : Type) → List (DataW H) → Bool := fun _ ds => decide (uptoBulkAll ds ≤ 1048576)
def OpenSpec.upto (s : _root_.Go.ChangeSpec) : _root_.Go.OpenSpec := { _root_.Go.OpenSpec.ofChange s with cond := some uptoSmall }

/-- 'purlinlaw17.ProcPlays', WHERE WHAT IT READS IS OF BULK AT MOST 1048576: true; the input reads as it did. -/
def procPlaysUptoRow : OpenClaim := { program := "ytkbafiepnnldeaa", sum := "22ab010473c7888e8de92c4aaa7c2ec68bf67f602cde30367ff0242119cf6b08", func := "purlin/purlinlaw17.ProcPlays", spec := "procPlays", inPlace := ["slices.overlaps[int]"], unfollowed := true, recurses := true, apart := false, narrowed := true }
def ProcPlaysUptoSaid : Prop := procPlaysUptoRow.holds Try.pinned (OpenSpec.upto procPlaysSpec)

/-- 'purlinlaw17.ProcRuns', WHERE WHAT IT READS IS OF BULK AT MOST 1048576: true; the input reads as it did. -/
def procRunsUptoRow : OpenClaim := { program := "ytkbafiepnnldeaa", sum := "22ab010473c7888e8de92c4aaa7c2ec68bf67f602cde30367ff0242119cf6b08", func := "purlin/purlinlaw17.ProcRuns", spec := "procRuns", inPlace := ["slices.overlaps[int]"], unfollowed := true, recurses := true, apart := false, narrowed := true }
def ProcRunsUptoSaid : Prop := procRunsUptoRow.holds Try.pinned (OpenSpec.upto procRunsSpec)

/-- 'purlinlaw17.ProcTurns', WHERE WHAT IT READS IS OF BULK AT MOST 1048576: true; the input reads as it did. -/
def procTurnsUptoRow : OpenClaim := { program := "ytkbafiepnnldeaa", sum := "22ab010473c7888e8de92c4aaa7c2ec68bf67f602cde30367ff0242119cf6b08", func := "purlin/purlinlaw17.ProcTurns", spec := "procTurns", inPlace := ["slices.overlaps[int]"], unfollowed := true, recurses := true, apart := false, narrowed := true }
def ProcTurnsUptoSaid : Prop := procTurnsUptoRow.holds Try.pinned (OpenSpec.upto procTurnsSpec)

/-- 'purlinlaw17.ProcApart', WHERE WHAT IT READS IS OF BULK AT MOST 1048576: true; the input reads as it did. -/
def procApartUptoRow : OpenClaim := { program := "ytkbafiepnnldeaa", sum := "22ab010473c7888e8de92c4aaa7c2ec68bf67f602cde30367ff0242119cf6b08", func := "purlin/purlinlaw17.ProcApart", spec := "procApart", inPlace := ["slices.overlaps[int]"], unfollowed := true, recurses := true, apart := false, narrowed := true }
def ProcApartUptoSaid : Prop := procApartUptoRow.holds Try.pinned (OpenSpec.upto procApartSpec)

/-- 'purlinlaw17.ProcAnew', WHERE WHAT IT READS IS OF BULK AT MOST 1048576: true; the input reads as it did. -/
def procAnewUptoRow : OpenClaim := { program := "ytkbafiepnnldeaa", sum := "22ab010473c7888e8de92c4aaa7c2ec68bf67f602cde30367ff0242119cf6b08", func := "purlin/purlinlaw17.ProcAnew", spec := "procAnew", inPlace := ["slices.overlaps[int]"], unfollowed := true, recurses := true, apart := false, narrowed := true }
def ProcAnewUptoSaid : Prop := procAnewUptoRow.holds Try.pinned (OpenSpec.upto procAnewSpec)

end Rows
end Go.Proofs.Ytkbafiepnnldeaa
