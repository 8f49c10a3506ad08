/-
  No cell of these rows narrows 'for every input' (looked for: loops, veiled, ifaces, maps, wideKeys, modest, calm, conditions, laid).
  DERIVED. THE GIVEN ROWS OF THIS SEAT. 4 by the template 'for every input the law returns true; each argument reads behind the call as it read before'; 0 by the template 'total and deterministic' (their statements: YtndipldcpnglgaaTotals.lean).
  GIVEN WITH THE SEED: the statements are not yours to turn. If you find one false, say at which input.
  Laid BY PROGRAM, IN A SANDBOX (cutbox-rows.mjs): the forced cells as the released guide's own fill.sh prints them over the translation d229b54937a7001a… (all of the seat's roots in one cut). By AI agents, Wed Nov 11 2026. No macro, syntax, notation, axiom, sorry.
-/
import Derived.Test.YtndipldcpnglgaaChecked
import GoSem.Claim
import GoSem.ClaimJoined
import GoSem.ClaimMapViews
import Derived.JoinedTies
import Derived.KernelRfl
namespace Go.Proofs.Ytndipldcpnglgaa
/- THE CELL 'sum', in the pinned program and in every row, IS THE sha256 OF THE DUMP (.gsa) THAT YtndipldcpnglgaaProg.lean LOADS. Nothing in Lean hashes anything: it is a label: what it is worth is what the hold of that sum in a sandbox is worth. -/
noncomputable def Try.pinned : Pinned := { name := "ytndipldcpnglgaa", sum := "d229b54937a7001a5681c522d13fe39096ce4ec385ab0d23af4970f935681a67", checked := Try.checked }
namespace Rows
def none {H : Type} : Left H := { results := [], args := [] }

/-- 'purlinlaw16.EventPlays': WHATEVER THE INPUT: true; the input reads as it did. -/
def eventPlaysSpec : ChangeSpec := { name := "eventPlays", fn := fun _ => fun
  | [d1, d2] => { results := [.lit (.bool true)], args := [d1, d2] }
  | _ => none }
def eventPlaysRow : OpenClaim := { program := "ytndipldcpnglgaa", sum := "d229b54937a7001a5681c522d13fe39096ce4ec385ab0d23af4970f935681a67", func := "purlin/purlinlaw16.EventPlays", spec := "eventPlays", unfollowed := true, recurses := true, apart := false }
def EventPlaysSaid : Prop := eventPlaysRow.holds Try.pinned (OpenSpec.ofChange eventPlaysSpec)

/-- ITS FALSE NEIGHBOUR: 'it returns false'. Refute it at one input. -/
def eventPlaysWrong : ChangeSpec := { name := "eventPlays", fn := fun _ => fun
  | [d1, d2] => { results := [.lit (.bool false)], args := [d1, d2] }
  | _ => none }
def EventPlaysWrongFalsely : Prop := eventPlaysRow.holds Try.pinned (OpenSpec.ofChange eventPlaysWrong)

/-- 'purlinlaw16.EventUp': WHATEVER THE INPUT: true; the input reads as it did. -/
def eventUpSpec : ChangeSpec := { name := "eventUp", fn := fun _ => fun
  | [d1, d2] => { results := [.lit (.bool true)], args := [d1, d2] }
  | _ => none }
def eventUpRow : OpenClaim := { program := "ytndipldcpnglgaa", sum := "d229b54937a7001a5681c522d13fe39096ce4ec385ab0d23af4970f935681a67", func := "purlin/purlinlaw16.EventUp", spec := "eventUp", unfollowed := true, recurses := true, apart := false }
def EventUpSaid : Prop := eventUpRow.holds Try.pinned (OpenSpec.ofChange eventUpSpec)

/-- ITS FALSE NEIGHBOUR: 'it returns false'. Refute it at one input. -/
def eventUpWrong : ChangeSpec := { name := "eventUp", fn := fun _ => fun
  | [d1, d2] => { results := [.lit (.bool false)], args := [d1, d2] }
  | _ => none }
def EventUpWrongFalsely : Prop := eventUpRow.holds Try.pinned (OpenSpec.ofChange eventUpWrong)

/-- 'purlinlaw16.EventAll': WHATEVER THE INPUT: true; the input reads as it did. -/
def eventAllSpec : ChangeSpec := { name := "eventAll", fn := fun _ => fun
  | [d] => { results := [.lit (.bool true)], args := [d] }
  | _ => none }
def eventAllRow : OpenClaim := { program := "ytndipldcpnglgaa", sum := "d229b54937a7001a5681c522d13fe39096ce4ec385ab0d23af4970f935681a67", func := "purlin/purlinlaw16.EventAll", spec := "eventAll", unfollowed := true, recurses := true, apart := false }
def EventAllSaid : Prop := eventAllRow.holds Try.pinned (OpenSpec.ofChange eventAllSpec)

/-- ITS FALSE NEIGHBOUR: 'it returns false'. Refute it at one input. -/
def eventAllWrong : ChangeSpec := { name := "eventAll", fn := fun _ => fun
  | [d] => { results := [.lit (.bool false)], args := [d] }
  | _ => none }
def EventAllWrongFalsely : Prop := eventAllRow.holds Try.pinned (OpenSpec.ofChange eventAllWrong)

/-- 'purlinlaw16.EventOnce': WHATEVER THE INPUT: true; the input reads as it did. -/
def eventOnceSpec : ChangeSpec := { name := "eventOnce", fn := fun _ => fun
  | [d] => { results := [.lit (.bool true)], args := [d] }
  | _ => none }
def eventOnceRow : OpenClaim := { program := "ytndipldcpnglgaa", sum := "d229b54937a7001a5681c522d13fe39096ce4ec385ab0d23af4970f935681a67", func := "purlin/purlinlaw16.EventOnce", spec := "eventOnce", unfollowed := true, recurses := true, apart := false }
def EventOnceSaid : Prop := eventOnceRow.holds Try.pinned (OpenSpec.ofChange eventOnceSpec)

/-- ITS FALSE NEIGHBOUR: 'it returns false'. Refute it at one input. -/
def eventOnceWrong : ChangeSpec := { name := "eventOnce", fn := fun _ => fun
  | [d] => { results := [.lit (.bool false)], args := [d] }
  | _ => none }
def EventOnceWrongFalsely : Prop := eventOnceRow.holds Try.pinned (OpenSpec.ofChange eventOnceWrong)

/- THE SECOND FORM. 'bulk': how many values and letters a reading holds, each counted each time it is reached (what is shared counts as often as it is met; a slice's spare places count too). A statement '..UptoSaid' is the law's where the arguments, and the package variables that the reading takes, are together of bulk at most 1048576: NARROWER than '..Said'. Prove '..Said' where nothing that the law and all that it calls make is longer than what came in: it says more and counts as full. Else prove '..UptoSaid'. A law counts once. -/
mutual
def uptoBulk {H : Type} : DataW H → Nat
  | .lit (.string bytes) => bytes.length + 1
  | .lit _ => 1
  | .nil => 1
  | .ptr d => uptoBulk d + 1
  | .slice elems spare => uptoBulkAll elems + uptoBulkAll spare + 1
  | .agg parts => uptoBulkAll parts + 1
  | .iface _ d => uptoBulk d + 1
  | .map entries => uptoBulkEntries entries + 1
  | .held _ => 1
def uptoBulkAll {H : Type} : List (DataW H) → Nat
  | [] => 0
  | d :: r => uptoBulk d + uptoBulkAll r
def uptoBulkEntries {H : Type} : List (Lit × DataW H) → Nat
  | [] => 0
  | x :: r => uptoBulkEntry x + uptoBulkEntries r
def uptoBulkEntry {H : Type} : Lit × DataW H → Nat
  | (.string bytes, d) => bytes.length + uptoBulk d + 1
  | (_, d) => uptoBulk d + 1
 end
def uptoSmall : (H : Type) → List (DataW H) → Bool := fun _ ds => decide (uptoBulkAll ds ≤ 1048576)
def OpenSpec.upto (s : _root_.Go.ChangeSpec) : _root_.Go.OpenSpec := { _root_.Go.OpenSpec.ofChange s with cond := some uptoSmall }

/-- 'purlinlaw16.EventPlays', WHERE WHAT IT READS IS OF BULK AT MOST 1048576: true; the input reads as it did. -/
def eventPlaysUptoRow : OpenClaim := { program := "ytndipldcpnglgaa", sum := "d229b54937a7001a5681c522d13fe39096ce4ec385ab0d23af4970f935681a67", func := "purlin/purlinlaw16.EventPlays", spec := "eventPlays", unfollowed := true, recurses := true, apart := false, narrowed := true }
def EventPlaysUptoSaid : Prop := eventPlaysUptoRow.holds Try.pinned (OpenSpec.upto eventPlaysSpec)

/-- 'purlinlaw16.EventUp', WHERE WHAT IT READS IS OF BULK AT MOST 1048576: true; the input reads as it did. -/
def eventUpUptoRow : OpenClaim := { program := "ytndipldcpnglgaa", sum := "d229b54937a7001a5681c522d13fe39096ce4ec385ab0d23af4970f935681a67", func := "purlin/purlinlaw16.EventUp", spec := "eventUp", unfollowed := true, recurses := true, apart := false, narrowed := true }
def EventUpUptoSaid : Prop := eventUpUptoRow.holds Try.pinned (OpenSpec.upto eventUpSpec)

/-- 'purlinlaw16.EventAll', WHERE WHAT IT READS IS OF BULK AT MOST 1048576: true; the input reads as it did. -/
def eventAllUptoRow : OpenClaim := { program := "ytndipldcpnglgaa", sum := "d229b54937a7001a5681c522d13fe39096ce4ec385ab0d23af4970f935681a67", func := "purlin/purlinlaw16.EventAll", spec := "eventAll", unfollowed := true, recurses := true, apart := false, narrowed := true }
def EventAllUptoSaid : Prop := eventAllUptoRow.holds Try.pinned (OpenSpec.upto eventAllSpec)

/-- 'purlinlaw16.EventOnce', WHERE WHAT IT READS IS OF BULK AT MOST 1048576: true; the input reads as it did. -/
def eventOnceUptoRow : OpenClaim := { program := "ytndipldcpnglgaa", sum := "d229b54937a7001a5681c522d13fe39096ce4ec385ab0d23af4970f935681a67", func := "purlin/purlinlaw16.EventOnce", spec := "eventOnce", unfollowed := true, recurses := true, apart := false, narrowed := true }
def EventOnceUptoSaid : Prop := eventOnceUptoRow.holds Try.pinned (OpenSpec.upto eventOnceSpec)

end Rows
end Go.Proofs.Ytndipldcpnglgaa
