/-
  DERIVED. GIVEN WITH THE SEED: THE CARDS: each row of YtphdlplbcajemaaDoorRows.lean that lists a variable, with what it lists TIED to the program's text (the seventh form; the later family's looks); each row that meets fmt, with fmt's text TOLD by the authors' own Lean function (tested against real Go, not proved from fmt's source: count such statements apart). THE CARD IS WHAT COUNTS. Prove the row's statement (the work); the ties are given (YtphdlplbcajemaaDoorTie.lean); close each card by the builder's one call (the guide's Derived/Test/ToyasCard.lean, 'card_holds'). Laid BY PROGRAM, IN A SANDBOX (cutbox-door.mjs). By AI agents, Wed Nov 11 2026. No macro, syntax, notation, axiom, sorry.
-/
import Derived.Test.YtphdlplbcajemaaDoorRows
import GoSem.ClaimSeven
namespace Go.Proofs.YtphdlplbcajemaaDoor
namespace Rows

/-- THE TIED CARD OF 'purlinlaw01.CountIndices'. -/
def countIndicesCard : Claim7 := { stood := { row := countIndicesRow, standIns := [], harness := (true, "26bfe4994c0221897a6127bf3753e4a1ee11ed91f8f2eaf677c9c74f4012117e"), looks := false }, kinds := [], alts := [], laidByText := true, laidKinds := [.data], laidTests := true, laidLooks := .later }
def CountIndicesCardSaid : Prop := Claim7.holds Tryd.pinned (.plain (OpenSpec.ofChange countIndicesSpec)) countIndicesCard

/-- THE TIED CARD OF 'purlinlaw01.CountRooms'. -/
def countRoomsCard : Claim7 := { stood := { row := countRoomsRow, standIns := [], harness := (true, "26bfe4994c0221897a6127bf3753e4a1ee11ed91f8f2eaf677c9c74f4012117e"), looks := false }, kinds := [], alts := [], laidByText := true, laidKinds := [.data], laidTests := true, laidLooks := .later }
def CountRoomsCardSaid : Prop := Claim7.holds Tryd.pinned (.plain (OpenSpec.ofChange countRoomsSpec)) countRoomsCard

/-- THE TIED CARD OF 'purlinlaw01.CountSets'. -/
def countSetsCard : Claim7 := { stood := { row := countSetsRow, standIns := [], harness := (true, "26bfe4994c0221897a6127bf3753e4a1ee11ed91f8f2eaf677c9c74f4012117e"), looks := false }, kinds := [], alts := [], laidByText := true, laidKinds := [.data], laidTests := true, laidLooks := .later }
def CountSetsCardSaid : Prop := Claim7.holds Tryd.pinned (.plain (OpenSpec.ofChange countSetsSpec)) countSetsCard

/-- THE TIED CARD OF 'purlinlaw01.CountMembers'. -/
def countMembersCard : Claim7 := { stood := { row := countMembersRow, standIns := [], harness := (true, "26bfe4994c0221897a6127bf3753e4a1ee11ed91f8f2eaf677c9c74f4012117e"), looks := false }, kinds := [], alts := [], laidByText := true, laidKinds := [.data], laidTests := true, laidLooks := .later }
def CountMembersCardSaid : Prop := Claim7.holds Tryd.pinned (.plain (OpenSpec.ofChange countMembersSpec)) countMembersCard

/-- THE TIED CARD OF 'purlinlaw01.CountMakes'. -/
def countMakesCard : Claim7 := { stood := { row := countMakesRow, standIns := [], harness := (true, "26bfe4994c0221897a6127bf3753e4a1ee11ed91f8f2eaf677c9c74f4012117e"), looks := false }, kinds := [], alts := [], laidByText := true, laidKinds := [.data], laidTests := true, laidLooks := .later }
def CountMakesCardSaid : Prop := Claim7.holds Tryd.pinned (.plain (OpenSpec.ofChange countMakesSpec)) countMakesCard

/-- THE TIED CARD OF 'purlinlaw01.CountTurns'. -/
def countTurnsCard : Claim7 := { stood := { row := countTurnsRow, standIns := [], harness := (true, "26bfe4994c0221897a6127bf3753e4a1ee11ed91f8f2eaf677c9c74f4012117e"), looks := false }, kinds := [], alts := [], laidByText := true, laidKinds := [.data], laidTests := true, laidLooks := .later }
def CountTurnsCardSaid : Prop := Claim7.holds Tryd.pinned (.plain (OpenSpec.ofChange countTurnsSpec)) countTurnsCard

/-- THE TIED CARD OF 'purlinlaw01.CountBack'. -/
def countBackCard : Claim7 := { stood := { row := countBackRow, standIns := [], harness := (true, "26bfe4994c0221897a6127bf3753e4a1ee11ed91f8f2eaf677c9c74f4012117e"), looks := false }, kinds := [], alts := [], laidByText := true, laidKinds := [.data], laidTests := true, laidLooks := .later }
def CountBackCardSaid : Prop := Claim7.holds Tryd.pinned (.plain (OpenSpec.ofChange countBackSpec)) countBackCard

/-- THE TIED CARD OF 'purlinlaw01.CountAsks'. -/
def countAsksCard : Claim7 := { stood := { row := countAsksRow, standIns := [], harness := (true, "26bfe4994c0221897a6127bf3753e4a1ee11ed91f8f2eaf677c9c74f4012117e"), looks := false }, kinds := [], alts := [], laidByText := true, laidKinds := [.data], laidTests := true, laidLooks := .later }
def CountAsksCardSaid : Prop := Claim7.holds Tryd.pinned (.plain (OpenSpec.ofChange countAsksSpec)) countAsksCard

/-- THE SECOND FORM's CARD OF 'purlinlaw01.CountIndices'. -/
def countIndicesUptoCard : Claim7 := { stood := { row := countIndicesUptoRow, standIns := [], harness := (true, "26bfe4994c0221897a6127bf3753e4a1ee11ed91f8f2eaf677c9c74f4012117e"), looks := false }, kinds := [], alts := [], laidByText := true, laidKinds := [.data], laidTests := true, laidLooks := .later }
def CountIndicesUptoCardSaid : Prop := Claim7.holds Tryd.pinned (.plain (OpenSpec.upto countIndicesSpec)) countIndicesUptoCard

/-- THE SECOND FORM's CARD OF 'purlinlaw01.CountRooms'. -/
def countRoomsUptoCard : Claim7 := { stood := { row := countRoomsUptoRow, standIns := [], harness := (true, "26bfe4994c0221897a6127bf3753e4a1ee11ed91f8f2eaf677c9c74f4012117e"), looks := false }, kinds := [], alts := [], laidByText := true, laidKinds := [.data], laidTests := true, laidLooks := .later }
def CountRoomsUptoCardSaid : Prop := Claim7.holds Tryd.pinned (.plain (OpenSpec.upto countRoomsSpec)) countRoomsUptoCard

/-- THE SECOND FORM's CARD OF 'purlinlaw01.CountSets'. -/
def countSetsUptoCard : Claim7 := { stood := { row := countSetsUptoRow, standIns := [], harness := (true, "26bfe4994c0221897a6127bf3753e4a1ee11ed91f8f2eaf677c9c74f4012117e"), looks := false }, kinds := [], alts := [], laidByText := true, laidKinds := [.data], laidTests := true, laidLooks := .later }
def CountSetsUptoCardSaid : Prop := Claim7.holds Tryd.pinned (.plain (OpenSpec.upto countSetsSpec)) countSetsUptoCard

/-- THE SECOND FORM's CARD OF 'purlinlaw01.CountMembers'. -/
def countMembersUptoCard : Claim7 := { stood := { row := countMembersUptoRow, standIns := [], harness := (true, "26bfe4994c0221897a6127bf3753e4a1ee11ed91f8f2eaf677c9c74f4012117e"), looks := false }, kinds := [], alts := [], laidByText := true, laidKinds := [.data], laidTests := true, laidLooks := .later }
def CountMembersUptoCardSaid : Prop := Claim7.holds Tryd.pinned (.plain (OpenSpec.upto countMembersSpec)) countMembersUptoCard

/-- THE SECOND FORM's CARD OF 'purlinlaw01.CountMakes'. -/
def countMakesUptoCard : Claim7 := { stood := { row := countMakesUptoRow, standIns := [], harness := (true, "26bfe4994c0221897a6127bf3753e4a1ee11ed91f8f2eaf677c9c74f4012117e"), looks := false }, kinds := [], alts := [], laidByText := true, laidKinds := [.data], laidTests := true, laidLooks := .later }
def CountMakesUptoCardSaid : Prop := Claim7.holds Tryd.pinned (.plain (OpenSpec.upto countMakesSpec)) countMakesUptoCard

/-- THE SECOND FORM's CARD OF 'purlinlaw01.CountTurns'. -/
def countTurnsUptoCard : Claim7 := { stood := { row := countTurnsUptoRow, standIns := [], harness := (true, "26bfe4994c0221897a6127bf3753e4a1ee11ed91f8f2eaf677c9c74f4012117e"), looks := false }, kinds := [], alts := [], laidByText := true, laidKinds := [.data], laidTests := true, laidLooks := .later }
def CountTurnsUptoCardSaid : Prop := Claim7.holds Tryd.pinned (.plain (OpenSpec.upto countTurnsSpec)) countTurnsUptoCard

/-- THE SECOND FORM's CARD OF 'purlinlaw01.CountBack'. -/
def countBackUptoCard : Claim7 := { stood := { row := countBackUptoRow, standIns := [], harness := (true, "26bfe4994c0221897a6127bf3753e4a1ee11ed91f8f2eaf677c9c74f4012117e"), looks := false }, kinds := [], alts := [], laidByText := true, laidKinds := [.data], laidTests := true, laidLooks := .later }
def CountBackUptoCardSaid : Prop := Claim7.holds Tryd.pinned (.plain (OpenSpec.upto countBackSpec)) countBackUptoCard

/-- THE SECOND FORM's CARD OF 'purlinlaw01.CountAsks'. -/
def countAsksUptoCard : Claim7 := { stood := { row := countAsksUptoRow, standIns := [], harness := (true, "26bfe4994c0221897a6127bf3753e4a1ee11ed91f8f2eaf677c9c74f4012117e"), looks := false }, kinds := [], alts := [], laidByText := true, laidKinds := [.data], laidTests := true, laidLooks := .later }
def CountAsksUptoCardSaid : Prop := Claim7.holds Tryd.pinned (.plain (OpenSpec.upto countAsksSpec)) countAsksUptoCard
end Rows
end Go.Proofs.YtphdlplbcajemaaDoor
