/-
  DERIVED. GIVEN WITH THE SEED: THE CARDS: each row of YtggpljhlfhhcaaaDoorRows.lean that lists a variable, with what it lists TIED to the program's text (the seventh form; the later family's looks); each row that meets fmt, with fmt's text TOLD by the authors' own Lean function (tested against real Go, not proved from fmt's source: count such statements apart). THE CARD IS WHAT COUNTS. Prove the row's statement (the work); the ties are given (YtggpljhlfhhcaaaDoorTie.lean); close each card by the builder's one call (the guide's Derived/Test/ToyasCard.lean, 'card_holds'). Laid BY PROGRAM, IN A SANDBOX (cutbox-door.mjs). By AI agents, Wed Nov 11 2026. No macro, syntax, notation, axiom, sorry.
-/
import Derived.Test.YtggpljhlfhhcaaaDoorRows
import GoSem.ClaimSeven
namespace Go.Proofs.YtggpljhlfhhcaaaDoor
namespace Rows

/-- THE TIED CARD OF 'purlinlaw13.SlotPlays'. -/
def slotPlaysCard : Claim7 := { stood := { row := slotPlaysRow, standIns := [], harness := (true, "a4dbce93ada6cfc9127b6ef4a4bf6b3f509a450583869168a7e1ab2ab38c8f32"), looks := false }, kinds := [], alts := [], laidByText := true, laidKinds := [.data, .data, .data, .data, .data, .data], laidTests := true, laidLooks := .later }
def SlotPlaysCardSaid : Prop := Claim7.holds Tryd.pinned (.plain (OpenSpec.ofChange slotPlaysSpec)) slotPlaysCard

/-- THE TIED CARD OF 'purlinlaw13.SlotWhole'. -/
def slotWholeCard : Claim7 := { stood := { row := slotWholeRow, standIns := [], harness := (true, "a4dbce93ada6cfc9127b6ef4a4bf6b3f509a450583869168a7e1ab2ab38c8f32"), looks := false }, kinds := [], alts := [], laidByText := true, laidKinds := [.data, .data, .data, .data, .data, .data], laidTests := true, laidLooks := .later }
def SlotWholeCardSaid : Prop := Claim7.holds Tryd.pinned (.plain (OpenSpec.ofChange slotWholeSpec)) slotWholeCard

/-- THE TIED CARD OF 'purlinlaw13.SlotFresh'. -/
def slotFreshCard : Claim7 := { stood := { row := slotFreshRow, standIns := [], harness := (true, "a4dbce93ada6cfc9127b6ef4a4bf6b3f509a450583869168a7e1ab2ab38c8f32"), looks := false }, kinds := [], alts := [], laidByText := true, laidKinds := [.data, .data, .data, .data, .data, .data], laidTests := true, laidLooks := .later }
def SlotFreshCardSaid : Prop := Claim7.holds Tryd.pinned (.plain (OpenSpec.ofChange slotFreshSpec)) slotFreshCard

/-- THE TIED CARD OF 'purlinlaw13.SlotBack'. -/
def slotBackCard : Claim7 := { stood := { row := slotBackRow, standIns := [], harness := (true, "a4dbce93ada6cfc9127b6ef4a4bf6b3f509a450583869168a7e1ab2ab38c8f32"), looks := false }, kinds := [], alts := [], laidByText := true, laidKinds := [.data, .data, .data, .data, .data, .data], laidTests := true, laidLooks := .later }
def SlotBackCardSaid : Prop := Claim7.holds Tryd.pinned (.plain (OpenSpec.ofChange slotBackSpec)) slotBackCard

/-- THE SECOND FORM's CARD OF 'purlinlaw13.SlotPlays'. -/
def slotPlaysUptoCard : Claim7 := { stood := { row := slotPlaysUptoRow, standIns := [], harness := (true, "a4dbce93ada6cfc9127b6ef4a4bf6b3f509a450583869168a7e1ab2ab38c8f32"), looks := false }, kinds := [], alts := [], laidByText := true, laidKinds := [.data, .data, .data, .data, .data, .data], laidTests := true, laidLooks := .later }
def SlotPlaysUptoCardSaid : Prop := Claim7.holds Tryd.pinned (.plain (OpenSpec.upto slotPlaysSpec)) slotPlaysUptoCard

/-- THE SECOND FORM's CARD OF 'purlinlaw13.SlotWhole'. -/
def slotWholeUptoCard : Claim7 := { stood := { row := slotWholeUptoRow, standIns := [], harness := (true, "a4dbce93ada6cfc9127b6ef4a4bf6b3f509a450583869168a7e1ab2ab38c8f32"), looks := false }, kinds := [], alts := [], laidByText := true, laidKinds := [.data, .data, .data, .data, .data, .data], laidTests := true, laidLooks := .later }
def SlotWholeUptoCardSaid : Prop := Claim7.holds Tryd.pinned (.plain (OpenSpec.upto slotWholeSpec)) slotWholeUptoCard

/-- THE SECOND FORM's CARD OF 'purlinlaw13.SlotFresh'. -/
def slotFreshUptoCard : Claim7 := { stood := { row := slotFreshUptoRow, standIns := [], harness := (true, "a4dbce93ada6cfc9127b6ef4a4bf6b3f509a450583869168a7e1ab2ab38c8f32"), looks := false }, kinds := [], alts := [], laidByText := true, laidKinds := [.data, .data, .data, .data, .data, .data], laidTests := true, laidLooks := .later }
def SlotFreshUptoCardSaid : Prop := Claim7.holds Tryd.pinned (.plain (OpenSpec.upto slotFreshSpec)) slotFreshUptoCard

/-- THE SECOND FORM's CARD OF 'purlinlaw13.SlotBack'. -/
def slotBackUptoCard : Claim7 := { stood := { row := slotBackUptoRow, standIns := [], harness := (true, "a4dbce93ada6cfc9127b6ef4a4bf6b3f509a450583869168a7e1ab2ab38c8f32"), looks := false }, kinds := [], alts := [], laidByText := true, laidKinds := [.data, .data, .data, .data, .data, .data], laidTests := true, laidLooks := .later }
def SlotBackUptoCardSaid : Prop := Claim7.holds Tryd.pinned (.plain (OpenSpec.upto slotBackSpec)) slotBackUptoCard
end Rows
end Go.Proofs.YtggpljhlfhhcaaaDoor
