/-
  DERIVED. GIVEN WITH THE SEED: THE CARDS: each row of YtmcfjlkjijaflaaGreatDoorRows.lean that lists a variable, with what it lists TIED to the program's text (the seventh form; the later family's looks); each row that meets fmt, with fmt's text TOLD by the authors' own Lean function (tested against real Go, not proved from fmt's source: count such statements apart). THE CARD IS WHAT COUNTS. Prove the row's statement (the work); the ties are given (YtmcfjlkjijaflaaGreatDoorTie.lean); close each card by the builder's one call (the guide's Derived/Test/ToyasCard.lean, 'card_holds'). Laid BY PROGRAM, IN A SANDBOX (cutbox-door.mjs). By AI agents, Wed Nov 11 2026. No macro, syntax, notation, axiom, sorry.
-/
import Derived.Test.YtmcfjlkjijaflaaGreatDoorRows
import GoSem.ClaimSeven
namespace Go.Proofs.YtmcfjlkjijaflaaGreatDoor
namespace Rows

/-- THE TIED CARD OF 'forelocklaw12.SetupBack'. -/
def setupBackCard : Claim7 := { stood := { row := setupBackRow, standIns := [], harness := (true, "3a838ab47df42aacc94d0f71e4fea1b8e01a47be076155e2623a41ee27951731"), looks := false }, kinds := [], alts := [], laidByText := true, laidKinds := [.data, .data, .data], laidTests := true, laidLooks := .later }
def SetupBackCardSaid : Prop := Claim7.holds Tryz.pinned (.plain (OpenSpec.ofChange setupBackSpec)) setupBackCard

/-- THE TIED CARD OF 'forelocklaw12.SetupAny'. -/
def setupAnyCard : Claim7 := { stood := { row := setupAnyRow, standIns := [], harness := (true, "3a838ab47df42aacc94d0f71e4fea1b8e01a47be076155e2623a41ee27951731"), looks := false }, kinds := [], alts := [], laidByText := true, laidKinds := [.data, .data, .data], laidTests := true, laidLooks := .later }
def SetupAnyCardSaid : Prop := Claim7.holds Tryz.pinned (.plain (OpenSpec.ofChange setupAnySpec)) setupAnyCard

/-- THE TIED CARD OF 'forelocklaw12.SetupSames'. -/
def setupSamesCard : Claim7 := { stood := { row := setupSamesRow, standIns := [], harness := (true, "3a838ab47df42aacc94d0f71e4fea1b8e01a47be076155e2623a41ee27951731"), looks := false }, kinds := [], alts := [], laidByText := true, laidKinds := [.data, .data, .data], laidTests := true, laidLooks := .later }
def SetupSamesCardSaid : Prop := Claim7.holds Tryz.pinned (.plain (OpenSpec.ofChange setupSamesSpec)) setupSamesCard

/-- THE SECOND FORM's CARD OF 'forelocklaw12.SetupBack'. -/
def setupBackUptoCard : Claim7 := { stood := { row := setupBackUptoRow, standIns := [], harness := (true, "3a838ab47df42aacc94d0f71e4fea1b8e01a47be076155e2623a41ee27951731"), looks := false }, kinds := [], alts := [], laidByText := true, laidKinds := [.data, .data, .data], laidTests := true, laidLooks := .later }
def SetupBackUptoCardSaid : Prop := Claim7.holds Tryz.pinned (.plain (OpenSpec.upto setupBackSpec)) setupBackUptoCard

/-- THE SECOND FORM's CARD OF 'forelocklaw12.SetupAny'. -/
def setupAnyUptoCard : Claim7 := { stood := { row := setupAnyUptoRow, standIns := [], harness := (true, "3a838ab47df42aacc94d0f71e4fea1b8e01a47be076155e2623a41ee27951731"), looks := false }, kinds := [], alts := [], laidByText := true, laidKinds := [.data, .data, .data], laidTests := true, laidLooks := .later }
def SetupAnyUptoCardSaid : Prop := Claim7.holds Tryz.pinned (.plain (OpenSpec.upto setupAnySpec)) setupAnyUptoCard

/-- THE SECOND FORM's CARD OF 'forelocklaw12.SetupSames'. -/
def setupSamesUptoCard : Claim7 := { stood := { row := setupSamesUptoRow, standIns := [], harness := (true, "3a838ab47df42aacc94d0f71e4fea1b8e01a47be076155e2623a41ee27951731"), looks := false }, kinds := [], alts := [], laidByText := true, laidKinds := [.data, .data, .data], laidTests := true, laidLooks := .later }
def SetupSamesUptoCardSaid : Prop := Claim7.holds Tryz.pinned (.plain (OpenSpec.upto setupSamesSpec)) setupSamesUptoCard
end Rows
end Go.Proofs.YtmcfjlkjijaflaaGreatDoor
