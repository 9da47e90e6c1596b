/-
  DERIVED. GIVEN WITH THE SEED: THE CARDS: each row of YtppdjdlnaohkiaaDoorRows.lean that lists a variable, with what it lists TIED to the program's text (the seventh form; the later family's looks); each row that meets fmt, with fmt's text TOLD by the authors' own Lean function (tested against real Go, not proved from fmt's source: count such statements apart). THE CARD IS WHAT COUNTS. Prove the row's statement (the work); the ties are given (YtppdjdlnaohkiaaDoorTie.lean); close each card by the builder's one call (the guide's Derived/Test/ToyasCard.lean, 'card_holds'). Laid BY PROGRAM, IN A SANDBOX (cutbox-door.mjs). By AI agents, Wed Nov 11 2026. No macro, syntax, notation, axiom, sorry.
-/
import Derived.Test.YtppdjdlnaohkiaaDoorRows
import GoSem.ClaimSeven
namespace Go.Proofs.YtppdjdlnaohkiaaDoor
namespace Rows

/-- THE TIED CARD OF 'forelocklaw06.IdsetCalls'. -/
def idsetCallsCard : Claim7 := { stood := { row := idsetCallsRow, standIns := [], harness := (true, "39123d49be9b058e4e69187a42f4c3686cb2a81829a74952a6b5cd0f393fb2da"), looks := false }, kinds := [], alts := [], laidByText := true, laidKinds := [.data], laidTests := true, laidLooks := .later }
def IdsetCallsCardSaid : Prop := Claim7.holds Tryd.pinned (.plain (OpenSpec.ofChange idsetCallsSpec)) idsetCallsCard

/-- THE TIED CARD OF 'forelocklaw06.IdsetOf'. -/
def idsetOfCard : Claim7 := { stood := { row := idsetOfRow, standIns := [], harness := (true, "39123d49be9b058e4e69187a42f4c3686cb2a81829a74952a6b5cd0f393fb2da"), looks := false }, kinds := [], alts := [], laidByText := true, laidKinds := [.data], laidTests := true, laidLooks := .later }
def IdsetOfCardSaid : Prop := Claim7.holds Tryd.pinned (.plain (OpenSpec.ofChange idsetOfSpec)) idsetOfCard

/-- THE TIED CARD OF 'forelocklaw06.IdsetTurned'. -/
def idsetTurnedCard : Claim7 := { stood := { row := idsetTurnedRow, standIns := [], harness := (true, "39123d49be9b058e4e69187a42f4c3686cb2a81829a74952a6b5cd0f393fb2da"), looks := false }, kinds := [], alts := [], laidByText := true, laidKinds := [.data], laidTests := true, laidLooks := .later }
def IdsetTurnedCardSaid : Prop := Claim7.holds Tryd.pinned (.plain (OpenSpec.ofChange idsetTurnedSpec)) idsetTurnedCard

/-- THE SECOND FORM's CARD OF 'forelocklaw06.IdsetCalls'. -/
def idsetCallsUptoCard : Claim7 := { stood := { row := idsetCallsUptoRow, standIns := [], harness := (true, "39123d49be9b058e4e69187a42f4c3686cb2a81829a74952a6b5cd0f393fb2da"), looks := false }, kinds := [], alts := [], laidByText := true, laidKinds := [.data], laidTests := true, laidLooks := .later }
def IdsetCallsUptoCardSaid : Prop := Claim7.holds Tryd.pinned (.plain (OpenSpec.upto idsetCallsSpec)) idsetCallsUptoCard

/-- THE SECOND FORM's CARD OF 'forelocklaw06.IdsetOf'. -/
def idsetOfUptoCard : Claim7 := { stood := { row := idsetOfUptoRow, standIns := [], harness := (true, "39123d49be9b058e4e69187a42f4c3686cb2a81829a74952a6b5cd0f393fb2da"), looks := false }, kinds := [], alts := [], laidByText := true, laidKinds := [.data], laidTests := true, laidLooks := .later }
def IdsetOfUptoCardSaid : Prop := Claim7.holds Tryd.pinned (.plain (OpenSpec.upto idsetOfSpec)) idsetOfUptoCard

/-- THE SECOND FORM's CARD OF 'forelocklaw06.IdsetTurned'. -/
def idsetTurnedUptoCard : Claim7 := { stood := { row := idsetTurnedUptoRow, standIns := [], harness := (true, "39123d49be9b058e4e69187a42f4c3686cb2a81829a74952a6b5cd0f393fb2da"), looks := false }, kinds := [], alts := [], laidByText := true, laidKinds := [.data], laidTests := true, laidLooks := .later }
def IdsetTurnedUptoCardSaid : Prop := Claim7.holds Tryd.pinned (.plain (OpenSpec.upto idsetTurnedSpec)) idsetTurnedUptoCard
end Rows
end Go.Proofs.YtppdjdlnaohkiaaDoor
