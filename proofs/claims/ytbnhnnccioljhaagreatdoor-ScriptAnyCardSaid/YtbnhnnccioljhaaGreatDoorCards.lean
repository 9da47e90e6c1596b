/-
  DERIVED. GIVEN WITH THE SEED: THE CARDS: each row of YtbnhnnccioljhaaGreatDoorRows.lean that lists a variable, with what it lists TIED to the program's text (the seventh form; the later family's looks); each row that meets fmt, with fmt's text TOLD by the authors' own Lean function (tested against real Go, not proved from fmt's source: count such statements apart). THE CARD IS WHAT COUNTS. Prove the row's statement (the work); the ties are given (YtbnhnnccioljhaaGreatDoorTie.lean); close each card by the builder's one call (the guide's Derived/Test/ToyasCard.lean, 'card_holds'). Laid BY PROGRAM, IN A SANDBOX (cutbox-door.mjs). By AI agents, Wed Nov 11 2026. No macro, syntax, notation, axiom, sorry.
-/
import Derived.Test.YtbnhnnccioljhaaGreatDoorRows
import GoSem.ClaimSeven
namespace Go.Proofs.YtbnhnnccioljhaaGreatDoor
namespace Rows

/-- THE TIED CARD OF 'forelocklaw14.ScriptBack'. -/
def scriptBackCard : Claim7 := { stood := { row := scriptBackRow, standIns := [], harness := (true, "3656108c7c8064193744dd4cbc672010c8dbc07cfa2e175230893fb508cb4991"), looks := true }, kinds := [], alts := [], laidByText := true, laidKinds := [.data, .data, .data, .sentinel, .sentinel], laidTests := true, laidLooks := .later }
def ScriptBackCardSaid : Prop := Claim7.holds Tryz.pinned (.plain (OpenSpec.ofChange scriptBackSpec)) scriptBackCard

/-- THE TIED CARD OF 'forelocklaw14.ScriptAny'. -/
def scriptAnyCard : Claim7 := { stood := { row := scriptAnyRow, standIns := [], harness := (true, "3656108c7c8064193744dd4cbc672010c8dbc07cfa2e175230893fb508cb4991"), looks := true }, kinds := [], alts := [], laidByText := true, laidKinds := [.data, .data, .data, .sentinel, .sentinel], laidTests := true, laidLooks := .later }
def ScriptAnyCardSaid : Prop := Claim7.holds Tryz.pinned (.plain (OpenSpec.ofChange scriptAnySpec)) scriptAnyCard

/-- THE TIED CARD OF 'forelocklaw14.ScriptHead'. -/
def scriptHeadCard : Claim7 := { stood := { row := scriptHeadRow, standIns := [], harness := (true, "3656108c7c8064193744dd4cbc672010c8dbc07cfa2e175230893fb508cb4991"), looks := true }, kinds := [], alts := [], laidByText := true, laidKinds := [.data, .data, .data, .sentinel, .sentinel], laidTests := true, laidLooks := .later }
def ScriptHeadCardSaid : Prop := Claim7.holds Tryz.pinned (.plain (OpenSpec.ofChange scriptHeadSpec)) scriptHeadCard

/-- THE SECOND FORM's CARD OF 'forelocklaw14.ScriptBack'. -/
def scriptBackUptoCard : Claim7 := { stood := { row := scriptBackUptoRow, standIns := [], harness := (true, "3656108c7c8064193744dd4cbc672010c8dbc07cfa2e175230893fb508cb4991"), looks := true }, kinds := [], alts := [], laidByText := true, laidKinds := [.data, .data, .data, .sentinel, .sentinel], laidTests := true, laidLooks := .later }
def ScriptBackUptoCardSaid : Prop := Claim7.holds Tryz.pinned (.plain (OpenSpec.upto scriptBackSpec)) scriptBackUptoCard

/-- THE SECOND FORM's CARD OF 'forelocklaw14.ScriptAny'. -/
def scriptAnyUptoCard : Claim7 := { stood := { row := scriptAnyUptoRow, standIns := [], harness := (true, "3656108c7c8064193744dd4cbc672010c8dbc07cfa2e175230893fb508cb4991"), looks := true }, kinds := [], alts := [], laidByText := true, laidKinds := [.data, .data, .data, .sentinel, .sentinel], laidTests := true, laidLooks := .later }
def ScriptAnyUptoCardSaid : Prop := Claim7.holds Tryz.pinned (.plain (OpenSpec.upto scriptAnySpec)) scriptAnyUptoCard

/-- THE SECOND FORM's CARD OF 'forelocklaw14.ScriptHead'. -/
def scriptHeadUptoCard : Claim7 := { stood := { row := scriptHeadUptoRow, standIns := [], harness := (true, "3656108c7c8064193744dd4cbc672010c8dbc07cfa2e175230893fb508cb4991"), looks := true }, kinds := [], alts := [], laidByText := true, laidKinds := [.data, .data, .data, .sentinel, .sentinel], laidTests := true, laidLooks := .later }
def ScriptHeadUptoCardSaid : Prop := Claim7.holds Tryz.pinned (.plain (OpenSpec.upto scriptHeadSpec)) scriptHeadUptoCard
end Rows
end Go.Proofs.YtbnhnnccioljhaaGreatDoor
