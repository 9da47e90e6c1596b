/-
  DERIVED. GIVEN WITH THE SEED: THE CARDS: each row of YtmcfjlkjijaflaaDoorRows.lean that lists a variable, with what it lists TIED to the program's text (the seventh form; the later family's looks); each row that meets fmt, with fmt's text TOLD by the authors' own Lean function (tested against real Go, not proved from fmt's source: count such statements apart). THE CARD IS WHAT COUNTS. Prove the row's statement (the work); the ties are given (YtmcfjlkjijaflaaDoorTie.lean); close each card by the builder's one call (the guide's Derived/Test/ToyasCard.lean, 'card_holds'). Laid BY PROGRAM, IN A SANDBOX (cutbox-door.mjs). By AI agents, Wed Nov 11 2026. No macro, syntax, notation, axiom, sorry.
-/
import Derived.Test.YtmcfjlkjijaflaaDoorRows
import GoSem.ClaimSeven
namespace Go.Proofs.YtmcfjlkjijaflaaDoor
namespace Rows

/-- THE TIED CARD OF 'forelocklaw10.ProgBack'. -/
def progBackCard : Claim7 := { stood := { row := progBackRow, standIns := [], harness := (true, "08f72f5e77008f053d095d397b349264a55f58787c8b1c9ec8fd6eab0132fe8c"), looks := false }, kinds := [], alts := [], laidByText := true, laidKinds := [.data, .data, .data], laidTests := true, laidLooks := .later }
def ProgBackCardSaid : Prop := Claim7.holds Tryd.pinned (.plain (OpenSpec.ofChange progBackSpec)) progBackCard

/-- THE TIED CARD OF 'forelocklaw10.ProgAny'. -/
def progAnyCard : Claim7 := { stood := { row := progAnyRow, standIns := [], harness := (true, "08f72f5e77008f053d095d397b349264a55f58787c8b1c9ec8fd6eab0132fe8c"), looks := false }, kinds := [], alts := [], laidByText := true, laidKinds := [.data, .data, .data], laidTests := true, laidLooks := .later }
def ProgAnyCardSaid : Prop := Claim7.holds Tryd.pinned (.plain (OpenSpec.ofChange progAnySpec)) progAnyCard

/-- THE TIED CARD OF 'forelocklaw10.ProgSames'. -/
def progSamesCard : Claim7 := { stood := { row := progSamesRow, standIns := [], harness := (true, "08f72f5e77008f053d095d397b349264a55f58787c8b1c9ec8fd6eab0132fe8c"), looks := false }, kinds := [], alts := [], laidByText := true, laidKinds := [.data, .data, .data], laidTests := true, laidLooks := .later }
def ProgSamesCardSaid : Prop := Claim7.holds Tryd.pinned (.plain (OpenSpec.ofChange progSamesSpec)) progSamesCard

/-- THE TIED CARD OF 'forelocklaw13.ActsBack'. -/
def actsBackCard : Claim7 := { stood := { row := actsBackRow, standIns := [], harness := (true, "08f72f5e77008f053d095d397b349264a55f58787c8b1c9ec8fd6eab0132fe8c"), looks := false }, kinds := [], alts := [], laidByText := true, laidKinds := [.data, .data, .data], laidTests := true, laidLooks := .later }
def ActsBackCardSaid : Prop := Claim7.holds Tryd.pinned (.plain (OpenSpec.ofChange actsBackSpec)) actsBackCard

/-- THE TIED CARD OF 'forelocklaw13.ActsAny'. -/
def actsAnyCard : Claim7 := { stood := { row := actsAnyRow, standIns := [], harness := (true, "08f72f5e77008f053d095d397b349264a55f58787c8b1c9ec8fd6eab0132fe8c"), looks := false }, kinds := [], alts := [], laidByText := true, laidKinds := [.data, .data, .data], laidTests := true, laidLooks := .later }
def ActsAnyCardSaid : Prop := Claim7.holds Tryd.pinned (.plain (OpenSpec.ofChange actsAnySpec)) actsAnyCard

/-- THE SECOND FORM's CARD OF 'forelocklaw10.ProgBack'. -/
def progBackUptoCard : Claim7 := { stood := { row := progBackUptoRow, standIns := [], harness := (true, "08f72f5e77008f053d095d397b349264a55f58787c8b1c9ec8fd6eab0132fe8c"), looks := false }, kinds := [], alts := [], laidByText := true, laidKinds := [.data, .data, .data], laidTests := true, laidLooks := .later }
def ProgBackUptoCardSaid : Prop := Claim7.holds Tryd.pinned (.plain (OpenSpec.upto progBackSpec)) progBackUptoCard

/-- THE SECOND FORM's CARD OF 'forelocklaw10.ProgAny'. -/
def progAnyUptoCard : Claim7 := { stood := { row := progAnyUptoRow, standIns := [], harness := (true, "08f72f5e77008f053d095d397b349264a55f58787c8b1c9ec8fd6eab0132fe8c"), looks := false }, kinds := [], alts := [], laidByText := true, laidKinds := [.data, .data, .data], laidTests := true, laidLooks := .later }
def ProgAnyUptoCardSaid : Prop := Claim7.holds Tryd.pinned (.plain (OpenSpec.upto progAnySpec)) progAnyUptoCard

/-- THE SECOND FORM's CARD OF 'forelocklaw10.ProgSames'. -/
def progSamesUptoCard : Claim7 := { stood := { row := progSamesUptoRow, standIns := [], harness := (true, "08f72f5e77008f053d095d397b349264a55f58787c8b1c9ec8fd6eab0132fe8c"), looks := false }, kinds := [], alts := [], laidByText := true, laidKinds := [.data, .data, .data], laidTests := true, laidLooks := .later }
def ProgSamesUptoCardSaid : Prop := Claim7.holds Tryd.pinned (.plain (OpenSpec.upto progSamesSpec)) progSamesUptoCard

/-- THE SECOND FORM's CARD OF 'forelocklaw13.ActsBack'. -/
def actsBackUptoCard : Claim7 := { stood := { row := actsBackUptoRow, standIns := [], harness := (true, "08f72f5e77008f053d095d397b349264a55f58787c8b1c9ec8fd6eab0132fe8c"), looks := false }, kinds := [], alts := [], laidByText := true, laidKinds := [.data, .data, .data], laidTests := true, laidLooks := .later }
def ActsBackUptoCardSaid : Prop := Claim7.holds Tryd.pinned (.plain (OpenSpec.upto actsBackSpec)) actsBackUptoCard

/-- THE SECOND FORM's CARD OF 'forelocklaw13.ActsAny'. -/
def actsAnyUptoCard : Claim7 := { stood := { row := actsAnyUptoRow, standIns := [], harness := (true, "08f72f5e77008f053d095d397b349264a55f58787c8b1c9ec8fd6eab0132fe8c"), looks := false }, kinds := [], alts := [], laidByText := true, laidKinds := [.data, .data, .data], laidTests := true, laidLooks := .later }
def ActsAnyUptoCardSaid : Prop := Claim7.holds Tryd.pinned (.plain (OpenSpec.upto actsAnySpec)) actsAnyUptoCard
end Rows
end Go.Proofs.YtmcfjlkjijaflaaDoor
