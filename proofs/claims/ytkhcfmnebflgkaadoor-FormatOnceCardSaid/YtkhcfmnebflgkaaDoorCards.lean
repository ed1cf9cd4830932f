/-
  DERIVED. GIVEN WITH THE SEED: THE CARDS: each row of YtkhcfmnebflgkaaDoorRows.lean that lists a variable, with what it lists TIED to the program's text (the seventh form; the later family's looks); each row that meets fmt, with fmt's text TOLD by the authors' own Lean function (tested against real Go, not proved from fmt's source: count such statements apart). THE CARD IS WHAT COUNTS. Prove the row's statement (the work); the ties are given (YtkhcfmnebflgkaaDoorTie.lean); close each card by the builder's one call (the guide's Derived/Test/ToyasCard.lean, 'card_holds'). Laid BY PROGRAM, IN A SANDBOX (cutbox-door.mjs). By AI agents, Wed Nov 11 2026. No macro, syntax, notation, axiom, sorry.
-/
import Derived.Test.YtkhcfmnebflgkaaDoorRows
import GoSem.ClaimSeven
namespace Go.Proofs.YtkhcfmnebflgkaaDoor
namespace Rows

/-- THE TIED CARD OF 'radiolinklaw08.FormatEncodes'. -/
def formatEncodesCard : Claim7 := { stood := { row := formatEncodesRow, standIns := [], harness := (true, "0fc3d04fef5bae7dc27d76430fbd2553fe52112c1a4da0e32abc94b8713d823e"), looks := false }, kinds := [], alts := [], laidByText := true, laidKinds := [.data], laidTests := true, laidLooks := .later }
def FormatEncodesCardSaid : Prop := Claim7.holds Tryd.pinned (.plain (OpenSpec.ofChange formatEncodesSpec)) formatEncodesCard

/-- THE TIED CARD OF 'radiolinklaw08.FormatEncodesMade'. -/
def formatEncodesMadeCard : Claim7 := { stood := { row := formatEncodesMadeRow, standIns := [], harness := (true, "0fc3d04fef5bae7dc27d76430fbd2553fe52112c1a4da0e32abc94b8713d823e"), looks := false }, kinds := [], alts := [], laidByText := true, laidKinds := [.data], laidTests := true, laidLooks := .later }
def FormatEncodesMadeCardSaid : Prop := Claim7.holds Tryd.pinned (.plain (OpenSpec.ofChange formatEncodesMadeSpec)) formatEncodesMadeCard

/-- THE TIED CARD OF 'radiolinklaw08.FormatDecodes'. -/
def formatDecodesCard : Claim7 := { stood := { row := formatDecodesRow, standIns := [], harness := (true, "0fc3d04fef5bae7dc27d76430fbd2553fe52112c1a4da0e32abc94b8713d823e"), looks := false }, kinds := [], alts := [], laidByText := true, laidKinds := [.data], laidTests := true, laidLooks := .later }
def FormatDecodesCardSaid : Prop := Claim7.holds Tryd.pinned (.plain (OpenSpec.ofChange formatDecodesSpec)) formatDecodesCard

/-- THE TIED CARD OF 'radiolinklaw08.FormatDecodesMade'. -/
def formatDecodesMadeCard : Claim7 := { stood := { row := formatDecodesMadeRow, standIns := [], harness := (true, "0fc3d04fef5bae7dc27d76430fbd2553fe52112c1a4da0e32abc94b8713d823e"), looks := false }, kinds := [], alts := [], laidByText := true, laidKinds := [.data], laidTests := true, laidLooks := .later }
def FormatDecodesMadeCardSaid : Prop := Claim7.holds Tryd.pinned (.plain (OpenSpec.ofChange formatDecodesMadeSpec)) formatDecodesMadeCard

/-- THE TIED CARD OF 'radiolinklaw08.FormatReturns'. -/
def formatReturnsCard : Claim7 := { stood := { row := formatReturnsRow, standIns := [], harness := (true, "0fc3d04fef5bae7dc27d76430fbd2553fe52112c1a4da0e32abc94b8713d823e"), looks := false }, kinds := [], alts := [], laidByText := true, laidKinds := [.data], laidTests := true, laidLooks := .later }
def FormatReturnsCardSaid : Prop := Claim7.holds Tryd.pinned (.plain (OpenSpec.ofChange formatReturnsSpec)) formatReturnsCard

/-- THE TIED CARD OF 'radiolinklaw08.FormatOnce'. -/
def formatOnceCard : Claim7 := { stood := { row := formatOnceRow, standIns := [], harness := (true, "0fc3d04fef5bae7dc27d76430fbd2553fe52112c1a4da0e32abc94b8713d823e"), looks := false }, kinds := [], alts := [], laidByText := true, laidKinds := [.data], laidTests := true, laidLooks := .later }
def FormatOnceCardSaid : Prop := Claim7.holds Tryd.pinned (.plain (OpenSpec.ofChange formatOnceSpec)) formatOnceCard

/-- THE TIED CARD OF 'radiolinklaw08.FormatSizes'. -/
def formatSizesCard : Claim7 := { stood := { row := formatSizesRow, standIns := [], harness := (true, "0fc3d04fef5bae7dc27d76430fbd2553fe52112c1a4da0e32abc94b8713d823e"), looks := false }, kinds := [], alts := [], laidByText := true, laidKinds := [.data], laidTests := true, laidLooks := .later }
def FormatSizesCardSaid : Prop := Claim7.holds Tryd.pinned (.plain (OpenSpec.ofChange formatSizesSpec)) formatSizesCard

/-- THE SECOND FORM's CARD OF 'radiolinklaw08.FormatEncodes'. -/
def formatEncodesUptoCard : Claim7 := { stood := { row := formatEncodesUptoRow, standIns := [], harness := (true, "0fc3d04fef5bae7dc27d76430fbd2553fe52112c1a4da0e32abc94b8713d823e"), looks := false }, kinds := [], alts := [], laidByText := true, laidKinds := [.data], laidTests := true, laidLooks := .later }
def FormatEncodesUptoCardSaid : Prop := Claim7.holds Tryd.pinned (.plain (OpenSpec.upto formatEncodesSpec)) formatEncodesUptoCard

/-- THE SECOND FORM's CARD OF 'radiolinklaw08.FormatEncodesMade'. -/
def formatEncodesMadeUptoCard : Claim7 := { stood := { row := formatEncodesMadeUptoRow, standIns := [], harness := (true, "0fc3d04fef5bae7dc27d76430fbd2553fe52112c1a4da0e32abc94b8713d823e"), looks := false }, kinds := [], alts := [], laidByText := true, laidKinds := [.data], laidTests := true, laidLooks := .later }
def FormatEncodesMadeUptoCardSaid : Prop := Claim7.holds Tryd.pinned (.plain (OpenSpec.upto formatEncodesMadeSpec)) formatEncodesMadeUptoCard

/-- THE SECOND FORM's CARD OF 'radiolinklaw08.FormatDecodes'. -/
def formatDecodesUptoCard : Claim7 := { stood := { row := formatDecodesUptoRow, standIns := [], harness := (true, "0fc3d04fef5bae7dc27d76430fbd2553fe52112c1a4da0e32abc94b8713d823e"), looks := false }, kinds := [], alts := [], laidByText := true, laidKinds := [.data], laidTests := true, laidLooks := .later }
def FormatDecodesUptoCardSaid : Prop := Claim7.holds Tryd.pinned (.plain (OpenSpec.upto formatDecodesSpec)) formatDecodesUptoCard

/-- THE SECOND FORM's CARD OF 'radiolinklaw08.FormatDecodesMade'. -/
def formatDecodesMadeUptoCard : Claim7 := { stood := { row := formatDecodesMadeUptoRow, standIns := [], harness := (true, "0fc3d04fef5bae7dc27d76430fbd2553fe52112c1a4da0e32abc94b8713d823e"), looks := false }, kinds := [], alts := [], laidByText := true, laidKinds := [.data], laidTests := true, laidLooks := .later }
def FormatDecodesMadeUptoCardSaid : Prop := Claim7.holds Tryd.pinned (.plain (OpenSpec.upto formatDecodesMadeSpec)) formatDecodesMadeUptoCard

/-- THE SECOND FORM's CARD OF 'radiolinklaw08.FormatReturns'. -/
def formatReturnsUptoCard : Claim7 := { stood := { row := formatReturnsUptoRow, standIns := [], harness := (true, "0fc3d04fef5bae7dc27d76430fbd2553fe52112c1a4da0e32abc94b8713d823e"), looks := false }, kinds := [], alts := [], laidByText := true, laidKinds := [.data], laidTests := true, laidLooks := .later }
def FormatReturnsUptoCardSaid : Prop := Claim7.holds Tryd.pinned (.plain (OpenSpec.upto formatReturnsSpec)) formatReturnsUptoCard

/-- THE SECOND FORM's CARD OF 'radiolinklaw08.FormatOnce'. -/
def formatOnceUptoCard : Claim7 := { stood := { row := formatOnceUptoRow, standIns := [], harness := (true, "0fc3d04fef5bae7dc27d76430fbd2553fe52112c1a4da0e32abc94b8713d823e"), looks := false }, kinds := [], alts := [], laidByText := true, laidKinds := [.data], laidTests := true, laidLooks := .later }
def FormatOnceUptoCardSaid : Prop := Claim7.holds Tryd.pinned (.plain (OpenSpec.upto formatOnceSpec)) formatOnceUptoCard

/-- THE SECOND FORM's CARD OF 'radiolinklaw08.FormatSizes'. -/
def formatSizesUptoCard : Claim7 := { stood := { row := formatSizesUptoRow, standIns := [], harness := (true, "0fc3d04fef5bae7dc27d76430fbd2553fe52112c1a4da0e32abc94b8713d823e"), looks := false }, kinds := [], alts := [], laidByText := true, laidKinds := [.data], laidTests := true, laidLooks := .later }
def FormatSizesUptoCardSaid : Prop := Claim7.holds Tryd.pinned (.plain (OpenSpec.upto formatSizesSpec)) formatSizesUptoCard
end Rows
end Go.Proofs.YtkhcfmnebflgkaaDoor
