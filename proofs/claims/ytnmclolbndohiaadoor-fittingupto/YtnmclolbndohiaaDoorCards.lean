/-
  DERIVED. GIVEN WITH THE SEED: THE CARDS: each row of YtnmclolbndohiaaDoorRows.lean that lists a variable, with what it lists TIED to the program's text (the seventh form; the later family's looks); each row that meets fmt, with fmt's text TOLD by the authors' own Lean function (tested against real Go, not proved from fmt's source: count such statements apart). THE CARD IS WHAT COUNTS. Prove the row's statement (the work); the ties are given (YtnmclolbndohiaaDoorTie.lean); close each card by the builder's one call (the guide's Derived/Test/ToyasCard.lean, 'card_holds'). Laid BY PROGRAM, IN A SANDBOX (cutbox-door.mjs). By AI agents, Wed Nov 11 2026. No macro, syntax, notation, axiom, sorry.
-/
import Derived.Test.YtnmclolbndohiaaDoorRows
import GoSem.ClaimSeven
namespace Go.Proofs.YtnmclolbndohiaaDoor
namespace Rows

/-- THE TIED CARD OF 'locksteplaw.Fitting'. -/
def fittingCard : Claim7 := { stood := { row := fittingRow, standIns := [], harness := (true, "dd49723962ec0b7e734bb52d4fdf4a9d9d3e7da8944ced5578c1f1a7989a41b1"), looks := false }, kinds := [], alts := [], laidByText := true, laidKinds := [.data, .sentinel, .sentinel, .pinned], laidTests := true, laidLooks := .later }
def FittingCardSaid : Prop := Claim7.holds Tryd.pinned (.plain (OpenSpec.ofChange fittingSpec)) fittingCard

/-- THE SECOND FORM's CARD OF 'locksteplaw.Fitting'. -/
def fittingUptoCard : Claim7 := { stood := { row := fittingUptoRow, standIns := [], harness := (true, "dd49723962ec0b7e734bb52d4fdf4a9d9d3e7da8944ced5578c1f1a7989a41b1"), looks := false }, kinds := [], alts := [], laidByText := true, laidKinds := [.data, .sentinel, .sentinel, .pinned], laidTests := true, laidLooks := .later }
def FittingUptoCardSaid : Prop := Claim7.holds Tryd.pinned (.plain (OpenSpec.upto fittingSpec)) fittingUptoCard
end Rows
end Go.Proofs.YtnmclolbndohiaaDoor
