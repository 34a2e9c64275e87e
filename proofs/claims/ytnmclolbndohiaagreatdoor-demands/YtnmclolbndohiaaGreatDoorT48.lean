/-
  The witness of 'Demands'.
-/
import Derived.Test.YtnmclolbndohiaaGreatDoorRows
import Derived.Test.YtnmclolbndohiaaGreatDoorCards
import Derived.Test.YtnmclolbndohiaaGreatDoorTie
import Derived.ProofKit
import Derived.OpenShut
import Derived.Deep.DeepHandedRow
import Derived.Deep.DeepWitnessRowRef
import Derived.Lib.LaidTab
import Derived.LaidMore
import Derived.LaidSub
import Derived.LaidHandle
import Derived.Stop.LaidErr
import Derived.Shelf.Vars
namespace Go.Proofs.YtnmclolbndohiaaGreatDoor
open Go.ChangeShapes Go.WideShapes Go.ChangeAt Go.RowKit

/-- The table of the library's, laid into its block. -/
def layFirst (w : World) : World :=
  { w with heap := w.heap.modify 19 fun o => match o with
      | .cells _ t frozen => .cells ((Go.Pinned.utf8FirstZ.map fun (n : Nat) => Value.int .u8 (n : Int)).toArray) t frozen
      | x => x }
def zero3 : Value := .agg #[.int .i64 0, .int .i64 0, .int .i64 0]

set_option maxRecDepth 100000 in
theorem laid_met (os : Os) : laidMetH Tryz.prog Rows.demandsRow.laid ((layFirst (World.doorLaid Tryz.prog 451 os)).forCall (fun _ _ => 0) ⟨#[], #[zero3, zero3], []⟩).memory :=
  laidMetH_of_parts (laidMet_of_run' 8 (by kernel_rfl) (by kernel_rfl)) (by kernel_rfl)

set_option maxRecDepth 100000 in
theorem reads (os : Os) {H : Type} (enc : TypeId × Value → H) : ∃ places, DataW.whole enc Tryz.prog ((layFirst (World.doorLaid Tryz.prog 451 os)).forCall (fun _ _ => 0) ⟨#[], #[zero3, zero3], []⟩).memory Tryz.f4.params.toList Rows.demandsSpec.vars false #[zero3, zero3].toList 8 = some ([.agg [.lit (.int .i64 0), .lit (.int .i64 0), .lit (.int .i64 0)], .agg [.lit (.int .i64 0), .lit (.int .i64 0), .lit (.int .i64 0)]], [], places) :=
  ⟨[], by kernel_rfl⟩

end Go.Proofs.YtnmclolbndohiaaGreatDoor
