/-
  A region that draws its order, whose operations only read and whose callees may make memory: one walk, in the text's order; behind it any world in which the old blocks are as they were.
-/
import Derived.Test.YtnmclolbndohiaaGreatDoorT08
import Derived.Deep.QuietTactic
namespace Go.Proofs.YtnmclolbndohiaaGreatDoor
open Go.RowKit

theorem wp_region_below {P : Program} {id : Nat} {Q : Exit → Act → World → Prop} {a : Act} {w : World} {l : List Oper} (hm : P.follows .mixedOrders = true) (hB : Region.lexB .any l.toArray = true)
    (h : wpQuiet P l.toArray (fun w' => Below w.heap.size w w') (fun a' => ∀ w', Below w.heap.size w w' → Q .normal a' w') l a) : (Code.region id l.toArray true).wp P Q a w :=
  wp_region_quiet (C := fun w' => Below w.heap.size w w') hm hB ((Below.refl _ _).drew) (by simpa using h)

/-- A callee's contract, met in a world of that class. -/
theorem calls_below {P : Program} {f : FuncId} {args : Array Value} {w w' : World} {v : Value} (hw : Below w.heap.size w w')
    (h : Calls P f args w' fun e w2 => e = .returned v ∧ Below w'.heap.size w' w2) : Calls P f args w' fun e w2 => e = .returned v ∧ Below w.heap.size w w2 :=
  h.mono fun _ _ h => ⟨h.1, hw.trans (h.2.mono hw.size)⟩
end Go.Proofs.YtnmclolbndohiaaGreatDoor
