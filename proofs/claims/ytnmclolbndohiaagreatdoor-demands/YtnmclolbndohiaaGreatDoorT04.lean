/-
  The walk of the reference's 'Name'.
-/
import Derived.Test.YtnmclolbndohiaaGreatDoorT02
namespace Go.Proofs.YtnmclolbndohiaaGreatDoor
open Go.RowKit
open Ver

namespace Ver
/-- May a byte stand at place j of a name? -/
def okAt (j : Nat) (b : UInt8) : Bool := decide ((97 ≤ (b.toNat : Int) ∧ (b.toNat : Int) ≤ 122) ∨ ((48 ≤ (b.toNat : Int) ∧ (b.toNat : Int) ≤ 57) ∧ j ≠ 0))
def allOk : Nat → List UInt8 → Bool
  | _, [] => true
  | j, b :: r => okAt j b && allOk (j + 1) r
/-- Is it a name? -/
def nameL (l : List UInt8) : Bool := allOk 0 l && decide (1 ≤ l.length ∧ l.length ≤ 8)
theorem nameL_no {l : List UInt8} (h : allOk 0 l = false) : nameL l = false := by unfold nameL; rw [h]; rfl
theorem nameL_yes {l : List UInt8} (h : allOk 0 l = true) : nameL l = decide (1 ≤ l.length ∧ l.length ≤ 8) := by unfold nameL; rw [h]; simp
end Ver

theorem retB {a b : Bool} (h : a = b) : Ending.returned (.bool a) = .returned (.bool b) := by rw [h]

end Go.Proofs.YtnmclolbndohiaaGreatDoor

/-
  Plain facts on the words of a 'needs' or 'root' line.
-/
namespace Go.Proofs.YtnmclolbndohiaaGreatDoor
namespace Ver

/-- Words with a plus ahead, each a name: the names. -/
def plusAll : List (List UInt8) → Option (List (List UInt8))
  | [] => some []
  | w :: r => if (1 < w.length ∧ w.head? = some 43) ∧ nameL w.tail = true then (plusAll r).map (w.tail :: ·) else none

/-- What stands behind the demand: optional or not, bare or not, the rest. -/
def optW : List UInt8 := [111, 112, 116, 105, 111, 110, 97, 108]
def bareW : List UInt8 := [98, 97, 114, 101]
def optN (root : Bool) (l : List (List UInt8)) : Nat := if l.head? = some optW ∧ root = false then 1 else 0
def bareN (l : List (List UInt8)) : Nat := if l.head? = some bareW then 1 else 0

structure PNeed where
  name : List UInt8
  c : Int
  v : Int
  opt : Bool
  bare : Bool
  feats : List (List UInt8)

/-- A line's words, the first left aside. -/
def needP (root : Bool) (ws : List (List UInt8)) : Option PNeed :=
  match ws with
  | _ :: nm :: dm :: rest =>
    match plusAll ((rest.drop (optN root rest)).drop (bareN (rest.drop (optN root rest)))) with
    | none => none
    | some fs => if nameL nm = true ∧ (demI dm).1 ≠ 0 ∧ fs.length ≤ 5 then some ⟨nm, (demI dm).1, (demI dm).2, decide (optN root rest = 1), decide (bareN (rest.drop (optN root rest)) = 1), fs⟩ else none
  | _ => none

theorem plusAll_step (w : List UInt8) (r : List (List UInt8)) (h : (1 < w.length ∧ w.head? = some 43) ∧ nameL w.tail = true) : plusAll (w :: r) = (plusAll r).map (w.tail :: ·) := if_pos h
theorem plusAll_stop (w : List UInt8) (r : List (List UInt8)) (h : ¬ ((1 < w.length ∧ w.head? = some 43) ∧ nameL w.tail = true)) : plusAll (w :: r) = none := if_neg h

/-- The loop over the words behind: fs told, the words from k on to come. -/
def PlusRel (all : List (List UInt8)) (fs : List (List UInt8)) (rest : List (List UInt8)) : Prop := plusAll all = (plusAll rest).map (fs ++ ·)
theorem PlusRel_start (all : List (List UInt8)) : PlusRel all [] all := by unfold PlusRel; cases plusAll all <;> simp
theorem PlusRel_step {all fs r : List (List UInt8)} {w : List UInt8} (h : PlusRel all fs (w :: r)) (hw : (1 < w.length ∧ w.head? = some 43) ∧ nameL w.tail = true) : PlusRel all (fs ++ [w.tail]) r := by
  unfold PlusRel at *; rw [h, plusAll_step w r hw]; cases plusAll r <;> simp
theorem PlusRel_stop {all fs r : List (List UInt8)} {w : List UInt8} (h : PlusRel all fs (w :: r)) (hw : ¬ ((1 < w.length ∧ w.head? = some 43) ∧ nameL w.tail = true)) : plusAll all = none := by
  unfold PlusRel at h; rw [h, plusAll_stop w r hw]; rfl
theorem PlusRel_end {all fs : List (List UInt8)} (h : PlusRel all fs []) : plusAll all = some fs := by
  unfold PlusRel at h; rw [h]; simp [plusAll]

end Ver
end Go.Proofs.YtnmclolbndohiaaGreatDoor
