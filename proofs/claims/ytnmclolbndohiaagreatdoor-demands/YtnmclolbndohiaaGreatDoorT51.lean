/-
  The row and the card of 'Demands'.
-/
import Derived.Test.YtnmclolbndohiaaGreatDoorT50
import Derived.Test.YtnmclolbndohiaaGreatDoorT49
import Derived.Test.YtnmclolbndohiaaGreatDoorTie
namespace Go.Proofs.YtnmclolbndohiaaGreatDoor
open Go.ChangeShapes Go.WideShapes Go.ChangeAt Go.RowKit

theorem closed_at : joinedFacts Tryz.pinned.checked.prog 4 Tryz.f4 (OpenSpec.ofChange Rows.demandsSpec).bare Rows.demandsRow = true := by
  have e : Tryz.pinned.checked.prog = Tryz.prog := by kernel_rfl
  rw [e]
  exact closed

set_option maxRecDepth 100000 in
theorem said : Rows.DemandsSaid :=
  OpenClaim.holds_of_cond 4 Tryz.f4 rfl rfl rfl rfl rfl rfl rfl ⟨rfl, rfl, rfl, rfl, rfl⟩ rfl rfl rfl rfl rfl named_demands Tryz.func4 closed_at
    inst_demands wrap_demands
    (fun os started H enc _ F => by rw [OpenClaim.pre_eq_preRow]; exact lifted os started H enc F)

set_option maxRecDepth 100000 in
theorem looks_demands : true = Tryz.pinned.checked.prog.looks [] := by kernel_rfl

set_option maxRecDepth 100000 in
theorem no_stand_in : Tryz.prog.wantsStandIn 25 = false := by kernel_rfl

theorem plain (f : FuncId) (fn : Func) (hf : Tryz.pinned.checked.prog.funcNamed Rows.demandsRow.func = some f) (hfn : Tryz.pinned.checked.prog.funcs[f]? = some fn) :
    true = Tryz.pinned.checked.prog.looks [] ∧ ∀ (j : Nat) t, fn.params[j]? = some t → Tryz.pinned.checked.prog.wantsStandIn t = false := by
  obtain rfl : f = 4 := (Option.some.inj (named_demands.symm.trans hf)).symm
  obtain rfl : fn = Tryz.f4 := (Option.some.inj (Tryz.func4.symm.trans hfn)).symm
  refine ⟨looks_demands, fun j t ht => ?_⟩
  rw [Tryz.params4] at ht
  obtain rfl : t = 25 := by simpa using Array.mem_of_getElem? ht
  exact no_stand_in

/-- THE CARD -/
theorem card : Rows.DemandsCardSaid :=
  Claim7.holds_tied_plain_at .later [] _ _ _ _ said (fun _ h => by cases h) (by kernel_rfl) (fun _ h => by cases h) demands_row_tie rfl ⟨rfl, rfl⟩ (by kernel_rfl) rfl plain (by kernel_rfl)

end Go.Proofs.YtnmclolbndohiaaGreatDoor
