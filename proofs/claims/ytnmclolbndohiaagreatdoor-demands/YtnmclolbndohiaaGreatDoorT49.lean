/-
  The closed facts of the row of Demands: each a declaration of its own (in one the kernel's memory is used up).
-/
import Derived.Test.YtnmclolbndohiaaGreatDoorRows
import Derived.JoinedOf
import Derived.KernelRfl
namespace Go.Proofs.YtnmclolbndohiaaGreatDoor

theorem band {a b : Bool} (ha : a = true) (hb : b = true) : (a && b) = true := by rw [ha, hb]; rfl

set_option maxHeartbeats 40000000 in
set_option maxRecDepth 100000 in
theorem closed : joinedFacts Tryz.prog 4 Tryz.f4 (OpenSpec.ofChange Rows.demandsSpec).bare Rows.demandsRow = true := by
  unfold joinedFacts
  refine band (band (band (band (band (band (band (band (band (band (band (band (band (band (band (band (band (band (band (band (band (band (band (band (band (band (band (band (band (band (band ?_ ?_) ?_) ?_) ?_) ?_) ?_) ?_) ?_) ?_) ?_) ?_) ?_) ?_) ?_) ?_) ?_) ?_) ?_) ?_) ?_) ?_) ?_) ?_) ?_) ?_) ?_) ?_) ?_) ?_) ?_) ?_
  all_goals (as_aux_lemma => kernel_rfl)

set_option maxRecDepth 100000 in
theorem named_demands : Tryz.prog.funcNamed Rows.demandsRow.func = some 4 := by kernel_rfl

set_option maxRecDepth 100000 in
theorem inst_demands : Tryz.f4.isInstance Tryz.prog Rows.demandsRow.origin Rows.demandsRow.targs := of_decide_eq_true (by kernel_rfl)

set_option maxRecDepth 100000 in
theorem wrap_demands : Tryz.f4.isWrapper Tryz.prog Rows.demandsRow.wrapper Rows.demandsRow.mainSum := by
  unfold Func.isWrapper
  first | (rw [if_pos (by decide +kernel)]; kernel_rfl) | (rw [if_neg (by decide +kernel)]; exact ⟨rfl, rfl⟩)

end Go.Proofs.YtnmclolbndohiaaGreatDoor
