/-
  The closed facts of the row of Demands, one by one.
-/
import Derived.Test.YtnmclolbndohiaaGreatDoorRows
import Derived.JoinedOf
import Derived.KernelRfl
namespace Go.Proofs.YtnmclolbndohiaaGreatDoor

set_option maxRecDepth 100000 in
theorem fact1 : (Rows.demandsRow.wf (OpenSpec.ofChange Rows.demandsSpec) : Bool) = true := by kernel_rfl

set_option maxRecDepth 100000 in
theorem fact2 : (laidOutB Tryz.prog : Bool) = true := by kernel_rfl

set_option maxRecDepth 100000 in
theorem fact3 : (mapsRowed Tryz.prog : Bool) = true := by kernel_rfl

set_option maxRecDepth 100000 in
theorem fact4 : (Tryz.f4.params.all (Tryz.prog.readableRec ·) : Bool) = true := by kernel_rfl

set_option maxRecDepth 100000 in
theorem fact5 : (namedTie Tryz.prog Rows.demandsRow.named Rows.demandsSpec.vars : Bool) = true := by kernel_rfl

set_option maxRecDepth 100000 in
theorem fact6 : ((Rows.demandsRow.stops == []) : Bool) = true := by kernel_rfl

set_option maxRecDepth 100000 in
theorem fact7 : ((Tryz.prog.stops == []) : Bool) = true := by kernel_rfl

set_option maxRecDepth 100000 in
theorem fact8 : ((Rows.demandsRow.knobs == []) : Bool) = true := by kernel_rfl

set_option maxRecDepth 100000 in
theorem fact9 : ((Tryz.prog.stopKnobs == []) : Bool) = true := by kernel_rfl

set_option maxRecDepth 100000 in
theorem fact10 : ((Rows.demandsRow.inPlace == Tryz.prog.inPlace 4) : Bool) = true := by kernel_rfl

set_option maxRecDepth 100000 in
theorem fact11 : ((Rows.demandsRow.unfollowed == Tryz.prog.unfollowed 4) : Bool) = true := by kernel_rfl

set_option maxRecDepth 100000 in
theorem fact12 : ((Rows.demandsRow.recurses == Tryz.prog.recurses 4) : Bool) = true := by kernel_rfl

set_option maxRecDepth 100000 in
theorem fact13 : ((Rows.demandsRow.named == Tryz.prog.varsNamed 4) : Bool) = true := by kernel_rfl

set_option maxRecDepth 100000 in
theorem fact14 : ((Rows.demandsRow.maps == (Tryz.f4.params.toList ++ Rows.demandsSpec.plain.varTypes Tryz.prog).any (Tryz.prog.mapsRec ·)) : Bool) = true := by kernel_rfl

set_option maxRecDepth 100000 in
theorem fact15 : ((Rows.demandsRow.ifaces == (Tryz.f4.params.toList ++ Rows.demandsSpec.plain.varTypes Tryz.prog).any (Tryz.prog.ifacesRec ·)) : Bool) = true := by kernel_rfl

set_option maxRecDepth 100000 in
theorem fact16 : ((Rows.demandsRow.mapsOut == Tryz.prog.mapsAmong Tryz.f4.resultTypes.toList) : Bool) = true := by kernel_rfl

set_option maxRecDepth 100000 in
theorem fact17 : ((Rows.demandsRow.loops == (Tryz.f4.params.toList ++ Rows.demandsSpec.plain.varTypes Tryz.prog).any (Tryz.prog.loopsFrom ·)) : Bool) = true := by kernel_rfl

set_option maxRecDepth 100000 in
theorem fact18 : ((Rows.demandsRow.wideKeys == (Tryz.f4.params.toList ++ Rows.demandsSpec.plain.varTypes Tryz.prog ++ Tryz.f4.resultTypes.toList).any (Tryz.prog.wideKeysFrom ·)) : Bool) = true := by kernel_rfl

set_option maxRecDepth 100000 in
theorem fact19 : (Rows.demandsSpec.vars.all (Tryz.prog.varReadable ·) : Bool) = true := by kernel_rfl

set_option maxRecDepth 100000 in
theorem fact20 : (Tryz.f4.resultTypes.all (fun t => Tryz.prog.readableRec t && decide (t < Tryz.prog.types.size)) : Bool) = true := by kernel_rfl

set_option maxRecDepth 100000 in
theorem fact21 : ((Rows.demandsRow.ifacesOut == Tryz.f4.resultTypes.toList.any (Tryz.prog.ifacesRec ·)) : Bool) = true := by kernel_rfl

set_option maxRecDepth 100000 in
theorem fact22 : ((Rows.demandsRow.loopsOut == Tryz.f4.resultTypes.toList.any (Tryz.prog.loopsFrom ·)) : Bool) = true := by kernel_rfl

set_option maxRecDepth 100000 in
theorem fact23 : ((Rows.demandsRow.plainKeys == Tryz.prog.plainKeys) : Bool) = true := by kernel_rfl

set_option maxRecDepth 100000 in
theorem fact24 : (Rows.demandsRow.shortTexts.isNone : Bool) = true := by kernel_rfl

set_option maxRecDepth 100000 in
theorem fact25 : (Tryz.prog.stopsHeard : Bool) = true := by kernel_rfl

set_option maxRecDepth 100000 in
theorem fact26 : (Tryz.prog.mayEnter : Bool) = true := by kernel_rfl

set_option maxRecDepth 100000 in
theorem fact27 : ((Rows.demandsRow.lifted == Tryz.prog.liftsFinal) : Bool) = true := by kernel_rfl

set_option maxRecDepth 100000 in
theorem fact28 : ((Tryz.prog.make == some Rows.demandsRow.make) : Bool) = true := by kernel_rfl

set_option maxRecDepth 100000 in
theorem fact29 : ((Rows.demandsRow.kinds == (if Rows.demandsRow.domain.isEmpty then [] else Tryz.f4.params.toList.map fun t => match Tryz.prog.underlying t with | some (.int k) => some k | _ => none)) : Bool) = true := by kernel_rfl

set_option maxRecDepth 100000 in
theorem fact30 : ((Rows.demandsRow.pinned == Rows.demandsRow.pinnedBy) : Bool) = true := by kernel_rfl

set_option maxRecDepth 100000 in
theorem fact31 : ((Rows.demandsRow.veiled == (Tryz.f4.params.toList ++ Rows.demandsSpec.plain.varTypes Tryz.prog ++ Tryz.f4.resultTypes.toList).any (Tryz.prog.veiledRec ·)) : Bool) = true := by kernel_rfl

set_option maxRecDepth 100000 in
theorem fact32 : (Rows.demandsRow.veiledFits Tryz.prog Tryz.f4.params.toList (Tryz.f4.params.toList ++ Rows.demandsSpec.plain.varTypes Tryz.prog ++ Tryz.f4.resultTypes.toList) : Bool) = true := by kernel_rfl

theorem band {a b : Bool} (ha : a = true) (hb : b = true) : (a && b) = true := by rw [ha, hb]; rfl

set_option maxRecDepth 100000 in
theorem closed : joinedFacts Tryz.prog 4 Tryz.f4 Rows.demandsSpec Rows.demandsRow = true := by
  unfold joinedFacts
  exact band (band (band (band (band (band (band (band (band (band (band (band (band (band (band (band (band (band (band (band (band (band (band (band (band (band (band (band (band (band (band fact1 fact2) fact3) fact4) fact5) fact6) fact7) fact8) fact9) fact10) fact11) fact12) fact13) fact14) fact15) fact16) fact17) fact18) fact19) fact20) fact21) fact22) fact23) fact24) fact25) fact26) fact27) fact28) fact29) fact30) fact31) fact32

set_option maxRecDepth 100000 in
theorem named_demands : Tryz.prog.funcNamed Rows.demandsRow.func = some 4 := by kernel_rfl

set_option maxRecDepth 100000 in
theorem inst_demands : Tryz.f4.isInstance Tryz.prog Rows.demandsRow.origin Rows.demandsRow.targs := of_decide_eq_true (by kernel_rfl)

set_option maxRecDepth 100000 in
theorem wrap_demands : Tryz.f4.isWrapper Tryz.prog Rows.demandsRow.wrapper Rows.demandsRow.mainSum := by
  unfold Func.isWrapper
  first | (rw [if_pos (by decide +kernel)]; kernel_rfl) | (rw [if_neg (by decide +kernel)]; exact ⟨rfl, rfl⟩)

end Go.Proofs.YtnmclolbndohiaaGreatDoor
