/-
  The row of 'Fitting' (where what it reads is small), and its card.
-/
import Derived.Test.YtnmclolbndohiaaDoorTop
import Derived.Test.YtnmclolbndohiaaDoorCards
import Derived.Test.YtnmclolbndohiaaDoorTie
import Derived.ProofKit
import Derived.OpenShut
import Derived.Deep.DeepHandedRow
import Derived.Deep.DeepWitnessRowRef
import Derived.Lib.LaidTab
import Derived.LaidMore
import Derived.Stop.LaidErr
import Derived.Shelf.Vars
namespace Go.Proofs.YtnmclolbndohiaaDoor
open Go.ChangeShapes Go.WideShapes Go.ChangeAt Go.RowKit
open Go.ChangeMaps (open_string shut_string)

theorem own : ownKnob Tryd.prog.godebug = none := by kernel_rfl
theorem gVer : Tryd.prog.globalNamed "lockstep/versions.errVersion" = some 0 := by kernel_rfl
theorem gDem : Tryd.prog.globalNamed "lockstep/versions.errDemand" = some 1 := by kernel_rfl
theorem gVerType : (Tryd.prog.globals[0]?).map (·.type) = some 37 := by kernel_rfl
theorem gDemType : (Tryd.prog.globals[1]?).map (·.type) = some 37 := by kernel_rfl
theorem cells98 : Tryd.prog.cellsOf 98 = 1 := by kernel_rfl
theorem cells9 : Tryd.prog.cellsOf 9 = 1 := by kernel_rfl
theorem star : "*" ++ "errors.errorString" = "*errors.errorString" := by decide
theorem row81 (u : TypeId) (h : Tryd.prog.typeName? 3 u = some "*errors.errorString") : u = 81 :=
  typeName_ptr_named (nm := "errors.errorString") (by rw [star]; kernel_rfl) (by kernel_rfl) (by decide) u (by rw [star]; exact h)

/-- What the row's list and the world's shape give the walk. -/
theorem glob_of {W : World} (h : laidMetH Tryd.prog Rows.fittingUptoRow.laid W) (hsh : W.ShapedOpen Tryd.prog) : ∃ (p0 p1 : Value) (m : Int), Glob 81 81 p0 p1 m W := by
  rw [MakeChecks.laidMetH_plain _ _ _ (by kernel_rfl)] at h
  have h1 : laidMet Tryd.prog [("lockstep/versions.errDemand", Rows.laid_lockstep_versions_errDemand), ("lockstep/versions.errVersion", Rows.laid_lockstep_versions_errVersion), ("unicode/utf8.first", Rows.laid_unicode_utf8_first)] W := laidMet.tail h
  have h2 : laidMet Tryd.prog [("lockstep/versions.errVersion", Rows.laid_lockstep_versions_errVersion), ("unicode/utf8.first", Rows.laid_unicode_utf8_first)] W := laidMet.tail h1
  obtain ⟨a1, s1, hv1, _⟩ := laid_sentinel h1 gDem gDemType Tryd.underlying37 row81 Tryd.underlying81 Tryd.underlying98 rfl rfl Tryd.underlying9 cells98 cells9
  obtain ⟨a0, s0, hv0, _⟩ := laid_sentinel h2 gVer gVerType Tryd.underlying37 row81 Tryd.underlying81 Tryd.underlying98 rfl rfl Tryd.underlying9 cells98 cells9
  obtain ⟨m, hm⟩ : ∃ m, W.cell? ⟨2, 0, none⟩ = some (.int .i64 m) := cell_of_shapedOpen_int (zero := #[.int .i64 0]) (t := 3) hsh (of_decide_eq_true (by kernel_rfl)) (by kernel_rfl) rfl (by kernel_rfl) (by kernel_rfl) Tryd.underlying3
  refine ⟨.pointer (some a0), .pointer (some a1), m, ?_, ?_, hm, World.block_lt_of_cell? _ _ hm⟩
  · simpa using World.var?_cell gVer hv0 0
  · simpa using World.var?_cell gDem hv1 0

theorem small_of {H : Type} (x y : List UInt8) (h : Rows.uptoSmall H ([DataW.lit (.string x), DataW.lit (.string y)] ++ []) = true) : x.length ≤ 1048576 ∧ y.length ≤ 1048576 := by
  have h' := of_decide_eq_true h
  simp only [List.append_nil, Rows.uptoBulkAll, Rows.uptoBulk] at h'
  omega

theorem contract (H : Type) (enc : TypeId × Value → H) (W : World) (base : Nat) (args : Array Value) (ds gs : List (DataW H)) (before : List MemPlace)
    (hval : ∀ (j : Nat) t v, Tryd.f3.params[j]? = some t → args[j]? = some v → Value.okWide Tryd.prog W .any base t v)
    (hW : DataW.Whole enc Tryd.prog Tryd.f3.params.toList Rows.fittingSpec.vars false W args.toList ds gs before) (hk : Rows.uptoSmall H (ds ++ gs) = true)
    (hL : laidMetH Tryd.prog Rows.fittingUptoRow.laid W) (hsh : W.ShapedOpen Tryd.prog) :
    Calls Tryd.prog 3 args W fun e W' => ∃ v, e = .returned v ∧ Rows.fittingSpec.post enc Tryd.prog Tryd.f3 false true false false W args v W' := by
  have hW' := hW
  obtain ⟨p, q, hA0, hV, rfl, hfz, hnd⟩ := hW
  have hA : DataW.TrodAll enc Tryd.prog W 0 (fun _ => true) true Tryd.f3.params.toList args.toList ds p := hA0
  rw [Tryd.params3] at hA hval
  obtain ⟨v0, v1, d0, d1, p0, p1, rfl, rfl, rfl, h0, h1⟩ := trodAll_two hA
  obtain ⟨rfl, rfl⟩ := trodVars_none hV
  obtain ⟨a, rfl, rfl, rfl, ha⟩ := open_string Tryd.underlying9 (hval 0 9 v0 rfl rfl) h0
  obtain ⟨b, rfl, rfl, rfl, hb⟩ := open_string Tryd.underlying9 (hval 1 9 v1 rfl rfl) h1
  clear hA0
  simp only [List.append_nil] at hW'
  obtain ⟨hx, hy⟩ := small_of _ _ hk
  obtain ⟨q0, q1, m, G⟩ := glob_of hL hsh
  refine (fitting_any a b W 81 81 q0 q1 m (by simpa using hx) (by simpa using hy) G).mono fun e W' ⟨he, hbel⟩ => ?_
  subst he
  exact ⟨_, rfl, _, _, _, [], [], [], hW', trodAll_mk1 (shut_bool Tryd.underlying4 _), trodAll_mk2 (shut_string Tryd.underlying9 ha) (shut_string Tryd.underlying9 hb), rfl, hbel.frame _, fun h => by cases h⟩

end Go.Proofs.YtnmclolbndohiaaDoor
