/-
  What the row of 'Demands' lists, and the world's shape, give the walk.
-/
import Derived.Test.YtnmclolbndohiaaGreatDoorT47
import Derived.Test.YtnmclolbndohiaaGreatDoorCards
import Derived.Test.YtnmclolbndohiaaGreatDoorTie
import Derived.ProofKit
import Derived.OpenShut
import Derived.Deep.DeepHandedRow
import Derived.Deep.DeepWitnessRowRef
import Derived.Lib.LaidTab
import Derived.LaidMore
import Derived.LaidSub
import Derived.LaidHandle
import Derived.Stop.LaidErr
import Derived.Shelf.Vars
import Derived.Test.YtnmclolbndohiaaGreatDoorT48
namespace Go.Proofs.YtnmclolbndohiaaGreatDoor
open Go.ChangeShapes Go.WideShapes Go.ChangeAt Go.RowKit

theorem own : ownKnob Tryz.prog.godebug = none := by kernel_rfl
theorem cells_es : Tryz.prog.cellsOf 379 = 1 := by kernel_rfl
theorem cells_st : Tryz.prog.cellsOf 9 = 1 := by kernel_rfl
theorem star : "*" ++ "errors.errorString" = "*errors.errorString" := by decide
theorem row_es (u : TypeId) (h : Tryz.prog.typeName? 3 u = some "*errors.errorString") : u = 356 :=
  typeName_ptr_named (nm := "errors.errorString") (by rw [star]; kernel_rfl) (by kernel_rfl) (by decide) u (by rw [star]; exact h)

/-- One sentinel of the list. -/
theorem sent_at {W : World} {L : List (String × DataW Unit)} {n : String} {g : Nat} {d : DataW Unit} (h : laidMet Tryz.prog L W) (hf : L.filter (fun x => x.1 == n) = [(n, d)]) (hd : ∃ text, d = .iface "*errors.errorString" (.ptr (.agg [.lit (.string text)])))
    (hg : Tryz.prog.globalNamed n = some g) (ht : (Tryz.prog.globals[g]?).map (·.type) = some 58) : ∃ a, W.cell? ⟨g, 0, none⟩ = some (.iface 356 (.pointer (some a))) := by
  obtain ⟨text, rfl⟩ := hd
  have h1 := h.filter (fun x => x.1 == n)
  rw [hf] at h1
  obtain ⟨a, s, hv, _⟩ := laid_sentinel h1 hg ht Tryz.underlying58 row_es Tryz.underlying356 Tryz.underlying379 rfl rfl Tryz.underlying9 cells_es cells_st
  exact ⟨a, by simpa using World.var?_cell hg hv 0⟩

/-- A variable of type error that the list does not name: it holds something. -/
theorem err_at {W : World} {g : Nat} (h : W.ShapedOpen Tryz.prog) (hg : g < Tryz.prog.globals.size) (h0 : ((begin Tryz.prog (fun _ _ => 0) default).world.heap[g]?).bind Obj.row? = some (#[.nilIface], 58)) : ∃ v, W.cell? ⟨g, 0, none⟩ = some v := by
  obtain ⟨cs, hh, hs, _⟩ := h.1 g _ _ hg h0
  have h1 : 0 < cs.size := by rw [hs]; decide
  exact ⟨cs[0], by simp [World.cell?, hh, h1]⟩

theorem et : Tryz.prog.globalNamed "errors.errorType" = some 7 := by kernel_rfl
theorem rt : (Tryz.prog.cutTypes.find? (·.1 == "internal/reflectlite.rtype")).map (·.2) = some 242 := by kernel_rfl
theorem tsize : Tryz.prog.types.size = 491 - 100 := by kernel_rfl
theorem oneRow : ((List.range (491 - 100)).filter fun t => Tryz.prog.rowNamed t [101, 114, 114, 111, 114]) = [58] := by kernel_rfl
theorem handle_at {W : World} (h : handlesMet Tryz.prog [("errors.errorType", Rows.laid_errors_errorType)] W) : ErrT W := by
  obtain ⟨name, u, ty, e1, e2, e3, e4, e5⟩ := h _ (List.mem_singleton.2 rfl)
  have en : name = [101, 114, 114, 111, 114] := (Option.some.inj e1).symm
  subst en
  obtain rfl := Option.some.inj (rt.symm.trans e2)
  have hm : ty ∈ (List.range (491 - 100)).filter fun t => Tryz.prog.rowNamed t [101, 114, 114, 111, 114] := List.mem_filter.2 ⟨List.mem_range.2 (by rw [← tsize]; exact e3), e4⟩
  rw [oneRow] at hm
  obtain rfl := List.mem_singleton.1 hm
  have hh : typeHandle Tryz.prog 58 = .pointer (some ⟨29, 58, none⟩) := by kernel_rfl
  rw [hh] at e5
  exact ⟨by simpa using World.var?_cell et e5 0⟩

/-- The list without the handle. -/
def plainL : List (String × DataW Unit) := Rows.demandsRow.laid.filter fun x => x.2.handleName?.isNone
theorem laid_two {W : World} (h : laidMetH Tryz.prog Rows.demandsRow.laid W) : laidMet Tryz.prog plainL W ∧ handlesMet Tryz.prog [("errors.errorType", Rows.laid_errors_errorType)] W := by
  have hf : (Rows.demandsRow.laid.filter fun x => x.2.handleName?.isSome) = [("errors.errorType", Rows.laid_errors_errorType)] := by kernel_rfl
  unfold laidMetH at h
  rw [hf] at h
  exact h

theorem sent_of {W : World} (h : laidMet Tryz.prog plainL W) (hsz : 29 ≤ W.heap.size) : Sent W where
  cell := fun k hk => by
    simp only [sentL, List.mem_cons, List.mem_nil_iff, or_false] at hk
    rcases hk with rfl | rfl | rfl | rfl | rfl | rfl | rfl | rfl | rfl | rfl | rfl | rfl | rfl | rfl | rfl | rfl
    · obtain ⟨a, e⟩ := sent_at (n := "lockstep/lines.errLong") (g := 3) (d := Rows.laid_lockstep_lines_errLong) h (by kernel_rfl) ⟨_, rfl⟩ (by kernel_rfl) (by kernel_rfl)
      exact ⟨_, _, e⟩
    · obtain ⟨a, e⟩ := sent_at (n := "lockstep/lines.errFeed") (g := 4) (d := Rows.laid_lockstep_lines_errFeed) h (by kernel_rfl) ⟨_, rfl⟩ (by kernel_rfl) (by kernel_rfl)
      exact ⟨_, _, e⟩
    · obtain ⟨a, e⟩ := sent_at (n := "lockstep/catalog.errAhead") (g := 11) (d := Rows.laid_lockstep_catalog_errAhead) h (by kernel_rfl) ⟨_, rfl⟩ (by kernel_rfl) (by kernel_rfl)
      exact ⟨_, _, e⟩
    · obtain ⟨a, e⟩ := sent_at (n := "lockstep/catalog.errKind") (g := 12) (d := Rows.laid_lockstep_catalog_errKind) h (by kernel_rfl) ⟨_, rfl⟩ (by kernel_rfl) (by kernel_rfl)
      exact ⟨_, _, e⟩
    · obtain ⟨a, e⟩ := sent_at (n := "lockstep/catalog.errAgain") (g := 14) (d := Rows.laid_lockstep_catalog_errAgain) h (by kernel_rfl) ⟨_, rfl⟩ (by kernel_rfl) (by kernel_rfl)
      exact ⟨_, _, e⟩
    · obtain ⟨a, e⟩ := sent_at (n := "lockstep/catalog.errMany") (g := 15) (d := Rows.laid_lockstep_catalog_errMany) h (by kernel_rfl) ⟨_, rfl⟩ (by kernel_rfl) (by kernel_rfl)
      exact ⟨_, _, e⟩
    · obtain ⟨a, e⟩ := sent_at (n := "lockstep/asks.errMany") (g := 5) (d := Rows.laid_lockstep_asks_errMany) h (by kernel_rfl) ⟨_, rfl⟩ (by kernel_rfl) (by kernel_rfl)
      exact ⟨_, _, e⟩
    · obtain ⟨a, e⟩ := sent_at (n := "lockstep/catalog.errFeature") (g := 18) (d := Rows.laid_lockstep_catalog_errFeature) h (by kernel_rfl) ⟨_, rfl⟩ (by kernel_rfl) (by kernel_rfl)
      exact ⟨_, _, e⟩
    · obtain ⟨a, e⟩ := sent_at (n := "lockstep/asks.errAsk") (g := 13) (d := Rows.laid_lockstep_asks_errAsk) h (by kernel_rfl) ⟨_, rfl⟩ (by kernel_rfl) (by kernel_rfl)
      exact ⟨_, _, e⟩
    · obtain ⟨a, e⟩ := sent_at (n := "lockstep/asks.errFeature") (g := 17) (d := Rows.laid_lockstep_asks_errFeature) h (by kernel_rfl) ⟨_, rfl⟩ (by kernel_rfl) (by kernel_rfl)
      exact ⟨_, _, e⟩
    · obtain ⟨a, e⟩ := sent_at (n := "lockstep/catalog.errItem") (g := 22) (d := Rows.laid_lockstep_catalog_errItem) h (by kernel_rfl) ⟨_, rfl⟩ (by kernel_rfl) (by kernel_rfl)
      exact ⟨_, _, e⟩
    · obtain ⟨a, e⟩ := sent_at (n := "lockstep/asks.errRoot") (g := 6) (d := Rows.laid_lockstep_asks_errRoot) h (by kernel_rfl) ⟨_, rfl⟩ (by kernel_rfl) (by kernel_rfl)
      exact ⟨_, _, e⟩
    · obtain ⟨a, e⟩ := sent_at (n := "lockstep/asks.errNoPackage") (g := 2) (d := Rows.laid_lockstep_asks_errNoPackage) h (by kernel_rfl) ⟨_, rfl⟩ (by kernel_rfl) (by kernel_rfl)
      exact ⟨_, _, e⟩
    · obtain ⟨a, e⟩ := sent_at (n := "lockstep/locks.errLine") (g := 8) (d := Rows.laid_lockstep_locks_errLine) h (by kernel_rfl) ⟨_, rfl⟩ (by kernel_rfl) (by kernel_rfl)
      exact ⟨_, _, e⟩
    · obtain ⟨a, e⟩ := sent_at (n := "lockstep/locks.errNoPackage") (g := 9) (d := Rows.laid_lockstep_locks_errNoPackage) h (by kernel_rfl) ⟨_, rfl⟩ (by kernel_rfl) (by kernel_rfl)
      exact ⟨_, _, e⟩
    · obtain ⟨a, e⟩ := sent_at (n := "lockstep/locks.errNoVersion") (g := 10) (d := Rows.laid_lockstep_locks_errNoVersion) h (by kernel_rfl) ⟨_, rfl⟩ (by kernel_rfl) (by kernel_rfl)
      exact ⟨_, _, e⟩
  lt := fun k hk => by
    have : ∀ k ∈ sentL, k < 29 := by decide
    have := this k hk
    omega

/-- All that the walk asks of the world. -/
theorem world_of {W : World} (hL : laidMetH Tryz.prog Rows.demandsRow.laid W) (hsh : W.ShapedOpen Tryz.prog) : ∃ (V : NoV) (p0 p1 : Value) (m : Int), Sent W ∧ Glob 356 356 p0 p1 m W ∧ NoAt V W ∧ ErrT W ∧ 29 ≤ W.heap.size := by
  obtain ⟨h1, h2⟩ := laid_two hL
  obtain ⟨v1, c1⟩ := err_at (g := 28) hsh (of_decide_eq_true (by kernel_rfl)) (by kernel_rfl)
  obtain ⟨v2, c2⟩ := err_at (g := 26) hsh (of_decide_eq_true (by kernel_rfl)) (by kernel_rfl)
  obtain ⟨v3, c3⟩ := err_at (g := 25) hsh (of_decide_eq_true (by kernel_rfl)) (by kernel_rfl)
  obtain ⟨v4, c4⟩ := err_at (g := 27) hsh (of_decide_eq_true (by kernel_rfl)) (by kernel_rfl)
  have hsz : 29 ≤ W.heap.size := World.block_lt_of_cell? _ _ c1
  obtain ⟨m, hm⟩ : ∃ m, W.cell? ⟨16, 0, none⟩ = some (.int .i64 m) := cell_of_shapedOpen_int (zero := #[.int .i64 0]) (t := 3) hsh (of_decide_eq_true (by kernel_rfl)) (by kernel_rfl) rfl (by kernel_rfl) (by kernel_rfl) Tryz.underlying3
  obtain ⟨a0, e0⟩ := sent_at (n := "lockstep/versions.errVersion") (g := 0) (d := Rows.laid_lockstep_versions_errVersion) h1 (by kernel_rfl) ⟨_, rfl⟩ (by kernel_rfl) (by kernel_rfl)
  obtain ⟨a1, e1⟩ := sent_at (n := "lockstep/versions.errDemand") (g := 1) (d := Rows.laid_lockstep_versions_errDemand) h1 (by kernel_rfl) ⟨_, rfl⟩ (by kernel_rfl) (by kernel_rfl)
  exact ⟨⟨v1, v2, v3, v4⟩, .pointer (some a0), .pointer (some a1), m, sent_of h1 hsz, ⟨e0, e1, hm, by show 16 < _; omega⟩, ⟨c1, c2, c3, c4⟩, handle_at h2, hsz⟩

end Go.Proofs.YtnmclolbndohiaaGreatDoor

/-
  The contract of 'Demands'.
-/
namespace Go.Proofs.YtnmclolbndohiaaGreatDoor
open Go.ChangeShapes Go.WideShapes Go.ChangeAt Go.RowKit

set_option maxRecDepth 100000 in
theorem contract (H : Type) (enc : TypeId × Value → H) (W : World) (base : Nat) (args : Array Value) (ds gs : List (DataW H)) (before : List MemPlace)
    (hval : ∀ (j : Nat) t v, Tryz.f4.params[j]? = some t → args[j]? = some v → Value.okWide Tryz.prog W .any base t v)
    (hW : DataW.Whole enc Tryz.prog Tryz.f4.params.toList Rows.demandsSpec.vars false W args.toList ds gs before)
    (hL : laidMetH Tryz.prog Rows.demandsRow.laid W) (hsh : W.ShapedOpen Tryz.prog) :
    Calls Tryz.prog 4 args W fun e W' => ∃ v, e = .returned v ∧ Rows.demandsSpec.post enc Tryz.prog Tryz.f4 false true false false W args v W' := by
  have hW' := hW
  obtain ⟨p, q, hA0, hV, rfl, hfz, hnd⟩ := hW
  have hA : DataW.TrodAll enc Tryz.prog W 0 (fun _ => true) true Tryz.f4.params.toList args.toList ds p := hA0
  rw [Tryz.params4] at hA hval
  obtain ⟨v0, v1, d0, d1, p0, p1, rfl, rfl, rfl, h0, h1⟩ := trodAll_two hA
  obtain ⟨rfl, rfl⟩ := trodVars_none hV
  obtain ⟨x0, x1, x2, rfl, rfl, rfl, a0, a1, a2⟩ := open3 (hval 0 25 v0 rfl rfl) h0
  obtain ⟨y0, y1, y2, rfl, rfl, rfl, b0, b1, b2⟩ := open3 (hval 1 25 v1 rfl rfl) h1
  clear hA0
  simp only [List.append_nil] at hW'
  obtain ⟨V, q0, q1, m, S, G, hN, hT, hgn⟩ := world_of hL hsh
  refine (demands_any x0 x1 x2 y0 y1 y2 V W 356 356 q0 q1 m (wf_in a0) (wf_in a1) (wf_in a2) (wf_in b0) (wf_in b1) (wf_in b2) S G hN hT hgn).mono fun e W' ⟨he, hbel⟩ => ?_
  subst he
  exact ⟨_, rfl, _, _, _, [], [], [], hW', trodAll_mk1 (shut_bool Tryz.underlying4 _), trodAll_mk2 (shut3 a0 a1 a2) (shut3 b0 b1 b2), rfl, hbel.frame _, fun h => by cases h⟩

set_option maxRecDepth 100000 in
theorem lifted (os : Os) (started : os.Started) (H : Type) (enc : TypeId × Value → H) (F : Stop.Interp) :
    ReturnsInHanded {} Tryz.checked os 4 .any ((OpenSpec.ofChange Rows.demandsSpec).preRow enc Tryz.prog Tryz.f4 Rows.demandsRow.domain false Rows.demandsRow.laid) (((OpenSpec.ofChange Rows.demandsSpec).at F).post enc Tryz.prog Tryz.f4 false true false false) := by
  obtain ⟨places, hx⟩ := reads os enc
  refine returnsInHanded_of_row (C := Tryz.checked) (s := OpenSpec.ofChange Rows.demandsSpec) own started (by kernel_rfl) Tryz.func4
    (witness_row_atRef (enc := enc) (C := Tryz.checked) false (layFirst (World.doorLaid Tryz.prog 451 os)) #[zero3, zero3] rfl (by kernel_rfl) (by kernel_rfl) (by kernel_rfl)
      (OpenSpec.preRow_of_cond 8 hx (by kernel_rfl) (fun k hk => by cases hk) (by kernel_rfl) (laid_met os))) ?_
  intro W base args ds gs before hval hW _ _ _ hL hsh _
  exact contract H enc W base args ds gs before hval hW hL hsh

end Go.Proofs.YtnmclolbndohiaaGreatDoor
