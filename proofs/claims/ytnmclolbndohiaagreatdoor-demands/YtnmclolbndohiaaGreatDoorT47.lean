/-
  Three numbers by value, opened and shut.
-/
import Derived.Test.YtnmclolbndohiaaGreatDoorT46
import Derived.ProofKit
import Derived.OpenShut
import Derived.WideKeyArr2
namespace Go.Proofs.YtnmclolbndohiaaGreatDoor
open Go.ChangeShapes Go.WideShapes Go.ChangeAt Go.RowKit

theorem cells25 : Tryz.prog.cellsOf 25 = 3 := by kernel_rfl
theorem cells3 : Tryz.prog.cellsOf 3 = 1 := by kernel_rfl
theorem wf_in {n : Int} (h : (Lit.int .i64 n).wf = true) : In64 n := by
  unfold In64
  simp [Lit.wf, IntKind.min, IntKind.max, IntKind.signed, IntKind.bits] at h
  omega

set_option maxRecDepth 100000 in
theorem open3 {H : Type} {enc : TypeId × Value → H} {W : World} {base b0 : Nat} {sp : Nat → Bool} {held : Bool} {r : Reach} {v : Value} {d : DataW H} {ps : List MemPlace} (hval : Value.okWide Tryz.prog W r b0 25 v) (hd : DataW.Trod enc Tryz.prog W base sp held 25 v d ps) :
    ∃ x0 x1 x2 : Int, v = .agg #[.int .i64 x0, .int .i64 x1, .int .i64 x2] ∧ d = .agg [.lit (.int .i64 x0), .lit (.int .i64 x1), .lit (.int .i64 x2)] ∧ ps = [] ∧ (Lit.int .i64 x0).wf = true ∧ (Lit.int .i64 x1).wf = true ∧ (Lit.int .i64 x2).wf = true := by
  simp only [Value.okWide, Tryz.underlying25] at hval
  obtain ⟨cs, rfl, hsz, _⟩ := hval
  rw [cells25] at hsz
  obtain ⟨c0, c1, c2, rfl⟩ : ∃ a b c, cs = #[a, b, c] := by
    match cs, hsz with
    | ⟨[a, b, c]⟩, _ => exact ⟨a, b, c, rfl⟩
  obtain ⟨fuel, hf⟩ := hd
  cases fuel with
  | zero => simp [DataW.trod] at hf
  | succ m =>
    rw [DataW.trod_step] at hf
    unfold DataW.trodStep at hf
    simp only [Tryz.underlying25, Value.cells, cells25, cells3] at hf
    have hr : List.range 3 = [0, 1, 2] := rfl
    rw [hr] at hf
    simp only [List.mapM_cons, List.mapM_nil] at hf
    have e0 : List.take 1 (List.drop (0 * 1) [c0, c1, c2]) = [c0] := rfl
    have e1 : List.take 1 (List.drop (1 * 1) [c0, c1, c2]) = [c1] := rfl
    have e2 : List.take 1 (List.drop (2 * 1) [c0, c1, c2]) = [c2] := rfl
    rw [if_pos (show [c0, c1, c2].length = 3 from rfl), e0, e1, e2] at hf
    cases h0 : DataW.trod enc Tryz.prog W base sp held m 3 [c0] with
    | none => rw [h0] at hf; cases hf
    | some y0 =>
      cases h1 : DataW.trod enc Tryz.prog W base sp held m 3 [c1] with
      | none => rw [h0, h1] at hf; cases hf
      | some y1 =>
        cases h2 : DataW.trod enc Tryz.prog W base sp held m 3 [c2] with
        | none => rw [h0, h1, h2] at hf; cases hf
        | some y2 =>
          rw [h0, h1, h2] at hf
          obtain ⟨x0, k0, rfl, w0⟩ := DataW.trod_int Tryz.underlying3 h0
          obtain ⟨x1, k1, rfl, w1⟩ := DataW.trod_int Tryz.underlying3 h1
          obtain ⟨x2, k2, rfl, w2⟩ := DataW.trod_int Tryz.underlying3 h2
          cases k0
          cases k1
          cases k2
          cases hf
          exact ⟨x0, x1, x2, rfl, rfl, rfl, w0, w1, w2⟩

set_option maxRecDepth 100000 in
theorem shut3 {H : Type} {enc : TypeId × Value → H} {W : World} {base : Nat} {sp : Nat → Bool} {held : Bool} {x0 x1 x2 : Int} (h0 : (Lit.int .i64 x0).wf = true) (h1 : (Lit.int .i64 x1).wf = true) (h2 : (Lit.int .i64 x2).wf = true) :
    DataW.Trod enc Tryz.prog W base sp held 25 (.agg #[.int .i64 x0, .int .i64 x1, .int .i64 x2]) (.agg [.lit (.int .i64 x0), .lit (.int .i64 x1), .lit (.int .i64 x2)]) [] := by
  have hi : ∀ (n : Int), (Lit.int .i64 n).wf = true → DataW.trod enc Tryz.prog W base sp held 1 3 [.int .i64 n] = some (.lit (.int .i64 n), []) := fun n hn => by
    simp [DataW.trod, Tryz.underlying3, hn]
  refine ⟨2, ?_⟩
  rw [DataW.trod_step]
  unfold DataW.trodStep
  simp only [Tryz.underlying25, Value.cells, cells25, cells3]
  have hr : List.range 3 = [0, 1, 2] := rfl
  rw [hr]
  simp only [List.mapM_cons, List.mapM_nil]
  have e0 : List.take 1 (List.drop (0 * 1) [Value.int .i64 x0, .int .i64 x1, .int .i64 x2]) = [.int .i64 x0] := rfl
  have e1 : List.take 1 (List.drop (1 * 1) [Value.int .i64 x0, .int .i64 x1, .int .i64 x2]) = [.int .i64 x1] := rfl
  have e2 : List.take 1 (List.drop (2 * 1) [Value.int .i64 x0, .int .i64 x1, .int .i64 x2]) = [.int .i64 x2] := rfl
  rw [if_pos (show [Value.int .i64 x0, .int .i64 x1, .int .i64 x2].length = 3 from rfl), e0, e1, e2, hi x0 h0, hi x1 h1, hi x2 h2]
  rfl

end Go.Proofs.YtnmclolbndohiaaGreatDoor
