/-
  The walk of '(Demand).Fits' (12).
-/
import Derived.Test.YtnmclolbndohiaaDoorCmp
namespace Go.Proofs.YtnmclolbndohiaaDoor
open Go.RowKit
open Ver

/-- What the cases that fall through come to. -/
def fitC (st f0 f1 f2 v0 v1 v2 : Int) : Bool :=
  if st = 4 ∧ v2 ≠ f2 then false
  else if (st = 4 ∨ st = 3) ∧ v1 ≠ f1 then false
  else if (st = 4 ∨ st = 3 ∨ st = 2) ∧ v0 ≠ f0 then false
  else if (st = 4 ∨ st = 3 ∨ st = 2 ∨ st = 1) ∧ cmp3 v0 v1 v2 f0 f1 f2 < 0 then false
  else true

theorem retb {a b : Bool} (h : a = b) : Ending.returned (.bool a) = .returned (.bool b) := by rw [h]
theorem below2 (w : World) (o o' : Obj) : Below w.heap.size w ((w.alloc o).alloc o') := ((Below.refl _ _).alloc (Nat.le_refl _) o).alloc (by simp) o'
theorem below2_then {w w' : World} {o o' : Obj} {B : Nat} (h : Below B ((w.alloc o).alloc o') w') (hB : w.heap.size ≤ B) : Below w.heap.size w w' := (below2 w o o').trans (h.mono hB)

set_option maxHeartbeats 800000 in
theorem fits_any (st f0 f1 f2 v0 v1 v2 : Int) (hst : st = 0 ∨ st = 1 ∨ st = 2 ∨ st = 3 ∨ st = 4) (w : World) :
    Calls Tryd.prog 12 #[.agg #[.int .i64 st, .int .i64 f0, .int .i64 f1, .int .i64 f2], .agg #[.int .i64 v0, .int .i64 v1, .int .i64 v2]] w fun e w' => e = .returned (.bool (fitC st f0 f1 f2 v0 v1 v2)) ∧ Below w.heap.size w w' := by
  rcases hst with rfl | rfl | rfl | rfl | rfl
  all_goals
    go_enter Tryd.func12, Tryd.ntmps12
    go_wp2_with (go_at_call 19; refine (vcompare_any _ _ _ _ _ _ _).mono ?_; rintro e w' ⟨rfl, hbel⟩)
  all_goals
    go_ret
    refine ⟨retb ?_, ?_⟩
    · try simp only [bne_iff_ne, bne_eq_false_iff_eq, ne_eq] at *
      unfold fitC
      simp_all [Int.not_lt]
    · first
        | exact below2 w _ _
        | exact below2_then ‹_› (by simp; omega)

end Go.Proofs.YtnmclolbndohiaaDoor
