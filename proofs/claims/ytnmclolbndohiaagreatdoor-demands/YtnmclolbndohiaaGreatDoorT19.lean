/-
  The walk of the statements' 'behind'; what fits, by the three numbers.
-/
import Derived.Test.YtnmclolbndohiaaGreatDoorT10
import Derived.Test.YtnmclolbndohiaaGreatDoorT15
import Derived.Test.YtnmclolbndohiaaGreatDoorT18
namespace Go.Proofs.YtnmclolbndohiaaGreatDoor
open Go.RowKit
open Ver

theorem below_dN {w w' : World} (h : Below w.heap.size w w') (n : Nat) : Below w.heap.size w (w'.drewN n) := h.trans ((below_drewN w' n).mono h.size)
def behB (a0 a1 a2 b0 b1 b2 : Int) : Bool := if a0 = b0 then (if a1 = b1 then (if a2 = b2 then true else decide (b2 < a2)) else decide (b1 < a1)) else decide (b0 < a0)

set_option maxHeartbeats 1600000 in
set_option maxRecDepth 100000 in
theorem behind_any (a0 a1 a2 b0 b1 b2 : Int) (w : World) : Calls Tryz.prog 16 #[.agg #[.int .i64 a0, .int .i64 a1, .int .i64 a2], .agg #[.int .i64 b0, .int .i64 b1, .int .i64 b2]] w fun e w' => e = .returned (.bool (behB a0 a1 a2 b0 b1 b2)) ∧ Below w.heap.size w w' := by
  have hb2 : Below w.heap.size w ((w.alloc (.cells #[.int .i64 a0, .int .i64 a1, .int .i64 a2] 25)).alloc (.cells #[.int .i64 b0, .int .i64 b1, .int .i64 b2] 25)) := ((Below.refl _ _).alloc (Nat.le_refl _) _).alloc (by simp) _
  have HB : Hid (Below w.heap.size w ((w.alloc (.cells #[.int .i64 a0, .int .i64 a1, .int .i64 a2] 25)).alloc (.cells #[.int .i64 b0, .int .i64 b1, .int .i64 b2] 25))) := hb2
  clear hb2
  by_cases h0 : a0 = b0
  · by_cases h1 : a1 = b1
    · by_cases h2 : a2 = b2
      · have HR : Hid (behB a0 a1 a2 b0 b1 b2 = true) := by show _ = _; unfold behB; rw [if_pos h0, if_pos h1, if_pos h2]
        have q0 : (a0 != b0) = false := by simp [h0]
        have q1 : (a1 != b1) = false := by simp [h1]
        have q2 : (a2 != b2) = false := by simp [h2]
        generalize behB a0 a1 a2 b0 b1 b2 = R at *
        clear h0 h1 h2
        go_enter Tryz.func16, Tryz.ntmps16
        go_wp2
        refine wp_loop_rounds 4 ?_
        rw [rounds_succ]
        go_wp2
        go_quiet (fail)
        go_wp2
        rw [rounds_succ]
        go_wp2
        go_quiet (fail)
        go_wp2
        rw [rounds_succ]
        go_wp2
        go_quiet (fail)
        go_wp2
        rw [rounds_succ]
        go_wp2
        go_ret
        exact ⟨by rw [HR.out]; rfl, by repeat (first | exact HB.out | refine below_dN ?_ _)⟩
      · have HR : Hid (behB a0 a1 a2 b0 b1 b2 = decide (b2 < a2)) := by show _ = _; unfold behB; rw [if_pos h0, if_pos h1, if_neg h2]
        have q0 : (a0 != b0) = false := by simp [h0]
        have q1 : (a1 != b1) = false := by simp [h1]
        have q2 : (a2 != b2) = true := by simp [h2]
        generalize behB a0 a1 a2 b0 b1 b2 = R at *
        clear h0 h1 h2
        go_enter Tryz.func16, Tryz.ntmps16
        go_wp2
        refine wp_loop_rounds 3 ?_
        rw [rounds_succ]
        go_wp2
        go_quiet (fail)
        go_wp2
        rw [rounds_succ]
        go_wp2
        go_quiet (fail)
        go_wp2
        rw [rounds_succ]
        go_wp2
        go_quiet (fail)
        go_wp2
        go_quiet (fail)
        go_wp2
        go_ret
        exact ⟨by rw [HR.out]; rfl, by repeat (first | exact HB.out | refine below_dN ?_ _)⟩
    · have HR : Hid (behB a0 a1 a2 b0 b1 b2 = decide (b1 < a1)) := by show _ = _; unfold behB; rw [if_pos h0, if_neg h1]
      have q0 : (a0 != b0) = false := by simp [h0]
      have q1 : (a1 != b1) = true := by simp [h1]
      generalize behB a0 a1 a2 b0 b1 b2 = R at *
      clear h0 h1
      go_enter Tryz.func16, Tryz.ntmps16
      go_wp2
      refine wp_loop_rounds 2 ?_
      rw [rounds_succ]
      go_wp2
      go_quiet (fail)
      go_wp2
      rw [rounds_succ]
      go_wp2
      go_quiet (fail)
      go_wp2
      go_quiet (fail)
      go_wp2
      go_ret
      exact ⟨by rw [HR.out]; rfl, by repeat (first | exact HB.out | refine below_dN ?_ _)⟩
  · have HR : Hid (behB a0 a1 a2 b0 b1 b2 = decide (b0 < a0)) := by show _ = _; unfold behB; rw [if_neg h0]
    have q0 : (a0 != b0) = true := by simp [h0]
    generalize behB a0 a1 a2 b0 b1 b2 = R at *
    clear h0
    go_enter Tryz.func16, Tryz.ntmps16
    go_wp2
    refine wp_loop_rounds 1 ?_
    rw [rounds_succ]
    go_wp2
    go_quiet (fail)
    go_wp2
    go_quiet (fail)
    go_wp2
    go_ret
    exact ⟨by rw [HR.out]; rfl, by repeat (first | exact HB.out | refine below_dN ?_ _)⟩

/-- The version of three numbers, as one. -/
def verN (a0 a1 a2 : Nat) : Int := 1000 * (1000 * (a0 : Int) + a1) + a2
theorem behB_eq (a0 a1 a2 b0 b1 b2 : Nat) (h1 : a1 < 1000) (h2 : a2 < 1000) (g1 : b1 < 1000) (g2 : b2 < 1000) : behB a0 a1 a2 b0 b1 b2 = decide (verN b0 b1 b2 ≤ verN a0 a1 a2) := by
  unfold behB verN
  by_cases e0 : (a0 : Int) = b0
  · rw [if_pos e0]
    by_cases e1 : (a1 : Int) = b1
    · rw [if_pos e1]
      by_cases e2 : (a2 : Int) = b2
      · rw [if_pos e2]; symm; rw [decide_eq_true_eq]; omega
      · rw [if_neg e2]; congr 1; rw [eq_iff_iff]; omega
    · rw [if_neg e1]; congr 1; rw [eq_iff_iff]; omega
  · rw [if_neg e0]; congr 1; rw [eq_iff_iff]; omega
def eq3B (a0 a1 a2 b0 b1 b2 : Nat) : Bool := (a0 : Int) == b0 && ((a1 : Int) == b1 && (a2 : Int) == b2)
theorem eq3_ver (a0 a1 a2 b0 b1 b2 : Nat) (h1 : a1 < 1000) (h2 : a2 < 1000) (g1 : b1 < 1000) (g2 : b2 < 1000) : (verN a0 a1 a2 == verN b0 b1 b2) = eq3B a0 a1 a2 b0 b1 b2 := by
  unfold eq3B
  rw [Bool.eq_iff_iff]
  simp only [beq_iff_eq, Bool.and_eq_true]
  unfold verN
  omega
theorem fit_eq (a0 a1 a2 b0 b1 b2 : Nat) (h1 : a1 < 1000) (h2 : a2 < 1000) (g1 : b1 < 1000) (g2 : b2 < 1000) : fitI 61 (verN b0 b1 b2) (verN a0 a1 a2) = eq3B a0 a1 a2 b0 b1 b2 := eq3_ver a0 a1 a2 b0 b1 b2 h1 h2 g1 g2
theorem fit_least (a0 a1 a2 b0 b1 b2 : Nat) (h1 : a1 < 1000) (h2 : a2 < 1000) (g1 : b1 < 1000) (g2 : b2 < 1000) : fitI 62 (verN b0 b1 b2) (verN a0 a1 a2) = behB a0 a1 a2 b0 b1 b2 := by
  rw [behB_eq a0 a1 a2 b0 b1 b2 h1 h2 g1 g2]; rfl
theorem fit_tilde3 (a0 a1 a2 b0 b1 b2 : Nat) (h1 : a1 < 1000) (h2 : a2 < 1000) (g1 : b1 < 1000) (g2 : b2 < 1000) : fitI 126 (verN b0 b1 b2) (verN a0 a1 a2) = (behB a0 a1 a2 b0 b1 b2 && ((a0 : Int) == b0 && (a1 : Int) == b1)) := by
  rw [behB_eq a0 a1 a2 b0 b1 b2 h1 h2 g1 g2]
  show (decide (verN b0 b1 b2 ≤ verN a0 a1 a2) && (verN a0 a1 a2 / 1000 == verN b0 b1 b2 / 1000)) = _
  rw [Bool.eq_iff_iff]
  simp only [beq_iff_eq, Bool.and_eq_true, decide_eq_true_eq]
  unfold verN
  omega
def wantB (a0 a1 a2 b0 b1 b2 : Nat) : Bool := if (b0 : Int) = 0 ∧ (b1 : Int) = 0 then eq3B a0 a1 a2 b0 b1 b2 else if (b0 : Int) = 0 then ((a0 : Int) == b0 && (a1 : Int) == b1) else (a0 : Int) == b0
theorem fit_caret3 (a0 a1 a2 b0 b1 b2 : Nat) (h1 : a1 < 1000) (h2 : a2 < 1000) (g1 : b1 < 1000) (g2 : b2 < 1000) : fitI 94 (verN b0 b1 b2) (verN a0 a1 a2) = (behB a0 a1 a2 b0 b1 b2 && wantB a0 a1 a2 b0 b1 b2) := by
  rw [behB_eq a0 a1 a2 b0 b1 b2 h1 h2 g1 g2]
  have d0 : verN b0 b1 b2 / 1000000 = b0 := by unfold verN; omega
  have d1 : verN b0 b1 b2 / 1000 % 1000 = b1 := by unfold verN; omega
  have e0 : verN a0 a1 a2 / 1000000 = a0 := by unfold verN; omega
  have e1 : verN a0 a1 a2 / 1000 = 1000 * (a0 : Int) + a1 := by unfold verN; omega
  show (if 0 < verN b0 b1 b2 / 1000000 then decide (verN b0 b1 b2 ≤ verN a0 a1 a2) && (verN a0 a1 a2 / 1000000 == verN b0 b1 b2 / 1000000) else if 0 < verN b0 b1 b2 / 1000 % 1000 then decide (verN b0 b1 b2 ≤ verN a0 a1 a2) && (verN a0 a1 a2 / 1000 == verN b0 b1 b2 / 1000 % 1000) else verN a0 a1 a2 == verN b0 b1 b2) = _
  rw [d0, d1, e0, e1]
  unfold wantB
  by_cases z0 : (b0 : Int) = 0
  · rw [if_neg (by omega)]
    by_cases z1 : (b1 : Int) = 0
    · rw [if_neg (by omega), if_pos ⟨z0, z1⟩, ← eq3_ver a0 a1 a2 b0 b1 b2 h1 h2 g1 g2, Bool.eq_iff_iff]
      simp only [beq_iff_eq, Bool.and_eq_true, decide_eq_true_eq]
      omega
    · rw [if_pos (by omega), if_neg (by omega), if_pos z0, Bool.eq_iff_iff]
      simp only [beq_iff_eq, Bool.and_eq_true, decide_eq_true_eq]
      omega
  · rw [if_pos (by omega), if_neg (by omega), if_neg z0]

theorem eqArrI' (d : Nat) (a0 a1 a2 b0 b1 b2 : Int) (w : World) :
    (Op.equalIn (d + 1 + 1) 25 (.agg #[.int .i64 a0, .int .i64 a1, .int .i64 a2]) (.agg #[.int .i64 b0, .int .i64 b1, .int .i64 b2])).run Tryz.prog w = .ok (a0 == b0 && (a1 == b1 && a2 == b2)) w := by
  have hz : ∀ w : World, (sizeOf 3).run Tryz.prog w = .ok 1 w := fun w => by kernel_rfl
  have hp : ∀ (xs : Array Value) (i : Nat) (v : Value) (w : World), xs[i]? = some v → (part 3 xs i).run Tryz.prog w = .ok v w := fun xs i v w h => by
    have hg : (isAgg 3).run Tryz.prog w = .ok false w := by kernel_rfl
    simp [part, hg, h]
  have he : ∀ (a b : Int) (w : World), (Op.equalIn (d + 1) 3 (.int .i64 a) (.int .i64 b)).run Tryz.prog w = .ok (a == b) w := fun a b w => run_equalIn_int w d 3 .i64 .i64 a b Tryz.underlying3
  rw [Op.equalIn]
  simp only [Sem.run_bind, run_underlying Tryz.underlying25, Result.andThen_ok]
  simp [hz, Std.Legacy.Range.forIn_eq_forIn_range', List.range', Std.Legacy.Range.size, hp, he, Sem.run_bind, Sem.run_ite]
  by_cases h0 : a0 = b0 <;> by_cases h1 : a1 = b1 <;> by_cases h2 : a2 = b2 <;> simp [h0, h1, h2]
theorem eqArrI (a0 a1 a2 b0 b1 b2 : Int) (w : World) :
    (Op.equalIn 10000 25 (.agg #[.int .i64 a0, .int .i64 a1, .int .i64 a2]) (.agg #[.int .i64 b0, .int .i64 b1, .int .i64 b2])).run Tryz.prog w = .ok (a0 == b0 && (a1 == b1 && a2 == b2)) w := eqArrI' 9998 a0 a1 a2 b0 b1 b2 w

end Go.Proofs.YtnmclolbndohiaaGreatDoor
