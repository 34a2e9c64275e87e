/-
  The walks of 'cmp.Compare' (33), 'slices.Compare' (25) at three numbers each, '(Version).Compare' (19), 'caretStrength' (18).
-/
import Derived.Test.YtnmclolbndohiaaDoorNum
import Derived.Deep.QuietTactic
import Derived.BigQuiet
namespace Go.Proofs.YtnmclolbndohiaaDoor
open Go.RowKit
open Ver

def cmpI (x y : Int) : Int := if x < y then -1 else if y < x then 1 else 0
theorem cmpI_lt {x y : Int} (h : x < y) : cmpI x y = -1 := by unfold cmpI; rw [if_pos h]
theorem cmpI_gt {x y : Int} (h : y < x) : cmpI x y = 1 := by unfold cmpI; rw [if_neg (by omega), if_pos h]
theorem cmpI_eq {x y : Int} (h : x = y) : cmpI x y = 0 := by unfold cmpI; rw [if_neg (by omega), if_neg (by omega)]

set_option maxHeartbeats 400000 in
theorem cmp_any (x y : Int) (w : World) : Calls Tryd.prog 33 #[.int .i64 x, .int .i64 y] w fun e w' => e = .returned (.int .i64 (cmpI x y)) ∧ w' = w := by
  by_cases h1 : x < y
  · go_enter Tryd.func33, Tryd.ntmps33
    go_wp2
    go_ret
    exact ⟨ret_int (cmpI_lt h1).symm, rfl⟩
  · by_cases h2 : y < x
    · go_enter Tryd.func33, Tryd.ntmps33
      go_wp2
      go_ret
      exact ⟨ret_int (cmpI_gt h2).symm, rfl⟩
    · go_enter Tryd.func33, Tryd.ntmps33
      go_wp2
      go_ret
      exact ⟨ret_int (cmpI_eq (by omega)).symm, rfl⟩

def cmp3 (x0 x1 x2 y0 y1 y2 : Int) : Int := if x0 = y0 then (if x1 = y1 then cmpI x2 y2 else cmpI x1 y1) else cmpI x0 y0

theorem cmpI_ne {x y : Int} (h : x ≠ y) : (cmpI x y != 0) = true := by
  unfold cmpI; split; rfl; split; rfl; omega

set_option maxHeartbeats 800000 in
theorem compare_any (b1 b2 c1 c2 : Nat) (x0 x1 x2 y0 y1 y2 : Int) (w : World)
    (hx0 : w.cell? ⟨b1, 0, none⟩ = some (.int .i64 x0)) (hx1 : w.cell? ⟨b1, 1, none⟩ = some (.int .i64 x1)) (hx2 : w.cell? ⟨b1, 2, none⟩ = some (.int .i64 x2))
    (hy0 : w.cell? ⟨b2, 0, none⟩ = some (.int .i64 y0)) (hy1 : w.cell? ⟨b2, 1, none⟩ = some (.int .i64 y1)) (hy2 : w.cell? ⟨b2, 2, none⟩ = some (.int .i64 y2)) :
    Calls Tryd.prog 25 #[.slice (some ⟨b1, 0, none⟩) 3 c1, .slice (some ⟨b2, 0, none⟩) 3 c2] w fun e w' => e = .returned (.int .i64 (cmp3 x0 x1 x2 y0 y1 y2)) ∧ w' = w := by
  go_enter Tryd.func25, Tryd.ntmps25
  go_wp2
  go_loop [11] (fun i => ∃ k : Nat, i = .int .i64 k ∧ (k = 0 ∨ k = 1 ∧ x0 = y0 ∨ k = 2 ∧ x0 = y0 ∧ x1 = y1 ∨ k = 3 ∧ x0 = y0 ∧ x1 = y1 ∧ x2 = y2)) (fun i => 3 - (intOf i).toNat)
  case atStart => exact ⟨0, rfl, Or.inl rfl⟩
  case round =>
    obtain ⟨k, rfl, hk⟩ := hrel
    rcases hk with rfl | ⟨rfl, e0⟩ | ⟨rfl, e0, e1⟩ | ⟨rfl, e0, e1, e2⟩
    · by_cases h : x0 = y0
      · have H0 : Hid (x0 = y0) := h
        have hz : (cmpI x0 y0 != 0) = false := by rw [cmpI_eq h]; rfl
        clear h
        go_wp2_with (go_at_call 33; refine (cmp_any _ _ _).mono ?_; rintro e w' ⟨rfl, rfl⟩)
        go_round
        case rel => exact ⟨1, rfl, Or.inr (Or.inl ⟨rfl, H0.out⟩)⟩
        case measure => simp [intOf]
      · have hz := cmpI_ne h
        have H0 : Hid (cmpI x0 y0 = cmp3 x0 x1 x2 y0 y1 y2) := by show _ = _; unfold cmp3; rw [if_neg h]
        clear h
        go_wp2_with (go_at_call 33; refine (cmp_any _ _ _).mono ?_; rintro e w' ⟨rfl, rfl⟩)
        go_ret
        exact ⟨ret_int H0.out, rfl⟩
    · have E0 : Hid (x0 = y0) := e0
      clear e0
      by_cases h : x1 = y1
      · have H0 : Hid (x1 = y1) := h
        have hz : (cmpI x1 y1 != 0) = false := by rw [cmpI_eq h]; rfl
        clear h
        go_wp2_with (go_at_call 33; refine (cmp_any _ _ _).mono ?_; rintro e w' ⟨rfl, rfl⟩)
        go_round
        case rel => exact ⟨2, rfl, Or.inr (Or.inr (Or.inl ⟨rfl, E0.out, H0.out⟩))⟩
        case measure => simp [intOf]
      · have hz := cmpI_ne h
        have H0 : Hid (cmpI x1 y1 = cmp3 x0 x1 x2 y0 y1 y2) := by show _ = _; unfold cmp3; rw [if_pos E0.out, if_neg h]
        clear h
        go_wp2_with (go_at_call 33; refine (cmp_any _ _ _).mono ?_; rintro e w' ⟨rfl, rfl⟩)
        go_ret
        exact ⟨ret_int H0.out, rfl⟩
    · have E0 : Hid (x0 = y0) := e0
      have E1 : Hid (x1 = y1) := e1
      clear e0 e1
      by_cases h : x2 = y2
      · have H0 : Hid (x2 = y2) := h
        have hz : (cmpI x2 y2 != 0) = false := by rw [cmpI_eq h]; rfl
        clear h
        go_wp2_with (go_at_call 33; refine (cmp_any _ _ _).mono ?_; rintro e w' ⟨rfl, rfl⟩)
        go_round
        case rel => exact ⟨3, rfl, Or.inr (Or.inr (Or.inr ⟨rfl, E0.out, E1.out, H0.out⟩))⟩
        case measure => simp [intOf]
      · have hz := cmpI_ne h
        have H0 : Hid (cmpI x2 y2 = cmp3 x0 x1 x2 y0 y1 y2) := by show _ = _; unfold cmp3; rw [if_pos E0.out, if_pos E1.out]
        clear h
        go_wp2_with (go_at_call 33; refine (cmp_any _ _ _).mono ?_; rintro e w' ⟨rfl, rfl⟩)
        go_ret
        exact ⟨ret_int H0.out, rfl⟩
    · have H0 : Hid (0 = cmp3 x0 x1 x2 y0 y1 y2) := by show _ = _; unfold cmp3; rw [if_pos e0, if_pos e1, cmpI_eq e2]
      clear e0 e1 e2
      go_wp2
      go_ret
      exact ⟨ret_int H0.out, rfl⟩

/-- How strong '^' is. -/
def caretI (x0 x1 : Int) : Int := if x0 = 0 then (if x1 = 0 then 4 else 3) else 2

set_option maxHeartbeats 400000 in
theorem caret_any (x0 x1 x2 : Int) (w : World) :
    Calls Tryd.prog 18 #[.agg #[.int .i64 x0, .int .i64 x1, .int .i64 x2]] w fun e w' => e = .returned (.int .i64 (caretI x0 x1)) ∧ w' = w.alloc (.cells #[.int .i64 x0, .int .i64 x1, .int .i64 x2] 35) := by
  by_cases h0 : x0 = 0
  · have q0 : (x0 != 0) = false := by simp [h0]
    by_cases h1 : x1 = 0
    · have q1 : (x1 != 0) = false := by simp [h1]
      have H : Hid (4 = caretI x0 x1) := by show _ = _; unfold caretI; rw [if_pos h0, if_pos h1]
      clear h0 h1
      go_enter Tryd.func18, Tryd.ntmps18
      go_wp2
      go_ret
      exact ⟨ret_int H.out, rfl⟩
    · have q1 : (x1 != 0) = true := by simp [h1]
      have H : Hid (3 = caretI x0 x1) := by show _ = _; unfold caretI; rw [if_pos h0, if_neg h1]
      clear h0 h1
      go_enter Tryd.func18, Tryd.ntmps18
      go_wp2
      go_ret
      exact ⟨ret_int H.out, rfl⟩
  · have q0 : (x0 != 0) = true := by simp [h0]
    have H : Hid (2 = caretI x0 x1) := by show _ = _; unfold caretI; rw [if_neg h0]
    clear h0
    go_enter Tryd.func18, Tryd.ntmps18
    go_wp2
    go_ret
    exact ⟨ret_int H.out, rfl⟩

set_option maxHeartbeats 400000 in
theorem vcompare_any (x0 x1 x2 y0 y1 y2 : Int) (w : World) :
    Calls Tryd.prog 19 #[.agg #[.int .i64 x0, .int .i64 x1, .int .i64 x2], .agg #[.int .i64 y0, .int .i64 y1, .int .i64 y2]] w fun e w' => e = .returned (.int .i64 (cmp3 x0 x1 x2 y0 y1 y2)) ∧ Below w.heap.size w w' := by
  go_enter Tryd.func19, Tryd.ntmps19
  go_wp2
  go_quiet ((go_at_call 25; exact Calls.quiet_of_same (compare_any _ _ _ _ x0 x1 x2 y0 y1 y2 _ (by simp) (by simp) (by simp) (by simp) (by simp) (by simp))))
  go_wp2
  go_ret
  exact ⟨rfl, below_drewN (((Below.refl _ _).alloc (Nat.le_refl _) _).alloc (by simp) _) _⟩

end Go.Proofs.YtnmclolbndohiaaDoor
