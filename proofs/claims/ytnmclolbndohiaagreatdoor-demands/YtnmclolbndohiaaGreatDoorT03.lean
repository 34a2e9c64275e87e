/-
  The walks of 'cmp.Compare' (33), 'slices.Compare' (25) at three numbers each, '(Version).Compare' (19), 'caretStrength' (18).
-/
import Derived.Test.YtnmclolbndohiaaGreatDoorT02
import Derived.Deep.QuietTactic
import Derived.BigQuiet
namespace Go.Proofs.YtnmclolbndohiaaGreatDoor
open Go.RowKit
open Ver

def cmpI (x y : Int) : Int := if x < y then -1 else if y < x then 1 else 0
theorem cmpI_lt {x y : Int} (h : x < y) : cmpI x y = -1 := by unfold cmpI; rw [if_pos h]
theorem cmpI_gt {x y : Int} (h : y < x) : cmpI x y = 1 := by unfold cmpI; rw [if_neg (by omega), if_pos h]
theorem cmpI_eq {x y : Int} (h : x = y) : cmpI x y = 0 := by unfold cmpI; rw [if_neg (by omega), if_neg (by omega)]

set_option maxHeartbeats 400000 in
theorem cmp_any (x y : Int) (w : World) : Calls Tryz.prog 122 #[.int .i64 x, .int .i64 y] w fun e w' => e = .returned (.int .i64 (cmpI x y)) ∧ w' = w := by
  by_cases h1 : x < y
  · go_enter Tryz.func122, Tryz.ntmps122
    go_wp2
    go_ret
    exact ⟨ret_int (cmpI_lt h1).symm, rfl⟩
  · by_cases h2 : y < x
    · go_enter Tryz.func122, Tryz.ntmps122
      go_wp2
      go_ret
      exact ⟨ret_int (cmpI_gt h2).symm, rfl⟩
    · go_enter Tryz.func122, Tryz.ntmps122
      go_wp2
      go_ret
      exact ⟨ret_int (cmpI_eq (by omega)).symm, rfl⟩

def cmp3 (x0 x1 x2 y0 y1 y2 : Int) : Int := if x0 = y0 then (if x1 = y1 then cmpI x2 y2 else cmpI x1 y1) else cmpI x0 y0

theorem cmpI_ne {x y : Int} (h : x ≠ y) : (cmpI x y != 0) = true := by
  unfold cmpI; split; rfl; split; rfl; omega

set_option maxHeartbeats 800000 in
theorem compare_any (b1 b2 c1 c2 : Nat) (x0 x1 x2 y0 y1 y2 : Int) (w : World)
    (hx0 : w.cell? ⟨b1, 0, none⟩ = some (.int .i64 x0)) (hx1 : w.cell? ⟨b1, 1, none⟩ = some (.int .i64 x1)) (hx2 : w.cell? ⟨b1, 2, none⟩ = some (.int .i64 x2))
    (hy0 : w.cell? ⟨b2, 0, none⟩ = some (.int .i64 y0)) (hy1 : w.cell? ⟨b2, 1, none⟩ = some (.int .i64 y1)) (hy2 : w.cell? ⟨b2, 2, none⟩ = some (.int .i64 y2)) :
    Calls Tryz.prog 80 #[.slice (some ⟨b1, 0, none⟩) 3 c1, .slice (some ⟨b2, 0, none⟩) 3 c2] w fun e w' => e = .returned (.int .i64 (cmp3 x0 x1 x2 y0 y1 y2)) ∧ w' = w := by
  go_enter Tryz.func80, Tryz.ntmps80
  go_wp2
  go_loop [11] (fun i => ∃ k : Nat, i = .int .i64 k ∧ (k = 0 ∨ k = 1 ∧ x0 = y0 ∨ k = 2 ∧ x0 = y0 ∧ x1 = y1 ∨ k = 3 ∧ x0 = y0 ∧ x1 = y1 ∧ x2 = y2)) (fun i => 3 - (intOf i).toNat)
  case atStart => exact ⟨0, rfl, Or.inl rfl⟩
  case round =>
    obtain ⟨k, rfl, hk⟩ := hrel
    rcases hk with rfl | ⟨rfl, e0⟩ | ⟨rfl, e0, e1⟩ | ⟨rfl, e0, e1, e2⟩
    · by_cases h : x0 = y0
      · have H0 : Hid (x0 = y0) := h
        have hz : (cmpI x0 y0 != 0) = false := by rw [cmpI_eq h]; rfl
        clear h
        go_wp2_with (go_at_call 122; refine (cmp_any _ _ _).mono ?_; rintro e w' ⟨rfl, rfl⟩)
        go_round
        case rel => exact ⟨1, rfl, Or.inr (Or.inl ⟨rfl, H0.out⟩)⟩
        case measure => simp [intOf]
      · have hz := cmpI_ne h
        have H0 : Hid (cmpI x0 y0 = cmp3 x0 x1 x2 y0 y1 y2) := by show _ = _; unfold cmp3; rw [if_neg h]
        clear h
        go_wp2_with (go_at_call 122; refine (cmp_any _ _ _).mono ?_; rintro e w' ⟨rfl, rfl⟩)
        go_ret
        exact ⟨ret_int H0.out, rfl⟩
    · have E0 : Hid (x0 = y0) := e0
      clear e0
      by_cases h : x1 = y1
      · have H0 : Hid (x1 = y1) := h
        have hz : (cmpI x1 y1 != 0) = false := by rw [cmpI_eq h]; rfl
        clear h
        go_wp2_with (go_at_call 122; refine (cmp_any _ _ _).mono ?_; rintro e w' ⟨rfl, rfl⟩)
        go_round
        case rel => exact ⟨2, rfl, Or.inr (Or.inr (Or.inl ⟨rfl, E0.out, H0.out⟩))⟩
        case measure => simp [intOf]
      · have hz := cmpI_ne h
        have H0 : Hid (cmpI x1 y1 = cmp3 x0 x1 x2 y0 y1 y2) := by show _ = _; unfold cmp3; rw [if_pos E0.out, if_neg h]
        clear h
        go_wp2_with (go_at_call 122; refine (cmp_any _ _ _).mono ?_; rintro e w' ⟨rfl, rfl⟩)
        go_ret
        exact ⟨ret_int H0.out, rfl⟩
    · have E0 : Hid (x0 = y0) := e0
      have E1 : Hid (x1 = y1) := e1
      clear e0 e1
      by_cases h : x2 = y2
      · have H0 : Hid (x2 = y2) := h
        have hz : (cmpI x2 y2 != 0) = false := by rw [cmpI_eq h]; rfl
        clear h
        go_wp2_with (go_at_call 122; refine (cmp_any _ _ _).mono ?_; rintro e w' ⟨rfl, rfl⟩)
        go_round
        case rel => exact ⟨3, rfl, Or.inr (Or.inr (Or.inr ⟨rfl, E0.out, E1.out, H0.out⟩))⟩
        case measure => simp [intOf]
      · have hz := cmpI_ne h
        have H0 : Hid (cmpI x2 y2 = cmp3 x0 x1 x2 y0 y1 y2) := by show _ = _; unfold cmp3; rw [if_pos E0.out, if_pos E1.out]
        clear h
        go_wp2_with (go_at_call 122; refine (cmp_any _ _ _).mono ?_; rintro e w' ⟨rfl, rfl⟩)
        go_ret
        exact ⟨ret_int H0.out, rfl⟩
    · have H0 : Hid (0 = cmp3 x0 x1 x2 y0 y1 y2) := by show _ = _; unfold cmp3; rw [if_pos e0, if_pos e1, cmpI_eq e2]
      clear e0 e1 e2
      go_wp2
      go_ret
      exact ⟨ret_int H0.out, rfl⟩

/-- How strong '^' is. -/
def caretI (x0 x1 : Int) : Int := if x0 = 0 then (if x1 = 0 then 4 else 3) else 2

set_option maxHeartbeats 400000 in
theorem caret_any (x0 x1 x2 : Int) (w : World) :
    Calls Tryz.prog 48 #[.agg #[.int .i64 x0, .int .i64 x1, .int .i64 x2]] w fun e w' => e = .returned (.int .i64 (caretI x0 x1)) ∧ w' = w.alloc (.cells #[.int .i64 x0, .int .i64 x1, .int .i64 x2] 56) := by
  by_cases h0 : x0 = 0
  · have q0 : (x0 != 0) = false := by simp [h0]
    by_cases h1 : x1 = 0
    · have q1 : (x1 != 0) = false := by simp [h1]
      have H : Hid (4 = caretI x0 x1) := by show _ = _; unfold caretI; rw [if_pos h0, if_pos h1]
      clear h0 h1
      go_enter Tryz.func48, Tryz.ntmps48
      go_wp2
      go_ret
      exact ⟨ret_int H.out, rfl⟩
    · have q1 : (x1 != 0) = true := by simp [h1]
      have H : Hid (3 = caretI x0 x1) := by show _ = _; unfold caretI; rw [if_pos h0, if_neg h1]
      clear h0 h1
      go_enter Tryz.func48, Tryz.ntmps48
      go_wp2
      go_ret
      exact ⟨ret_int H.out, rfl⟩
  · have q0 : (x0 != 0) = true := by simp [h0]
    have H : Hid (2 = caretI x0 x1) := by show _ = _; unfold caretI; rw [if_neg h0]
    clear h0
    go_enter Tryz.func48, Tryz.ntmps48
    go_wp2
    go_ret
    exact ⟨ret_int H.out, rfl⟩

set_option maxHeartbeats 400000 in
theorem vcompare_any (x0 x1 x2 y0 y1 y2 : Int) (w : World) :
    Calls Tryz.prog 49 #[.agg #[.int .i64 x0, .int .i64 x1, .int .i64 x2], .agg #[.int .i64 y0, .int .i64 y1, .int .i64 y2]] w fun e w' => e = .returned (.int .i64 (cmp3 x0 x1 x2 y0 y1 y2)) ∧ Below w.heap.size w w' := by
  go_enter Tryz.func49, Tryz.ntmps49
  go_wp2
  go_quiet ((go_at_call 80; exact Calls.quiet_of_same (compare_any _ _ _ _ x0 x1 x2 y0 y1 y2 _ (by simp) (by simp) (by simp) (by simp) (by simp) (by simp))))
  go_wp2
  go_ret
  exact ⟨rfl, below_drewN (((Below.refl _ _).alloc (Nat.le_refl _) _).alloc (by simp) _) _⟩

end Go.Proofs.YtnmclolbndohiaaGreatDoor

/-
  strconv.Itoa of one digit; String of a version of three digits.
-/
namespace Go.Proofs.YtnmclolbndohiaaGreatDoor
open Go.RowKit

def dig1 (n : Nat) : ByteArray := ⟨#[(48 + n).toUInt8]⟩

set_option maxHeartbeats 800000 in
theorem gsmall_any (n : Nat) (w : World) (h : n < 10) : Calls Tryz.prog 198 #[.int .i64 n] w fun e w' => e = .returned (.string (dig1 n)) ∧ w' = w := by
  have hn : n = 0 ∨ n = 1 ∨ n = 2 ∨ n = 3 ∨ n = 4 ∨ n = 5 ∨ n = 6 ∨ n = 7 ∨ n = 8 ∨ n = 9 := by omega
  rcases hn with rfl | rfl | rfl | rfl | rfl | rfl | rfl | rfl | rfl | rfl
  all_goals (
    go_enter Tryz.func198, Tryz.ntmps198
    go_wp2
    go_ret
    exact ⟨rfl, rfl⟩)

set_option maxHeartbeats 800000 in
theorem gfmt_any (n : Nat) (w : World) (h : n < 10) : Calls Tryz.prog 164 #[.int .i64 n, .int .i64 10] w fun e w' => e = .returned (.string (dig1 n)) ∧ w' = w := by
  have HS : Hid (Calls Tryz.prog 198 #[.int .i64 n] w fun e w' => e = .returned (.string (dig1 n)) ∧ w' = w) := gsmall_any n w h
  have k1 : (0 : Int) ≤ (n : Int) := by omega
  have k2 : (n : Int) < 100 := by omega
  clear h
  go_enter Tryz.func164, Tryz.ntmps164
  go_wp2_with fail
  refine Calls.mono HS.out ?_
  rintro e w1 ⟨rfl, rfl⟩
  go_wp2
  go_ret
  exact ⟨rfl, rfl⟩

set_option maxHeartbeats 800000 in
theorem giitoa_any (n : Nat) (w : World) (h : n < 10) : Calls Tryz.prog 133 #[.int .i64 n] w fun e w' => e = .returned (.string (dig1 n)) ∧ w' = w := by
  have HS : Hid (Calls Tryz.prog 164 #[.int .i64 n, .int .i64 10] w fun e w' => e = .returned (.string (dig1 n)) ∧ w' = w) := gfmt_any n w h
  clear h
  go_enter Tryz.func133, Tryz.ntmps133
  go_wp2_with fail
  refine Calls.mono HS.out ?_
  rintro e w1 ⟨rfl, rfl⟩
  go_wp2
  go_ret
  exact ⟨rfl, rfl⟩

set_option maxHeartbeats 800000 in
theorem gitoa_any (n : Nat) (w : World) (h : n < 10) : Calls Tryz.prog 94 #[.int .i64 n] w fun e w' => e = .returned (.string (dig1 n)) ∧ w' = w := by
  have HS : Hid (Calls Tryz.prog 133 #[.int .i64 n] w fun e w' => e = .returned (.string (dig1 n)) ∧ w' = w) := giitoa_any n w h
  clear h
  go_enter Tryz.func94, Tryz.ntmps94
  go_wp2_with fail
  refine Calls.mono HS.out ?_
  rintro e w1 ⟨rfl, rfl⟩
  go_wp2
  go_ret
  exact ⟨rfl, rfl⟩

def verS (a b c : Nat) : ByteArray := ⟨#[(48 + a).toUInt8, 46, (48 + b).toUInt8, 46, (48 + c).toUInt8]⟩

set_option maxHeartbeats 1600000 in
theorem gstring_any (a b c : Nat) (w : World) (ha : a < 10) (hb : b < 10) (hc : c < 10) : Calls Tryz.prog 57 #[.agg #[.int .i64 a, .int .i64 b, .int .i64 c]] w fun e w' => e = .returned (.string (verS a b c)) ∧ Below w.heap.size w w' := by
  have HI : Hid (∀ (n : Nat) (w : World), n < 10 → Calls Tryz.prog 94 #[.int .i64 n] w fun e w' => e = .returned (.string (dig1 n)) ∧ w' = w) := fun n w h => gitoa_any n w h
  unfold dig1 at HI
  have HA : Hid (a < 10) := ha
  have HB : Hid (b < 10) := hb
  have HC : Hid (c < 10) := hc
  clear ha hb hc
  go_enter Tryz.func57, Tryz.ntmps57
  go_wp2
  go_quiet ((go_at_call 94; exact Calls.quiet_of_same (HI.out _ _ (by first | exact HA.out | exact HB.out | exact HC.out))))
  go_wp2
  go_ret
  refine ⟨?_, ?_⟩
  · simp [verS]
    rfl
  · exact below_drewN ((Below.refl _ _).alloc (Nat.le_refl _) _) _

end Go.Proofs.YtnmclolbndohiaaGreatDoor

/-
  The walk of '(Demand).Fits' (12).
-/
namespace Go.Proofs.YtnmclolbndohiaaGreatDoor
open Go.RowKit
open Ver

/-- What the cases that fall through come to. -/
def fitC (st f0 f1 f2 v0 v1 v2 : Int) : Bool :=
  if st = 4 ∧ v2 ≠ f2 then false
  else if (st = 4 ∨ st = 3) ∧ v1 ≠ f1 then false
  else if (st = 4 ∨ st = 3 ∨ st = 2) ∧ v0 ≠ f0 then false
  else if (st = 4 ∨ st = 3 ∨ st = 2 ∨ st = 1) ∧ cmp3 v0 v1 v2 f0 f1 f2 < 0 then false
  else true

theorem retb {a b : Bool} (h : a = b) : Ending.returned (.bool a) = .returned (.bool b) := by rw [h]
theorem below2 (w : World) (o o' : Obj) : Below w.heap.size w ((w.alloc o).alloc o') := ((Below.refl _ _).alloc (Nat.le_refl _) o).alloc (by simp) o'
theorem below2_then {w w' : World} {o o' : Obj} {B : Nat} (h : Below B ((w.alloc o).alloc o') w') (hB : w.heap.size ≤ B) : Below w.heap.size w w' := (below2 w o o').trans (h.mono hB)

set_option maxHeartbeats 800000 in
theorem fits_any (st f0 f1 f2 v0 v1 v2 : Int) (hst : st = 0 ∨ st = 1 ∨ st = 2 ∨ st = 3 ∨ st = 4) (w : World) :
    Calls Tryz.prog 28 #[.agg #[.int .i64 st, .int .i64 f0, .int .i64 f1, .int .i64 f2], .agg #[.int .i64 v0, .int .i64 v1, .int .i64 v2]] w fun e w' => e = .returned (.bool (fitC st f0 f1 f2 v0 v1 v2)) ∧ Below w.heap.size w w' := by
  rcases hst with rfl | rfl | rfl | rfl | rfl
  all_goals
    go_enter Tryz.func28, Tryz.ntmps28
    go_wp2_with (go_at_call 49; refine (vcompare_any _ _ _ _ _ _ _).mono ?_; rintro e w' ⟨rfl, hbel⟩)
  all_goals
    go_ret
    refine ⟨retb ?_, ?_⟩
    · try simp only [bne_iff_ne, bne_eq_false_iff_eq, ne_eq] at *
      unfold fitC
      simp_all [Int.not_lt]
    · first
        | exact below2 w _ _
        | exact below2_then ‹_› (by simp; omega)

end Go.Proofs.YtnmclolbndohiaaGreatDoor
