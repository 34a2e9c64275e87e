/-
  The walks of the statements' own 'digits', 'text'.
-/
import Derived.Test.YtnmclolbndohiaaGreatDoorT03
import Derived.Test.YtnmclolbndohiaaGreatDoorT09
namespace Go.Proofs.YtnmclolbndohiaaGreatDoor
open Go.RowKit

set_option maxHeartbeats 800000 in
set_option maxRecDepth 100000 in
theorem dig_one (n : Nat) (w : World) (h : n < 10) : Calls Tryz.prog 25 #[.int .i64 n] w fun e w' => e = .returned (.string (dig1 n)) ∧ Below w.heap.size w w' := by
  have hn : n = 0 ∨ n = 1 ∨ n = 2 ∨ n = 3 ∨ n = 4 ∨ n = 5 ∨ n = 6 ∨ n = 7 ∨ n = 8 ∨ n = 9 := by omega
  rcases hn with rfl | rfl | rfl | rfl | rfl | rfl | rfl | rfl | rfl | rfl
  all_goals (
    go_enter Tryz.func25, Tryz.ntmps25
    go_wp2
    go_ret
    exact ⟨rfl, Below.refl _ _⟩)

set_option maxHeartbeats 3200000 in
set_option maxRecDepth 100000 in
theorem dig_step (n q d : Nat) (pre : ByteArray) (w : World) (hq : n / 10 = q) (hd : n % 10 = d) (h10 : 10 ≤ n) (h1 : n < 1000) (hp : pre.size ≤ 2) (HD : Hid (∀ w, Calls Tryz.prog 25 #[.int .i64 q] w fun e w' => e = .returned (.string pre) ∧ Below w.heap.size w w')) :
    Calls Tryz.prog 25 #[.int .i64 n] w fun e w' => e = .returned (.string (pre ++ dig1 d)) ∧ Below w.heap.size w w' := by
  have k0 : (0 : Int) ≤ (n : Int) := by omega
  have k1 : ¬ (n : Int) < 10 := by omega
  have kq : (n : Int) / 10 = (q : Int) := by omega
  have kd : (n : Int) % 10 = (d : Int) := by omega
  have tq : Int.tdiv (n : Int) 10 = (q : Int) := by rw [Int.tdiv_eq_ediv_of_nonneg k0]; exact kq
  have td : Int.tmod (n : Int) 10 = (d : Int) := by rw [Int.tmod_eq_emod_of_nonneg k0]; exact kd
  have kn : (n : Int) < 1000 := by omega
  have hd10 : d < 10 := by omega
  clear hq hd h10 h1
  have hn : d = 0 ∨ d = 1 ∨ d = 2 ∨ d = 3 ∨ d = 4 ∨ d = 5 ∨ d = 6 ∨ d = 7 ∨ d = 8 ∨ d = 9 := by omega
  clear hd10
  rcases hn with rfl | rfl | rfl | rfl | rfl | rfl | rfl | rfl | rfl | rfl
  all_goals (
    go_enter Tryz.func25, Tryz.ntmps25
    go_wp2
    refine wp_region_below (by kernel_rfl) (by kernel_rfl) ?_
    repeat (first
      | go_big_quiet_skip
      | (go_big_quiet_want; go_big_quiet_op; first
          | go_big_quiet_on
          | (apply Exists.intro; refine ⟨fun w' hw' => rfl, ?_⟩; go_big_quiet_on)
          | (apply Exists.intro; refine ⟨fun w' hw' => ?_, ?_⟩; (exact calls_below hw' (HD.out w')); go_big_quiet_on)
          | (apply Exists.intro; refine ⟨fun w' hw' => ?_, ?_⟩; (go_simp; rfl); go_big_quiet_on)))
    refine wpQuiet_nil ?_
    intro w2 hb2
    have HB2 : Hid (Below w.heap.size w w2) := hb2
    clear hb2 HD
    go_wp2
    go_ret
    exact ⟨rfl, HB2.out⟩)

def digB (n : Nat) : ByteArray := if n < 10 then dig1 n else if n < 100 then dig1 (n / 10) ++ dig1 (n % 10) else (dig1 (n / 100) ++ dig1 (n / 10 % 10)) ++ dig1 (n % 10)
theorem dig1_size (n : Nat) : (dig1 n).size = 1 := rfl
theorem digB_size (n : Nat) : (digB n).size ≤ 3 := by
  unfold digB
  split
  · rw [dig1_size]; omega
  · split
    · rw [ByteArray.size_append, dig1_size, dig1_size]; omega
    · rw [ByteArray.size_append, ByteArray.size_append, dig1_size, dig1_size, dig1_size]; omega
theorem digits_any (n : Nat) (w : World) (h : n < 1000) : Calls Tryz.prog 25 #[.int .i64 n] w fun e w' => e = .returned (.string (digB n)) ∧ Below w.heap.size w w' := by
  unfold digB
  by_cases h1 : n < 10
  · rw [if_pos h1]; exact dig_one n w h1
  · rw [if_neg h1]
    by_cases h2 : n < 100
    · rw [if_pos h2]
      exact dig_step n (n / 10) (n % 10) _ w rfl rfl (by omega) h (by rw [dig1_size]; omega) (fun w => dig_one (n / 10) w (by omega))
    · rw [if_neg h2]
      have e : n / 10 / 10 = n / 100 := by omega
      exact dig_step n (n / 10) (n % 10) _ w rfl rfl (by omega) h (by rw [ByteArray.size_append, dig1_size, dig1_size]; omega) (fun w => dig_step (n / 10) (n / 100) (n / 10 % 10) _ w (by omega) rfl (by omega) (by omega) (by rw [dig1_size]; omega) (fun w => dig_one (n / 100) w (by omega)))

def textB (a b c : Nat) : ByteArray := (((digB a ++ ⟨#[46]⟩) ++ digB b) ++ ⟨#[46]⟩) ++ digB c
theorem textB_size (a b c : Nat) : (textB a b c).size ≤ 11 := by
  unfold textB
  have h1 := digB_size a
  have h2 := digB_size b
  have h3 := digB_size c
  have h4 : (⟨#[46]⟩ : ByteArray).size = 1 := rfl
  rw [ByteArray.size_append, ByteArray.size_append, ByteArray.size_append, ByteArray.size_append, h4]
  omega

set_option maxHeartbeats 1600000 in
set_option maxRecDepth 100000 in
theorem text_any (a b c : Nat) (w : World) (ha : a < 1000) (hb : b < 1000) (hc : c < 1000) : Calls Tryz.prog 14 #[.agg #[.int .i64 a, .int .i64 b, .int .i64 c]] w fun e w' => e = .returned (.string (textB a b c)) ∧ Below w.heap.size w w' := by
  have HA : Hid (∀ w, Calls Tryz.prog 25 #[.int .i64 a] w fun e w' => e = .returned (.string (digB a)) ∧ Below w.heap.size w w') := fun w => digits_any a w ha
  have HB : Hid (∀ w, Calls Tryz.prog 25 #[.int .i64 b] w fun e w' => e = .returned (.string (digB b)) ∧ Below w.heap.size w w') := fun w => digits_any b w hb
  have HC : Hid (∀ w, Calls Tryz.prog 25 #[.int .i64 c] w fun e w' => e = .returned (.string (digB c)) ∧ Below w.heap.size w w') := fun w => digits_any c w hc
  have s1 := digB_size a
  have s2 := digB_size b
  have s3 := digB_size c
  unfold textB
  generalize digB a = A at *
  generalize digB b = B at *
  generalize digB c = C at *
  have e1 : (⟨#[46]⟩ : ByteArray).size = 1 := rfl
  have s4 : (A ++ ⟨#[46]⟩).size ≤ 4 := by rw [ByteArray.size_append, e1]; omega
  have s5 : ((A ++ ⟨#[46]⟩) ++ B).size ≤ 7 := by rw [ByteArray.size_append]; omega
  have s6 : (((A ++ ⟨#[46]⟩) ++ B) ++ ⟨#[46]⟩).size ≤ 8 := by rw [ByteArray.size_append, e1]; omega
  clear e1 ha hb hc
  go_enter Tryz.func14, Tryz.ntmps14
  go_wp2
  have hw1 : Below w.heap.size w (w.alloc (.cells #[.int .i64 a, .int .i64 b, .int .i64 c] 25)) := (Below.refl _ _).alloc (Nat.le_refl _) _
  have q : ∀ o, (w.alloc (.cells #[.int .i64 a, .int .i64 b, .int .i64 c] 25)).cell? ⟨w.heap.size, o, none⟩ = #[Value.int .i64 a, .int .i64 b, .int .i64 c][o]? := fun o => World.cell?_alloc_at _ _ _ _ rfl
  have hlt : w.heap.size < (w.alloc (.cells #[.int .i64 a, .int .i64 b, .int .i64 c] 25)).heap.size := by simp
  generalize w.alloc (.cells #[.int .i64 a, .int .i64 b, .int .i64 c] 25) = w1 at *
  have q0 : ∀ w', Below w1.heap.size w1 w' → w'.cell? ⟨w.heap.size, 0, none⟩ = some (.int .i64 a) := fun w' h => (h.cell (p := ⟨w.heap.size, 0, none⟩) hlt).trans (q 0)
  have q1 : ∀ w', Below w1.heap.size w1 w' → w'.cell? ⟨w.heap.size, 1, none⟩ = some (.int .i64 b) := fun w' h => (h.cell (p := ⟨w.heap.size, 1, none⟩) hlt).trans (q 1)
  have q2 : ∀ w', Below w1.heap.size w1 w' → w'.cell? ⟨w.heap.size, 2, none⟩ = some (.int .i64 c) := fun w' h => (h.cell (p := ⟨w.heap.size, 2, none⟩) hlt).trans (q 2)
  refine wp_region_below (by kernel_rfl) (by kernel_rfl) ?_
  repeat (first
    | go_big_quiet_skip
    | (go_big_quiet_want; go_big_quiet_op; first
        | go_big_quiet_on
        | (apply Exists.intro; refine ⟨fun w' hw' => rfl, ?_⟩; go_big_quiet_on)
        | (apply Exists.intro; refine ⟨fun w' hw' => ?_, ?_⟩; (with_reducible exact calls_below hw' (HA.out w')); go_big_quiet_on)
        | (apply Exists.intro; refine ⟨fun w' hw' => ?_, ?_⟩; (with_reducible exact calls_below hw' (HB.out w')); go_big_quiet_on)
        | (apply Exists.intro; refine ⟨fun w' hw' => ?_, ?_⟩; (with_reducible exact calls_below hw' (HC.out w')); go_big_quiet_on)
        | (apply Exists.intro; refine ⟨fun w' hw' => ?_, ?_⟩; (go_simp; rfl); go_big_quiet_on)))
  refine wpQuiet_nil ?_
  intro w2 hb2
  have HB2 : Hid (Below w.heap.size w w2) := hw1.trans (hb2.mono (Nat.le_of_lt hlt))
  clear hb2 HA HB HC q q0 q1 q2 hw1
  go_wp2
  go_ret
  exact ⟨rfl, HB2.out⟩

set_option maxRecDepth 100000 in
theorem num_digB : ∀ n, n < 1000 → Ver.numI (digB n).data.toList = (n : Int) := by decide +kernel
set_option maxRecDepth 100000 in
theorem dot_digB : ∀ n, n < 1000 → (digB n).data.toList.all (fun b => b != 46) = true := by decide +kernel
theorem ver_text (a b c : Nat) (ha : a < 1000) (hb : b < 1000) (hc : c < 1000) : Ver.verI (textB a b c).data.toList = 1000 * (1000 * (a : Int) + b) + c := by
  have e : (textB a b c).data.toList = (digB a).data.toList ++ 46 :: ((digB b).data.toList ++ 46 :: (digB c).data.toList) := by
    unfold textB; simp
  have nd : ∀ n, n < 1000 → ∀ x ∈ (digB n).data.toList, x ≠ 46 := fun n hn x hx => by simpa using List.all_eq_true.1 (dot_digB n hn) x hx
  unfold Ver.verI
  rw [e, Ver.cutL_hit _ _ _ (nd a ha), Ver.cutL_hit _ _ _ (nd b hb), Ver.cutL_end _ _ (nd c hc)]
  have k1 := num_digB a ha
  have k2 := num_digB b hb
  have k3 := num_digB c hc
  unfold Ver.verL
  dsimp only
  rw [k1, k2, k3, if_neg (by omega)]

end Go.Proofs.YtnmclolbndohiaaGreatDoor

/-
  The walks of the statements' own 'small' and 'behind'.
-/
namespace Go.Proofs.YtnmclolbndohiaaGreatDoor
open Go.RowKit

def smallI (x : Int) : Int := (if x < 0 then -(x + 1) else x) % 1000
theorem smallI_bd (x : Int) : 0 ≤ smallI x ∧ smallI x < 1000 := by unfold smallI; omega
theorem sm_case (x : Int) : (x < 0 ∧ smallI x = -((x + 1).tmod 1000)) ∨ ((0 ≤ x ∧ decide (x < 0) = false) ∧ smallI x = x % 1000) := by
  unfold smallI
  by_cases h : x < 0
  · refine Or.inl ⟨h, ?_⟩
    rw [if_pos h, ← Int.neg_tmod, Int.tmod_eq_emod_of_nonneg (by omega)]
  · refine Or.inr ⟨⟨by omega, decide_eq_false h⟩, ?_⟩
    rw [if_neg h]
def In64 (x : Int) : Prop := -9223372036854775808 ≤ x ∧ x ≤ 9223372036854775807

set_option maxHeartbeats 1600000 in
set_option maxRecDepth 100000 in
theorem small_any (x y z : Int) (w : World) (hx : In64 x) (hy : In64 y) (hz : In64 z) : Calls Tryz.prog 13 #[.agg #[.int .i64 x, .int .i64 y, .int .i64 z]] w fun e w' => e = .returned (.agg #[.int .i64 (smallI x), .int .i64 (smallI y), .int .i64 (smallI z)]) ∧ Below w.heap.size w w' := by
  obtain ⟨x0, x1⟩ := hx
  obtain ⟨y0, y1⟩ := hy
  obtain ⟨z0, z1⟩ := hz
  rcases sm_case x with ⟨hx, ex⟩ | ⟨⟨hx, kx⟩, ex⟩
  all_goals (rcases sm_case y with ⟨hy, ey⟩ | ⟨⟨hy, ky⟩, ey⟩)
  all_goals (rcases sm_case z with ⟨hz, ez⟩ | ⟨⟨hz, kz⟩, ez⟩)
  all_goals (
    have EX : Hid (_) := ex
    have EY : Hid (_) := ey
    have EZ : Hid (_) := ez
    clear ex ey ez
    go_enter Tryz.func13, Tryz.ntmps13
    go_wp2
    refine wp_loop_rounds 4 ?_
    rw [rounds_succ]
    go_wp2
    rw [rounds_succ]
    go_wp2
    rw [rounds_succ]
    go_wp2
    rw [rounds_succ]
    go_wp2
    refine bodyPost_ret (v := .agg #[.int .i64 (smallI x), .int .i64 (smallI y), .int .i64 (smallI z)]) ?_ rfl ⟨rfl, ((Below.refl _ _).alloc (Nat.le_refl _) _).alloc (by simp) _⟩
    rw [EX.out, EY.out, EZ.out]
    simp [results, Tryz.results13, go_sem])

end Go.Proofs.YtnmclolbndohiaaGreatDoor
