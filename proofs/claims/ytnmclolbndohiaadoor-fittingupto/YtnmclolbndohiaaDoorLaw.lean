/-
  The walks of the code's 'Fits' (5), of the statement's 'fits' (4) and of 'Fitting' (3).
-/
import Derived.Test.YtnmclolbndohiaaDoorPdem3
import Derived.Test.YtnmclolbndohiaaDoorFit
import Derived.Test.YtnmclolbndohiaaDoorDem
namespace Go.Proofs.YtnmclolbndohiaaDoor
open Go.RowKit
open Ver

theorem cmp_lt (d v : Int) :
    cmp3 (v / 1000000) (v / 1000 % 1000) (v % 1000) (d / 1000000) (d / 1000 % 1000) (d % 1000) < 0 ↔ v < d := by
  unfold cmp3 cmpI
  by_cases h0 : v / 1000000 = d / 1000000
  · rw [if_pos h0]
    by_cases h1 : v / 1000 % 1000 = d / 1000 % 1000
    · rw [if_pos h1]
      by_cases h2 : v % 1000 < d % 1000
      · rw [if_pos h2]; constructor <;> intro <;> omega
      · rw [if_neg h2]; split <;> constructor <;> intro <;> omega
    · rw [if_neg h1]
      by_cases h2 : v / 1000 % 1000 < d / 1000 % 1000
      · rw [if_pos h2]; constructor <;> intro <;> omega
      · rw [if_neg h2]; split <;> constructor <;> intro <;> omega
  · rw [if_neg h0]
    by_cases h2 : v / 1000000 < d / 1000000
    · rw [if_pos h2]; constructor <;> intro <;> omega
    · rw [if_neg h2]; split <;> constructor <;> intro <;> omega

theorem fitC_iff (st f0 f1 f2 v0 v1 v2 : Int) : fitC st f0 f1 f2 v0 v1 v2 = true ↔
    (st = 4 → v2 = f2) ∧ (st = 4 ∨ st = 3 → v1 = f1) ∧ (st = 4 ∨ st = 3 ∨ st = 2 → v0 = f0) ∧ (st = 4 ∨ st = 3 ∨ st = 2 ∨ st = 1 → ¬ cmp3 v0 v1 v2 f0 f1 f2 < 0) := by
  unfold fitC
  generalize cmp3 v0 v1 v2 f0 f1 f2 = C
  by_cases h1 : st = 4 ∧ v2 ≠ f2
  · rw [if_pos h1]; constructor
    · intro h; cases h
    · intro h; omega
  · rw [if_neg h1]
    by_cases h2 : (st = 4 ∨ st = 3) ∧ v1 ≠ f1
    · rw [if_pos h2]; constructor
      · intro h; cases h
      · intro h; omega
    · rw [if_neg h2]
      by_cases h3 : (st = 4 ∨ st = 3 ∨ st = 2) ∧ v0 ≠ f0
      · rw [if_pos h3]; constructor
        · intro h; cases h
        · intro h; omega
      · rw [if_neg h3]
        by_cases h4 : (st = 4 ∨ st = 3 ∨ st = 2 ∨ st = 1) ∧ C < 0
        · rw [if_pos h4]; constructor
          · intro h; cases h
          · intro h; omega
        · rw [if_neg h4]; constructor
          · intro _; omega
          · intro _; rfl

/-- The cases that fall through tell what the reference tells. -/
theorem fit_same (c d v : Int) (hc : c = 42 ∨ c = 61 ∨ c = 62 ∨ c = 126 ∨ c = 94) (hd0 : 0 ≤ d) (hv0 : 0 ≤ v) :
    fitC (stOf c d) (d / 1000000) (d / 1000 % 1000) (d % 1000) (v / 1000000) (v / 1000 % 1000) (v % 1000) = fitI c d v := by
  rw [Bool.eq_iff_iff, fitC_iff, cmp_lt]
  rcases hc with rfl | rfl | rfl | rfl | rfl
  · have : stOf 42 d = 0 := rfl
    have e : fitI 42 d v = true := rfl
    rw [this, e]; simp
  · have e : fitI 61 d v = (v == d) := rfl
    rw [st_is, e, beq_iff_eq]; simp only [true_or, true_implies]; omega
  · have e : fitI 62 d v = decide (d ≤ v) := rfl
    rw [st_ge, e, decide_eq_true_iff]
    have n4 : ¬ (1 : Int) = 4 := by decide
    have n3 : ¬ (1 : Int) = 3 := by decide
    have n2 : ¬ (1 : Int) = 2 := by decide
    simp only [n4, n3, n2, false_or, or_false, false_implies, true_implies, true_and]; omega
  · have e : fitI 126 d v = (decide (d ≤ v) && (v / 1000 == d / 1000)) := rfl
    rw [st_tilde, e, Bool.and_eq_true, decide_eq_true_iff, beq_iff_eq]
    have n4 : ¬ (3 : Int) = 4 := by decide
    simp only [n4, or_true, true_or, false_implies, true_implies, true_and]; omega
  · rw [st_caret]
    have e : fitI 94 d v = if 0 < d / 1000000 then decide (d ≤ v) && (v / 1000000 == d / 1000000) else if 0 < d / 1000 % 1000 then decide (d ≤ v) && (v / 1000 == d / 1000 % 1000) else v == d := rfl
    rw [e]
    by_cases h0 : d / 1000000 = 0
    · rw [if_neg (show ¬ 0 < d / 1000000 by omega)]
      by_cases h1 : d / 1000 % 1000 = 0
      · have hc : caretI (d / 1000000) (d / 1000 % 1000) = 4 := by unfold caretI; rw [if_pos h0, if_pos h1]
        rw [hc, if_neg (show ¬ 0 < d / 1000 % 1000 by omega), beq_iff_eq]
        simp only [true_or, true_implies]; omega
      · have hc : caretI (d / 1000000) (d / 1000 % 1000) = 3 := by unfold caretI; rw [if_pos h0, if_neg h1]
        rw [hc, if_pos (show 0 < d / 1000 % 1000 by omega), Bool.and_eq_true, decide_eq_true_iff, beq_iff_eq]
        have n4 : ¬ (3 : Int) = 4 := by decide
        simp only [n4, or_true, true_or, false_implies, true_implies, true_and]; omega
    · have hc : caretI (d / 1000000) (d / 1000 % 1000) = 2 := by unfold caretI; rw [if_neg h0]
      rw [hc, if_pos (show 0 < d / 1000000 by omega), Bool.and_eq_true, decide_eq_true_iff, beq_iff_eq]
      have n4 : ¬ (2 : Int) = 4 := by decide
      have n3 : ¬ (2 : Int) = 3 := by decide
      simp only [n4, n3, false_or, or_true, true_or, false_implies, true_implies, true_and]; omega

/-- What 'Fits' comes to. -/
def fitsRes (a b : List UInt8) : Ending :=
  if verI a < 0 ∨ (demI b).1 = 0 then .returned (.tuple #[.bool false, .int .i64 2])
  else .returned (.tuple #[.bool (fitI (demI b).1 (demI b).2 (verI a)), .int .i64 0])

set_option maxHeartbeats 800000 in
set_option maxRecDepth 100000 in
theorem codeFits_any (a b : ByteArray) (w : World) (t0 t1 : TypeId) (p0 p1 : Value) (m : Int) (ha : a.size ≤ 1048576) (hb : b.size ≤ 1048576) (G : Glob t0 t1 p0 p1 m w) :
    Calls Tryd.prog 5 #[.string a, .string b] w fun e w' => e = fitsRes a.data.toList b.data.toList ∧ Below w.heap.size w w' := by
  by_cases hv : verI a.data.toList < 0
  · have C := parse_no a t0 t1 p0 p1 m w ha G hv
    have HR : Hid (Ending.returned (.tuple #[.bool false, .int .i64 2]) = fitsRes a.data.toList b.data.toList) := by show _ = _; unfold fitsRes; rw [if_pos (Or.inl hv)]
    have HC : Hid (Calls Tryd.prog 10 #[.string a] w fun e w' => e = .returned (.tuple #[.agg #[.int .i64 0, .int .i64 0, .int .i64 0], .iface t0 p0]) ∧ Below w.heap.size w w') := C
    clear C hv G
    go_enter Tryd.func5, Tryd.ntmps5
    go_wp2_with fail
    refine HC.out.mono ?_
    rintro e w1 ⟨rfl, hb1⟩
    go_wp2
    go_ret2
    exact ⟨HR.out, hb1.alloc hb1.size _⟩
  · have hv' : 0 ≤ verI a.data.toList := by omega
    have C := parse_yes a t0 t1 p0 p1 m w ha G hv'
    obtain ⟨x0, e0⟩ : ∃ x, verI a.data.toList / 1000000 = x := ⟨_, rfl⟩
    obtain ⟨x1, e1⟩ : ∃ x, verI a.data.toList / 1000 % 1000 = x := ⟨_, rfl⟩
    obtain ⟨x2, e2⟩ : ∃ x, verI a.data.toList % 1000 = x := ⟨_, rfl⟩
    rw [e0, e1, e2] at C
    have HC : Hid (Calls Tryd.prog 10 #[.string a] w fun e w' => e = .returned (.tuple #[.agg #[.int .i64 x0, .int .i64 x1, .int .i64 x2], .nilIface]) ∧ Below w.heap.size w w') := C
    have HG : Hid (Glob t0 t1 p0 p1 m w) := G
    have HE : Hid (verI a.data.toList / 1000000 = x0 ∧ verI a.data.toList / 1000 % 1000 = x1 ∧ verI a.data.toList % 1000 = x2) := ⟨e0, e1, e2⟩
    have HV : Hid (0 ≤ verI a.data.toList) := hv'
    have hw := G.lt
    clear C G e0 e1 e2 hv hv'
    go_enter Tryd.func5, Tryd.ntmps5
    go_wp2_with fail
    refine HC.out.mono ?_
    rintro e w1 ⟨rfl, hb1⟩
    have HB1 : Hid (Below w.heap.size w w1) := hb1
    have hz1 := hb1.size
    clear hb1 HC
    have HB2 : Hid (Below w.heap.size w (w1.alloc (.cells #[.int .i64 x0, .int .i64 x1, .int .i64 x2] 35))) := HB1.out.alloc hz1 _
    have HP : Hid (Calls Tryd.prog 11 #[.string b] (w1.alloc (.cells #[.int .i64 x0, .int .i64 x1, .int .i64 x2] 35)) fun e w' => DemEnds t0 t1 p0 p1 b.data.toList e ∧ Below (w1.heap.size + 1) (w1.alloc (.cells #[.int .i64 x0, .int .i64 x1, .int .i64 x2] 35)) w') := by
      have := pdem_any b (w1.alloc (.cells #[.int .i64 x0, .int .i64 x1, .int .i64 x2] 35)) t0 t1 p0 p1 m hb (HG.out.on HB2.out hw)
      rw [World.size_alloc] at this; exact this
    clear HG HB1
    go_wp2_with fail
    refine HP.out.mono ?_
    rintro e w2 ⟨hend, hb2⟩
    have g0 : w2.cell? ⟨w1.heap.size, 0, none⟩ = some (.int .i64 x0) := (hb2.cell (p := ⟨w1.heap.size, 0, none⟩) (by show w1.heap.size < _; omega)).trans ((World.cell?_alloc_at _ _ _ _ rfl).trans rfl)
    have g1 : w2.cell? ⟨w1.heap.size, 1, none⟩ = some (.int .i64 x1) := (hb2.cell (p := ⟨w1.heap.size, 1, none⟩) (by show w1.heap.size < _; omega)).trans ((World.cell?_alloc_at _ _ _ _ rfl).trans rfl)
    have g2 : w2.cell? ⟨w1.heap.size, 2, none⟩ = some (.int .i64 x2) := (hb2.cell (p := ⟨w1.heap.size, 2, none⟩) (by show w1.heap.size < _; omega)).trans ((World.cell?_alloc_at _ _ _ _ rfl).trans rfl)
    have hz2 : w1.heap.size < w2.heap.size := by have := hb2.size; simp at this; omega
    have HB3 : Hid (Below w.heap.size w w2) := HB2.out.trans (hb2.mono (by omega))
    clear hb2 HB2 HP
    rcases hend with ⟨hc, he⟩ | ⟨hc, he⟩
    · have HR : Hid (Ending.returned (.tuple #[.bool false, .int .i64 2]) = fitsRes a.data.toList b.data.toList) := by show _ = _; unfold fitsRes; rw [if_pos (Or.inr hc)]
      clear hc
      rcases he with rfl | rfl
      all_goals
        go_wp2
        go_ret2
        exact ⟨HR.out, HB3.out.alloc (by omega) _⟩
    · have hsg := demI_sign b.data.toList
      have hcc : (demI b.data.toList).1 = 42 ∨ (demI b.data.toList).1 = 61 ∨ (demI b.data.toList).1 = 62 ∨ (demI b.data.toList).1 = 126 ∨ (demI b.data.toList).1 = 94 := by
        rcases hsg with h | h | h
        · rw [h] at hc; exact absurd rfl hc
        · rw [h]; exact Or.inl rfl
        · exact Or.inr h.1
      have hd0 : 0 ≤ (demI b.data.toList).2 := by
        rcases hsg with h | h | h
        · rw [h]; exact Int.le_refl _
        · rw [h]; exact Int.le_refl _
        · exact h.2.1
      have hsame := fit_same _ _ _ hcc hd0 HV.out
      have hres : Ending.returned (.tuple #[.bool (fitI (demI b.data.toList).1 (demI b.data.toList).2 (verI a.data.toList)), .int .i64 0]) = fitsRes a.data.toList b.data.toList := by
        unfold fitsRes; rw [if_neg (by rintro (h | h); have := HV.out; omega; exact hc h)]
      have hst : stOf (demI b.data.toList).1 (demI b.data.toList).2 = 0 ∨ stOf (demI b.data.toList).1 (demI b.data.toList).2 = 1 ∨ stOf (demI b.data.toList).1 (demI b.data.toList).2 = 2 ∨ stOf (demI b.data.toList).1 (demI b.data.toList).2 = 3 ∨ stOf (demI b.data.toList).1 (demI b.data.toList).2 = 4 := by
        unfold stOf caretI
        repeat' split
        all_goals omega
      rw [HE.out.1, HE.out.2.1, HE.out.2.2] at hsame
      obtain ⟨st, est⟩ : ∃ x, stOf (demI b.data.toList).1 (demI b.data.toList).2 = x := ⟨_, rfl⟩
      obtain ⟨y0, ey0⟩ : ∃ x, (demI b.data.toList).2 / 1000000 = x := ⟨_, rfl⟩
      obtain ⟨y1, ey1⟩ : ∃ x, (demI b.data.toList).2 / 1000 % 1000 = x := ⟨_, rfl⟩
      obtain ⟨y2, ey2⟩ : ∃ x, (demI b.data.toList).2 % 1000 = x := ⟨_, rfl⟩
      rw [est, ey0, ey1, ey2] at he hsame
      rw [est] at hst
      rw [← hsame] at hres
      have HR : Hid (Ending.returned (.tuple #[.bool (fitC st y0 y1 y2 x0 x1 x2), .int .i64 0]) = fitsRes a.data.toList b.data.toList) := hres
      have HF : Hid (∀ w : World, Calls Tryd.prog 12 #[.agg #[.int .i64 st, .int .i64 y0, .int .i64 y1, .int .i64 y2], .agg #[.int .i64 x0, .int .i64 x1, .int .i64 x2]] w fun e w' => e = .returned (.bool (fitC st y0 y1 y2 x0 x1 x2)) ∧ Below w.heap.size w w') := fun w => fits_any st y0 y1 y2 x0 x1 x2 hst w
      clear hc hsg hcc hd0 hsame hres hst est ey0 ey1 ey2 HE HV
      subst he
      go_wp2_with fail
      refine (HF.out _).mono ?_
      rintro e w3 ⟨rfl, hb3⟩
      go_wp2
      go_ret2
      exact ⟨HR.out, (HB3.out.alloc (by omega) _).trans (hb3.mono (by simp; omega))⟩

end Go.Proofs.YtnmclolbndohiaaDoor
