/-
  The walks of the statement's 'fits' (4) and of 'Fitting' (3).
-/
import Derived.Test.YtnmclolbndohiaaDoorLaw
namespace Go.Proofs.YtnmclolbndohiaaDoor
open Go.RowKit
open Ver

theorem eq_self (f : Bool) : (f == f) = true := by cases f <;> rfl

set_option maxHeartbeats 800000 in
set_option maxRecDepth 100000 in
theorem lawFits_any (k0 k1 : Int) (a b : ByteArray) (w : World) (t0 t1 : TypeId) (p0 p1 : Value) (m : Int) (ha : a.size ≤ 1048576) (hb : b.size ≤ 1048576) (G : Glob t0 t1 p0 p1 m w) :
    Calls Tryd.prog 4 #[.agg #[.int .i64 k0, .int .i64 k1, .string a, .string b]] w fun e w' => e = .returned (.bool true) ∧ Below w.heap.size w w' := by
  have hb0 : Below w.heap.size w (w.alloc (.cells #[.int .i64 k0, .int .i64 k1, .string a, .string b] 24)) := (Below.refl _ _).alloc (Nat.le_refl _) _
  have HG : Hid (Glob t0 t1 p0 p1 m (w.alloc (.cells #[.int .i64 k0, .int .i64 k1, .string a, .string b] 24))) := G.on hb0 G.lt
  have HB0 : Hid (Below w.heap.size w (w.alloc (.cells #[.int .i64 k0, .int .i64 k1, .string a, .string b] 24))) := hb0
  clear hb0 G
  obtain ⟨V, eV⟩ : ∃ x, verI a.data.toList = x := ⟨_, rfl⟩
  obtain ⟨c, ec⟩ : ∃ x, (demI b.data.toList).1 = x := ⟨_, rfl⟩
  obtain ⟨d, ed⟩ : ∃ x, (demI b.data.toList).2 = x := ⟨_, rfl⟩
  have hV := verI_bd a.data.toList
  have hsg := demI_sign b.data.toList
  have C1 := codeFits_any a b _ t0 t1 p0 p1 m ha hb HG.out
  have C2 := fun w => version_any a w ha
  have C3 := fun w => demand_any b w hb
  unfold fitsRes at C1
  rw [eV, ec, ed] at C1
  rw [ec, ed] at C3
  rw [eV] at C2 hV
  have hd : 0 ≤ d ∧ d ≤ 999999999 := by
    rw [← ed]
    rcases hsg with h | h | h
    · rw [h]; decide
    · rw [h]; decide
    · exact h.2
  have HC2 : Hid (∀ w : World, Calls Tryd.prog 6 #[.string a] w fun e w' => e = .returned (.int .i64 V) ∧ Below w.heap.size w w') := C2
  have HC3 : Hid (∀ w : World, Calls Tryd.prog 7 #[.string b] w fun e w' => e = .returned (.tuple #[.int .u8 c, .int .i64 d]) ∧ Below w.heap.size w w') := C3
  obtain ⟨hd0, hd1⟩ := hd
  obtain ⟨hV0, hV1⟩ := hV
  rw [World.size_alloc] at C1
  clear C2 C3 hsg eV ec ed HG
  by_cases hbad : V < 0 ∨ c = 0
  · rw [if_pos hbad] at C1
    have HC1 : Hid (Calls Tryd.prog 5 #[.string a, .string b] (w.alloc (.cells #[.int .i64 k0, .int .i64 k1, .string a, .string b] 24)) fun e w' => e = .returned (.tuple #[.bool false, .int .i64 2]) ∧ Below (w.heap.size + 1) (w.alloc (.cells #[.int .i64 k0, .int .i64 k1, .string a, .string b] 24)) w') := C1
    clear C1
    go_enter Tryd.func4, Tryd.ntmps4
    go_wp2_with fail
    refine HC1.out.mono ?_
    rintro e w1 ⟨rfl, hb1⟩
    have g2 : w1.cell? ⟨w.heap.size, 2, none⟩ = some (.string a) := (hb1.cell (p := ⟨w.heap.size, 2, none⟩) (by show w.heap.size < _; omega)).trans ((World.cell?_alloc_at _ _ _ _ rfl).trans rfl)
    have g3 : w1.cell? ⟨w.heap.size, 3, none⟩ = some (.string b) := (hb1.cell (p := ⟨w.heap.size, 3, none⟩) (by show w.heap.size < _; omega)).trans ((World.cell?_alloc_at _ _ _ _ rfl).trans rfl)
    have HB1 : Hid (Below w.heap.size w w1) := HB0.out.trans (hb1.mono (by omega))
    have hz1 : w.heap.size < w1.heap.size := by have := hb1.size; simp at this; omega
    clear hb1 HC1 HB0
    go_wp2_with fail
    refine (HC2.out _).mono ?_
    rintro e w2 ⟨rfl, hb2⟩
    have f3 : w2.cell? ⟨w.heap.size, 3, none⟩ = some (.string b) := (hb2.cell (p := ⟨w.heap.size, 3, none⟩) hz1).trans g3
    have HB2 : Hid (Below w.heap.size w w2) := HB1.out.trans (hb2.mono (by omega))
    have hz2 := hb2.size
    clear hb2 HC2 HB1 g2 g3
    go_wp2_with fail
    refine (HC3.out _).mono ?_
    rintro e w3 ⟨rfl, hb3⟩
    have HB3 : Hid (Below w.heap.size w w3) := HB2.out.trans (hb3.mono (by omega))
    clear hb3 HC3 HB2 f3
    rcases hbad with hbad | hbad
    · go_wp2_with (go_at_call 8; refine (num_any _ _).mono ?_; rintro e w' ⟨rfl, rfl⟩)
      go_ret
      exact ⟨rfl, HB3.out⟩
    · by_cases hV2 : V < 0
      · go_wp2_with (go_at_call 8; refine (num_any _ _).mono ?_; rintro e w' ⟨rfl, rfl⟩)
        go_ret
        exact ⟨rfl, HB3.out⟩
      · have hq : (c == 0) = true := by simpa using hbad
        clear hbad
        go_wp2_with (go_at_call 8; refine (num_any _ _).mono ?_; rintro e w' ⟨rfl, rfl⟩)
        go_ret
        exact ⟨rfl, HB3.out⟩
  · rw [if_neg hbad] at C1
    have HF : Hid (∀ w : World, Calls Tryd.prog 9 #[.int .u8 c, .int .i64 d, .int .i64 V] w fun e w' => e = .returned (.bool (fitI c d V)) ∧ w' = w) := fun w => refFits_any c d V w hd0 hd1 (by omega) hV1
    generalize fitI c d V = f at *
    have hff := eq_self f
    have HC1 : Hid (Calls Tryd.prog 5 #[.string a, .string b] (w.alloc (.cells #[.int .i64 k0, .int .i64 k1, .string a, .string b] 24)) fun e w' => e = .returned (.tuple #[.bool f, .int .i64 0]) ∧ Below (w.heap.size + 1) (w.alloc (.cells #[.int .i64 k0, .int .i64 k1, .string a, .string b] 24)) w') := C1
    have hV2 : ¬ V < 0 := fun h => hbad (Or.inl h)
    have hq : (c == 0) = false := by rw [beq_eq_false_iff_ne]; exact fun h => hbad (Or.inr h)
    clear C1 hbad
    go_enter Tryd.func4, Tryd.ntmps4
    go_wp2_with fail
    refine HC1.out.mono ?_
    rintro e w1 ⟨rfl, hb1⟩
    have g2 : w1.cell? ⟨w.heap.size, 2, none⟩ = some (.string a) := (hb1.cell (p := ⟨w.heap.size, 2, none⟩) (by show w.heap.size < _; omega)).trans ((World.cell?_alloc_at _ _ _ _ rfl).trans rfl)
    have g3 : w1.cell? ⟨w.heap.size, 3, none⟩ = some (.string b) := (hb1.cell (p := ⟨w.heap.size, 3, none⟩) (by show w.heap.size < _; omega)).trans ((World.cell?_alloc_at _ _ _ _ rfl).trans rfl)
    have HB1 : Hid (Below w.heap.size w w1) := HB0.out.trans (hb1.mono (by omega))
    have hz1 : w.heap.size < w1.heap.size := by have := hb1.size; simp at this; omega
    clear hb1 HC1 HB0
    go_wp2_with fail
    refine (HC2.out _).mono ?_
    rintro e w2 ⟨rfl, hb2⟩
    have f3 : w2.cell? ⟨w.heap.size, 3, none⟩ = some (.string b) := (hb2.cell (p := ⟨w.heap.size, 3, none⟩) hz1).trans g3
    have HB2 : Hid (Below w.heap.size w w2) := HB1.out.trans (hb2.mono (by omega))
    have hz2 := hb2.size
    clear hb2 HC2 HB1 g2 g3
    go_wp2_with fail
    refine (HC3.out _).mono ?_
    rintro e w3 ⟨rfl, hb3⟩
    have HB3 : Hid (Below w.heap.size w w3) := HB2.out.trans (hb3.mono (by omega))
    clear hb3 HC3 HB2 f3
    go_wp2_with (go_at_call 9; refine (HF.out _).mono ?_; rintro e w' ⟨rfl, rfl⟩)
    go_ret
    exact ⟨rfl, HB3.out⟩

set_option maxHeartbeats 800000 in
set_option maxRecDepth 100000 in
theorem fitting_any (a b : ByteArray) (w : World) (t0 t1 : TypeId) (p0 p1 : Value) (m : Int) (ha : a.size ≤ 1048576) (hb : b.size ≤ 1048576) (G : Glob t0 t1 p0 p1 m w) :
    Calls Tryd.prog 3 #[.string a, .string b] w fun e w' => e = .returned (.bool true) ∧ Below w.heap.size w w' := by
  have HG : Hid (Glob t0 t1 p0 p1 m w) := G
  clear G
  go_enter Tryd.func3, Tryd.ntmps3
  go_wp2_with fail
  refine (lawFits_any _ _ _ _ _ t0 t1 p0 p1 m (by decide) (by decide) HG.out).mono ?_
  rintro e w1 ⟨rfl, hb1⟩
  have HG1 : Hid (Glob t0 t1 p0 p1 m w1) := HG.out.on hb1 HG.out.lt
  have HB1 : Hid (Below w.heap.size w w1) := hb1
  clear hb1 HG
  go_wp2_with fail
  refine (lawFits_any _ _ _ _ _ t0 t1 p0 p1 m (by decide) (by decide) HG1.out).mono ?_
  rintro e w2 ⟨rfl, hb2⟩
  have HG2 : Hid (Glob t0 t1 p0 p1 m w2) := HG1.out.on hb2 HG1.out.lt
  have HB2 : Hid (Below w.heap.size w w2) := HB1.out.trans (hb2.mono HB1.out.size)
  clear hb2 HG1 HB1
  go_wp2_with fail
  refine (lawFits_any _ _ _ _ _ t0 t1 p0 p1 m ha hb HG2.out).mono ?_
  rintro e w3 ⟨rfl, hb3⟩
  have HB3 : Hid (Below w.heap.size w w3) := HB2.out.trans (hb3.mono HB2.out.size)
  clear hb3 HG2 HB2
  go_wp2
  go_ret
  exact ⟨rfl, HB3.out⟩

end Go.Proofs.YtnmclolbndohiaaDoor
