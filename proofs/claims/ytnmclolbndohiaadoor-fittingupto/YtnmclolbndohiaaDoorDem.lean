/-
  The walks of the reference's 'Demand' (7) and 'Fits' (9).
-/
import Derived.Test.YtnmclolbndohiaaDoorVer
namespace Go.Proofs.YtnmclolbndohiaaDoor
open Go.RowKit
open Ver

theorem ret_bool {a b : Bool} (h : a = b) : Ending.returned (.bool a) = .returned (.bool b) := by rw [h]

theorem fit_star (c d v : Int) (h : (c == 42) = true) : true = fitI c d v := by
  simp only [beq_iff_eq] at h; unfold fitI; rw [if_pos h]
theorem fit_is (c d v : Int) (h0 : (c == 42) = false) (h : (c == 61) = true) : (v == d) = fitI c d v := by
  simp only [beq_iff_eq, beq_eq_false_iff_ne] at *; unfold fitI; rw [if_neg h0, if_pos h]
theorem fit_ge (c d v : Int) (h0 : (c == 42) = false) (h1 : (c == 61) = false) (h : (c == 62) = true) : decide (d ≤ v) = fitI c d v := by
  simp only [beq_iff_eq, beq_eq_false_iff_ne] at *; unfold fitI; rw [if_neg h0, if_neg h1, if_pos h]
theorem fit_tilde (c d v : Int) (h0 : (c == 42) = false) (h1 : (c == 61) = false) (h2 : (c == 62) = false) (h : (c == 126) = true) : (decide (d ≤ v) && (v / 1000 == d / 1000)) = fitI c d v := by
  simp only [beq_iff_eq, beq_eq_false_iff_ne] at *; unfold fitI; rw [if_neg h0, if_neg h1, if_neg h2, if_pos h]
theorem fit_c1 (c d v : Int) (h0 : (c == 42) = false) (h1 : (c == 61) = false) (h2 : (c == 62) = false) (h : (c == 126) = false) (k : 0 < d / 1000000) : (decide (d ≤ v) && (v / 1000000 == d / 1000000)) = fitI c d v := by
  simp only [beq_eq_false_iff_ne] at *; unfold fitI; rw [if_neg h0, if_neg h1, if_neg h2, if_neg h, if_pos k]
theorem fit_c2 (c d v : Int) (h0 : (c == 42) = false) (h1 : (c == 61) = false) (h2 : (c == 62) = false) (h : (c == 126) = false) (k : d / 1000000 ≤ 0) (k2 : 0 < d / 1000 % 1000) : (decide (d ≤ v) && (v / 1000 == d / 1000 % 1000)) = fitI c d v := by
  simp only [beq_eq_false_iff_ne] at *; unfold fitI; rw [if_neg h0, if_neg h1, if_neg h2, if_neg h, if_neg (by omega), if_pos k2]
theorem fit_c3 (c d v : Int) (h0 : (c == 42) = false) (h1 : (c == 61) = false) (h2 : (c == 62) = false) (h : (c == 126) = false) (k : d / 1000000 ≤ 0) (k2 : d / 1000 % 1000 ≤ 0) : (v == d) = fitI c d v := by
  simp only [beq_eq_false_iff_ne] at *; unfold fitI; rw [if_neg h0, if_neg h1, if_neg h2, if_neg h, if_neg (by omega), if_neg (by omega)]
theorem and_yes {d v : Int} {b : Bool} (h : d ≤ v) : b = (decide (d ≤ v) && b) := by simp [h]
theorem and_no {d v : Int} {b : Bool} (h : v < d) : false = (decide (d ≤ v) && b) := by
  have : ¬ d ≤ v := by omega
  simp [this]

set_option maxHeartbeats 400000 in
theorem refFits_any (c d v : Int) (w : World) (hd0 : 0 ≤ d) (hd1 : d ≤ 999999999) (hv0 : 0 ≤ v) (hv1 : v ≤ 999999999) :
    Calls Tryd.prog 9 #[.int .u8 c, .int .i64 d, .int .i64 v] w fun e w' => e = .returned (.bool (fitI c d v)) ∧ w' = w := by
  go_enter Tryd.func9, Tryd.ntmps9
  go_wp2
  all_goals go_ret
  · exact ⟨ret_bool (fit_star c d v ‹_›), rfl⟩
  · exact ⟨ret_bool (fit_is c d v ‹_› ‹_›), rfl⟩
  · exact ⟨ret_bool (fit_ge c d v ‹_› ‹_› ‹_›), rfl⟩
  · exact ⟨ret_bool ((and_yes ‹_›).trans (fit_tilde c d v ‹_› ‹_› ‹_› ‹_›)), rfl⟩
  · exact ⟨ret_bool ((and_no ‹_›).trans (fit_tilde c d v ‹_› ‹_› ‹_› ‹_›)), rfl⟩
  · exact ⟨ret_bool ((and_yes ‹_›).trans (fit_c1 c d v ‹_› ‹_› ‹_› ‹_› ‹_›)), rfl⟩
  · exact ⟨ret_bool ((and_no ‹_›).trans (fit_c1 c d v ‹_› ‹_› ‹_› ‹_› ‹_›)), rfl⟩
  · exact ⟨ret_bool ((and_yes ‹_›).trans (fit_c2 c d v ‹_› ‹_› ‹_› ‹_› ‹_› ‹_›)), rfl⟩
  · exact ⟨ret_bool ((and_no ‹_›).trans (fit_c2 c d v ‹_› ‹_› ‹_› ‹_› ‹_› ‹_›)), rfl⟩
  · exact ⟨ret_bool (fit_c3 c d v ‹_› ‹_› ‹_› ‹_› ‹_› ‹_›), rfl⟩

theorem ret_dem {l : List UInt8} {c v : Int} (h : demI l = (c, v)) : Ending.returned (.tuple #[.int .u8 c, .int .i64 v]) = .returned (.tuple #[.int .u8 (demI l).1, .int .i64 (demI l).2]) := by rw [h]

theorem two_bytes (s : ByteArray) (h1 : 1 < s.size) : s.data.toList = s[0] :: s[1] :: s.data.toList.drop 2 := by
  have a := drop_byte s 0 (by omega)
  have b := drop_byte s 1 h1
  rw [List.drop_zero] at a
  exact a.trans (congrArg _ b)
theorem ext1 (s : ByteArray) (h1 : 1 < s.size) : (s.extract 1 s.size).data.toList = s[1] :: s.data.toList.drop 2 := by
  rw [Lib.extract_to_end, drop_byte s 1 h1]
theorem ext2 (s : ByteArray) (_h1 : 1 < s.size) : ((s.extract 1 s.size).extract 1 (s.size - 1)).data.toList = s.data.toList.drop 2 := by
  rw [Lib.extract_data, Lib.extract_to_end, List.drop_drop, List.take_of_length_le (by simp; omega)]
theorem ext1_at (s : ByteArray) (h1 : 1 < s.size) (h : 0 < (s.extract 1 s.size).size) : (s.extract 1 s.size)[0] = s[1] := by
  have a := drop_byte (s.extract 1 s.size) 0 h
  rw [List.drop_zero, ext1 s h1] at a
  exact (List.cons.inj a).1.symm
theorem not_star (s : ByteArray) (h : s.size ≠ 1) : s.data.toList ≠ [42] := by
  intro e; apply h; have := congrArg List.length e; simpa using this
theorem not_eq_of {s : ByteArray} {l : List UInt8} (h : s.data.toList ≠ l) : (s.toList == l) = false := by
  rw [ByteArray.toList_eq]; simpa using h
theorem eq_of {s : ByteArray} {l : List UInt8} (h : s.data.toList = l) : (s.toList == l) = true := by
  rw [ByteArray.toList_eq]; simpa using h
theorem short_none (s : ByteArray) (h : ¬ 2 ≤ s.size) : demRest s.data.toList = none := by
  have hl : s.data.toList.length = s.size := by simp
  match e : s.data.toList, hl with
  | [], _ => rfl
  | [_], _ => rfl
  | _ :: _ :: _, hl => simp at hl; omega

theorem ext_size1 (s : ByteArray) : (s.extract 1 s.size).size ≤ s.size := by simp
theorem ext_size2 (s : ByteArray) : ((s.extract 1 s.size).extract 1 (s.size - 1)).size ≤ s.size := by simp; omega

set_option maxHeartbeats 800000 in
theorem demand_sign (s : ByteArray) (w : World) (h0 : 0 < s.size) (h1 : 1 < s.size) (hst : (s.toList == [42]) = false) (c62 : ¬ (s[0].toNat : Int) = 62)
    (cc : (s[0].toNat : Int) = 61 ∨ (s[0].toNat : Int) = 126 ∨ (s[0].toNat : Int) = 94) (V : Int)
    (HC : Hid (∀ w : World, Calls Tryd.prog 6 #[.string (s.extract 1 s.size)] w fun e w' => e = .returned (.int .i64 V) ∧ Below w.heap.size w w'))
    (HG : Hid (0 ≤ V → demI s.data.toList = ((s[0].toNat : Int), V))) (HB : Hid (V < 0 → demI s.data.toList = (0, 0))) :
    Calls Tryd.prog 7 #[.string s] w fun e w' => e = .returned (.tuple #[.int .u8 (demI s.data.toList).1, .int .i64 (demI s.data.toList).2]) ∧ Below w.heap.size w w' := by
  generalize hx : (s[0].toNat : Int) = x at *
  have h2 : 2 ≤ s.size := h1
  rcases cc with rfl | rfl | rfl
  all_goals by_cases hV : V < 0
  all_goals
    go_enter Tryd.func7, Tryd.ntmps7
    go_wp2_with fail
    refine (HC.out _).mono ?_
    rintro e w' ⟨rfl, hbel⟩
    go_wp2
    go_ret2
    first
      | exact ⟨ret_dem (HB.out hV), hbel⟩
      | exact ⟨ret_dem (HG.out (by omega)), hbel⟩

set_option maxHeartbeats 800000 in
theorem demand_any (s : ByteArray) (w : World) (hs : s.size ≤ 1048576) :
    Calls Tryd.prog 7 #[.string s] w fun e w' => e = .returned (.tuple #[.int .u8 (demI s.data.toList).1, .int .i64 (demI s.data.toList).2]) ∧ Below w.heap.size w w' := by
  by_cases h2 : 2 ≤ s.size
  · have h0 : 0 < s.size := by omega
    have h1 : 1 < s.size := by omega
    have hns := not_star s (by omega)
    have hst := not_eq_of hns
    have HL : Hid (s.data.toList = s[0] :: s[1] :: s.data.toList.drop 2) := two_bytes s h1
    have HN : Hid (s.data.toList ≠ [42]) := hns
    clear hns
    have hxs : 0 < (s.extract 1 s.size).size := by simp; omega
    have hx : Hid ((s.extract 1 s.size)[0] = s[1]) := ext1_at s h1 hxs
    by_cases c62 : (s[0].toNat : Int) = 62
    · by_cases b61 : (s[1].toNat : Int) = 61
      · have hq : (((s.extract 1 s.size)[0].toNat : Int) == 61) = true := by rw [hx.out]; simpa using b61
        have hr : demRest s.data.toList = some (62, s.data.toList.drop 2) := by rw [HL.out]; show (if _ then _ else _) = _; rw [if_pos ⟨c62, b61⟩]; rfl
        have C := fun w => version_any ((s.extract 1 s.size).extract 1 (s.size - 1)) w (by have := ext_size2 s; omega)
        rw [ext2 s h1] at C
        have vb := verI_bd (s.data.toList.drop 2)
        have hg := demI_good _ _ _ HN.out hr
        have hb := demI_bad _ _ _ HN.out hr
        generalize verI (s.data.toList.drop 2) = V at *
        have HC : Hid (∀ w : World, Calls Tryd.prog 6 #[.string ((s.extract 1 s.size).extract 1 (s.size - 1))] w fun e w' => e = .returned (.int .i64 V) ∧ Below w.heap.size w w') := C
        have HG : Hid (0 ≤ V → demI s.data.toList = (62, V)) := hg
        have HB : Hid (V < 0 → demI s.data.toList = (0, 0)) := hb
        obtain ⟨vb1, vb2⟩ := vb
        clear C hg hb hr b61
        by_cases hV : V < 0
        · go_enter Tryd.func7, Tryd.ntmps7
          go_wp2_with fail
          refine (HC.out _).mono ?_
          rintro e w' ⟨rfl, hbel⟩
          go_wp2
          go_ret2
          exact ⟨ret_dem (HB.out hV), hbel⟩
        · go_enter Tryd.func7, Tryd.ntmps7
          go_wp2_with fail
          refine (HC.out _).mono ?_
          rintro e w' ⟨rfl, hbel⟩
          go_wp2
          go_ret2
          exact ⟨ret_dem (HG.out (by omega)), hbel⟩
      · have hq : (((s.extract 1 s.size)[0].toNat : Int) == 61) = false := by rw [hx.out]; simpa using b61
        have HR : Hid (demI s.data.toList = (0, 0)) := demI_none _ HN.out (by
          rw [HL.out]; show (if _ then _ else _) = _; rw [if_neg (by rintro ⟨_, e⟩; exact b61 e), if_neg (by omega)])
        clear b61
        go_enter Tryd.func7, Tryd.ntmps7
        go_wp2
        go_ret2
        exact ⟨ret_dem HR.out, Below.refl _ _⟩
    · by_cases cc : (s[0].toNat : Int) = 61 ∨ (s[0].toNat : Int) = 126 ∨ (s[0].toNat : Int) = 94
      · have hr : demRest s.data.toList = some ((s[0].toNat : Int), s[1] :: s.data.toList.drop 2) := by
          rw [HL.out]; show (if _ then _ else _) = _; rw [if_neg (by rintro ⟨e, _⟩; exact c62 e), if_pos cc]
          rw [← HL.out]
        have C := fun w => version_any (s.extract 1 s.size) w (by have := ext_size1 s; omega)
        rw [ext1 s h1] at C
        have vb := verI_bd (s[1] :: s.data.toList.drop 2)
        have hg := demI_good _ _ _ HN.out hr
        have hb := demI_bad _ _ _ HN.out hr
        generalize verI (s[1] :: s.data.toList.drop 2) = V at *
        have HC : Hid (∀ w : World, Calls Tryd.prog 6 #[.string (s.extract 1 s.size)] w fun e w' => e = .returned (.int .i64 V) ∧ Below w.heap.size w w') := C
        have HG : Hid (0 ≤ V → demI s.data.toList = ((s[0].toNat : Int), V)) := hg
        have HB : Hid (V < 0 → demI s.data.toList = (0, 0)) := hb
        obtain ⟨vb1, vb2⟩ := vb
        clear C hg hb hr
        exact demand_sign s w h0 h1 hst c62 cc V HC HG HB
      · have HR : Hid (demI s.data.toList = (0, 0)) := demI_none _ HN.out (by
          rw [HL.out]; show (if _ then _ else _) = _; rw [if_neg (by rintro ⟨e, _⟩; exact c62 e), if_neg cc])
        have q1 : ((s[0].toNat : Int) != 61) = true := by rw [bne_iff_ne]; omega
        have q2 : ((s[0].toNat : Int) != 126) = true := by rw [bne_iff_ne]; omega
        have q3 : ((s[0].toNat : Int) != 94) = true := by rw [bne_iff_ne]; omega
        clear cc
        go_enter Tryd.func7, Tryd.ntmps7
        go_wp2
        go_ret2
        exact ⟨ret_dem HR.out, Below.refl _ _⟩
  · by_cases h42 : s.data.toList = [42]
    · have hst := eq_of h42
      have HR : Hid (demI s.data.toList = (42, 0)) := by rw [h42]; exact demI_star
      clear h42
      go_enter Tryd.func7, Tryd.ntmps7
      go_wp2
      go_ret2
      exact ⟨ret_dem HR.out, Below.refl _ _⟩
    · have hst := not_eq_of h42
      have HR : Hid (demI s.data.toList = (0, 0)) := demI_none _ h42 (short_none s h2)
      clear h42
      go_enter Tryd.func7, Tryd.ntmps7
      go_wp2
      go_ret2
      exact ⟨ret_dem HR.out, Below.refl _ _⟩

end Go.Proofs.YtnmclolbndohiaaDoor
