/-
  The walk of the code's 'ParseDemand' (11), where a version stands behind a sign.
-/
import Derived.Test.YtnmclolbndohiaaGreatDoorT14
import Derived.Test.YtnmclolbndohiaaGreatDoorT03
import Derived.Test.YtnmclolbndohiaaGreatDoorT05
namespace Go.Proofs.YtnmclolbndohiaaGreatDoor
open Go.RowKit
open Ver

theorem ends_yes {t0 t1 : TypeId} {p0 p1 : Value} {l : List UInt8} {c V st x0 x1 x2 : Int} (h : demI l = (c, V)) (hc : c ≠ 0) (hs : stOf c V = st) (h0 : V / 1000000 = x0) (h1 : V / 1000 % 1000 = x1) (h2 : V % 1000 = x2) :
    DemEnds t0 t1 p0 p1 l (.returned (.tuple #[.agg #[.int .i64 st, .int .i64 x0, .int .i64 x1, .int .i64 x2], .nilIface])) :=
  Or.inr ⟨by rw [h]; exact hc, by rw [h]; show _ = Ending.returned (.tuple #[.agg #[.int .i64 (stOf c V), .int .i64 (V / 1000000), .int .i64 (V / 1000 % 1000), .int .i64 (V % 1000)], .nilIface]); rw [hs, h0, h1, h2]⟩

theorem pre_is {s : ByteArray} {k : Nat} {l : List UInt8} (h : s.data.toList.take k = l) : ((s.extract 0 k).toList == l) = true := by
  rw [ByteArray.toList_eq, Lib.extract_data]; simpa using h
theorem pre_not {s : ByteArray} {k : Nat} {l : List UInt8} (h : s.data.toList.take k ≠ l) : ((s.extract 0 k).toList == l) = false := by
  rw [ByteArray.toList_eq, Lib.extract_data]; simpa using h

set_option maxHeartbeats 800000 in
set_option maxRecDepth 100000 in
theorem pdem_is (s : ByteArray) (w : World) (t0 t1 : TypeId) (p0 p1 : Value) (m : Int) (_hw : 16 < w.heap.size) (k : Nat) (hk : k ≤ s.size) (_hs : s.size ≤ 1048576) (x0 x1 x2 : Int) (hst : (s.toList == [42]) = false) (q1 : ((s.extract 0 k).toList == [61]) = true)
    (HC : Hid (∀ w : World, Calls Tryz.prog 47 #[.string s, .string figs] w fun e w' => e = .returned (.int .i64 (k : Int)) ∧ Below w.heap.size w w'))
    (HP : Hid (∀ w : World, Glob t0 t1 p0 p1 m w → Calls Tryz.prog 26 #[.string (s.extract k s.size)] w fun e w' => e = .returned (.tuple #[.agg #[.int .i64 x0, .int .i64 x1, .int .i64 x2], .nilIface]) ∧ Below w.heap.size w w'))
    (HD : Hid (DW t0 t1 p0 p1 m w (w.alloc (.cells #[.int .i64 0, .int .i64 0, .int .i64 0, .int .i64 0] 63))))
    (HR : Hid (DemEnds t0 t1 p0 p1 s.data.toList (.returned (.tuple #[.agg #[.int .i64 4, .int .i64 x0, .int .i64 x1, .int .i64 x2], .nilIface])))) :
    Calls Tryz.prog 27 #[.string s] w fun e w' => DemEnds t0 t1 p0 p1 s.data.toList e ∧ Below w.heap.size w w' := by
  have hk0 : (0 : Int) ≤ (k : Int) := by omega
  go_enter Tryz.func27, Tryz.ntmps27
  go_wp2_with fail
  refine (HC.out _).mono ?_
  rintro e w1 ⟨rfl, hb1⟩
  have HD1 : Hid (DW t0 t1 p0 p1 m w w1) := HD.out.on hb1
  clear hb1 HD HC
  go_wp2_with fail
  refine (HP.out _ HD1.out.g).mono ?_
  rintro e w2 ⟨rfl, hb2⟩
  have hd := HD1.out.on hb2
  have HB : Hid (Below w.heap.size w w2) := hd.below
  have hlt := hd.lR
  have f0 := hd.r0
  have f1 := hd.r1
  have f2 := hd.r2
  have f3 := hd.r3
  have f4 := hd.fr
  have f5 := hd.g.c1
  clear hd hb2 HD1 HP
  go_wp2
  exact bodyPost_ret (v := .tuple #[.agg #[.int .i64 4, .int .i64 x0, .int .i64 x1, .int .i64 x2], .nilIface]) (by simp [results, Tryz.results27, go_sem, f0, f1, f2, f3, hlt]) rfl ⟨HR.out, (below4 HB.out _ _ _ _).alloc (by simp; omega) _⟩

set_option maxHeartbeats 800000 in
set_option maxRecDepth 100000 in
theorem pdem_ge (s : ByteArray) (w : World) (t0 t1 : TypeId) (p0 p1 : Value) (m : Int) (_hw : 16 < w.heap.size) (k : Nat) (hk : k ≤ s.size) (_hs : s.size ≤ 1048576) (x0 x1 x2 : Int) (hst : (s.toList == [42]) = false) (q1 : ((s.extract 0 k).toList == [61]) = false) (q2 : ((s.extract 0 k).toList == [62, 61]) = true)
    (HC : Hid (∀ w : World, Calls Tryz.prog 47 #[.string s, .string figs] w fun e w' => e = .returned (.int .i64 (k : Int)) ∧ Below w.heap.size w w'))
    (HP : Hid (∀ w : World, Glob t0 t1 p0 p1 m w → Calls Tryz.prog 26 #[.string (s.extract k s.size)] w fun e w' => e = .returned (.tuple #[.agg #[.int .i64 x0, .int .i64 x1, .int .i64 x2], .nilIface]) ∧ Below w.heap.size w w'))
    (HD : Hid (DW t0 t1 p0 p1 m w (w.alloc (.cells #[.int .i64 0, .int .i64 0, .int .i64 0, .int .i64 0] 63))))
    (HR : Hid (DemEnds t0 t1 p0 p1 s.data.toList (.returned (.tuple #[.agg #[.int .i64 1, .int .i64 x0, .int .i64 x1, .int .i64 x2], .nilIface])))) :
    Calls Tryz.prog 27 #[.string s] w fun e w' => DemEnds t0 t1 p0 p1 s.data.toList e ∧ Below w.heap.size w w' := by
  have hk0 : (0 : Int) ≤ (k : Int) := by omega
  go_enter Tryz.func27, Tryz.ntmps27
  go_wp2_with fail
  refine (HC.out _).mono ?_
  rintro e w1 ⟨rfl, hb1⟩
  have HD1 : Hid (DW t0 t1 p0 p1 m w w1) := HD.out.on hb1
  clear hb1 HD HC
  go_wp2_with fail
  refine (HP.out _ HD1.out.g).mono ?_
  rintro e w2 ⟨rfl, hb2⟩
  have hd := HD1.out.on hb2
  have HB : Hid (Below w.heap.size w w2) := hd.below
  have hlt := hd.lR
  have f0 := hd.r0
  have f1 := hd.r1
  have f2 := hd.r2
  have f3 := hd.r3
  have f4 := hd.fr
  have f5 := hd.g.c1
  clear hd hb2 HD1 HP
  go_wp2
  exact bodyPost_ret (v := .tuple #[.agg #[.int .i64 1, .int .i64 x0, .int .i64 x1, .int .i64 x2], .nilIface]) (by simp [results, Tryz.results27, go_sem, f0, f1, f2, f3, hlt]) rfl ⟨HR.out, (below4 HB.out _ _ _ _).alloc (by simp; omega) _⟩

set_option maxHeartbeats 800000 in
set_option maxRecDepth 100000 in
theorem pdem_tilde (s : ByteArray) (w : World) (t0 t1 : TypeId) (p0 p1 : Value) (m : Int) (_hw : 16 < w.heap.size) (k : Nat) (hk : k ≤ s.size) (_hs : s.size ≤ 1048576) (x0 x1 x2 : Int) (hst : (s.toList == [42]) = false) (q1 : ((s.extract 0 k).toList == [61]) = false) (q2 : ((s.extract 0 k).toList == [62, 61]) = false) (q3 : ((s.extract 0 k).toList == [126]) = true)
    (HC : Hid (∀ w : World, Calls Tryz.prog 47 #[.string s, .string figs] w fun e w' => e = .returned (.int .i64 (k : Int)) ∧ Below w.heap.size w w'))
    (HP : Hid (∀ w : World, Glob t0 t1 p0 p1 m w → Calls Tryz.prog 26 #[.string (s.extract k s.size)] w fun e w' => e = .returned (.tuple #[.agg #[.int .i64 x0, .int .i64 x1, .int .i64 x2], .nilIface]) ∧ Below w.heap.size w w'))
    (HD : Hid (DW t0 t1 p0 p1 m w (w.alloc (.cells #[.int .i64 0, .int .i64 0, .int .i64 0, .int .i64 0] 63))))
    (HR : Hid (DemEnds t0 t1 p0 p1 s.data.toList (.returned (.tuple #[.agg #[.int .i64 3, .int .i64 x0, .int .i64 x1, .int .i64 x2], .nilIface])))) :
    Calls Tryz.prog 27 #[.string s] w fun e w' => DemEnds t0 t1 p0 p1 s.data.toList e ∧ Below w.heap.size w w' := by
  have hk0 : (0 : Int) ≤ (k : Int) := by omega
  go_enter Tryz.func27, Tryz.ntmps27
  go_wp2_with fail
  refine (HC.out _).mono ?_
  rintro e w1 ⟨rfl, hb1⟩
  have HD1 : Hid (DW t0 t1 p0 p1 m w w1) := HD.out.on hb1
  clear hb1 HD HC
  go_wp2_with fail
  refine (HP.out _ HD1.out.g).mono ?_
  rintro e w2 ⟨rfl, hb2⟩
  have hd := HD1.out.on hb2
  have HB : Hid (Below w.heap.size w w2) := hd.below
  have hlt := hd.lR
  have f0 := hd.r0
  have f1 := hd.r1
  have f2 := hd.r2
  have f3 := hd.r3
  have f4 := hd.fr
  have f5 := hd.g.c1
  clear hd hb2 HD1 HP
  go_wp2
  exact bodyPost_ret (v := .tuple #[.agg #[.int .i64 3, .int .i64 x0, .int .i64 x1, .int .i64 x2], .nilIface]) (by simp [results, Tryz.results27, go_sem, f0, f1, f2, f3, hlt]) rfl ⟨HR.out, (below4 HB.out _ _ _ _).alloc (by simp; omega) _⟩

set_option maxHeartbeats 800000 in
set_option maxRecDepth 100000 in
theorem pdem_caret (s : ByteArray) (w : World) (t0 t1 : TypeId) (p0 p1 : Value) (m : Int) (_hw : 16 < w.heap.size) (k : Nat) (hk : k ≤ s.size) (_hs : s.size ≤ 1048576) (x0 x1 x2 : Int) (hst : (s.toList == [42]) = false) (q1 : ((s.extract 0 k).toList == [61]) = false) (q2 : ((s.extract 0 k).toList == [62, 61]) = false) (q3 : ((s.extract 0 k).toList == [126]) = false) (q4 : ((s.extract 0 k).toList == [94]) = true)
    (HC : Hid (∀ w : World, Calls Tryz.prog 47 #[.string s, .string figs] w fun e w' => e = .returned (.int .i64 (k : Int)) ∧ Below w.heap.size w w'))
    (HP : Hid (∀ w : World, Glob t0 t1 p0 p1 m w → Calls Tryz.prog 26 #[.string (s.extract k s.size)] w fun e w' => e = .returned (.tuple #[.agg #[.int .i64 x0, .int .i64 x1, .int .i64 x2], .nilIface]) ∧ Below w.heap.size w w'))
    (HD : Hid (DW t0 t1 p0 p1 m w (w.alloc (.cells #[.int .i64 0, .int .i64 0, .int .i64 0, .int .i64 0] 63))))
    (HR : Hid (DemEnds t0 t1 p0 p1 s.data.toList (.returned (.tuple #[.agg #[.int .i64 (caretI x0 x1), .int .i64 x0, .int .i64 x1, .int .i64 x2], .nilIface])))) :
    Calls Tryz.prog 27 #[.string s] w fun e w' => DemEnds t0 t1 p0 p1 s.data.toList e ∧ Below w.heap.size w w' := by
  have hk0 : (0 : Int) ≤ (k : Int) := by omega
  go_enter Tryz.func27, Tryz.ntmps27
  go_wp2_with fail
  refine (HC.out _).mono ?_
  rintro e w1 ⟨rfl, hb1⟩
  have HD1 : Hid (DW t0 t1 p0 p1 m w w1) := HD.out.on hb1
  clear hb1 HD HC
  go_wp2_with fail
  refine (HP.out _ HD1.out.g).mono ?_
  rintro e w2 ⟨rfl, hb2⟩
  have hd := HD1.out.on hb2
  have HB : Hid (Below w.heap.size w w2) := hd.below
  have hlt := hd.lR
  have f0 := hd.r0
  have f1 := hd.r1
  have f2 := hd.r2
  have f3 := hd.r3
  have f4 := hd.fr
  have f5 := hd.g.c1
  clear hd hb2 HD1 HP
  go_wp2
  go_region_with (go_at_call 48; refine (caret_any _ _ _ _).mono ?_; rintro e w' ⟨rfl, rfl⟩)
  all_goals go_wp2
  all_goals exact bodyPost_ret (v := .tuple #[.agg #[.int .i64 (caretI x0 x1), .int .i64 x0, .int .i64 x1, .int .i64 x2], .nilIface]) (by simp [results, Tryz.results27, go_sem, f0, f1, f2, f3, hlt]) rfl ⟨HR.out, (((below4 HB.out _ _ _ _).alloc (by simp; omega) _).alloc (by simp; omega) _).drew⟩

set_option maxHeartbeats 800000 in
set_option maxRecDepth 100000 in
theorem pdem_nosign (s : ByteArray) (w : World) (t0 t1 : TypeId) (p0 p1 : Value) (m : Int) (_hw : 16 < w.heap.size) (k : Nat) (hk : k ≤ s.size) (_hs : s.size ≤ 1048576) (x0 x1 x2 : Int) (hst : (s.toList == [42]) = false) (q1 : ((s.extract 0 k).toList == [61]) = false) (q2 : ((s.extract 0 k).toList == [62, 61]) = false) (q3 : ((s.extract 0 k).toList == [126]) = false) (q4 : ((s.extract 0 k).toList == [94]) = false)
    (HC : Hid (∀ w : World, Calls Tryz.prog 47 #[.string s, .string figs] w fun e w' => e = .returned (.int .i64 (k : Int)) ∧ Below w.heap.size w w'))
    (HP : Hid (∀ w : World, Glob t0 t1 p0 p1 m w → Calls Tryz.prog 26 #[.string (s.extract k s.size)] w fun e w' => e = .returned (.tuple #[.agg #[.int .i64 x0, .int .i64 x1, .int .i64 x2], .nilIface]) ∧ Below w.heap.size w w'))
    (HD : Hid (DW t0 t1 p0 p1 m w (w.alloc (.cells #[.int .i64 0, .int .i64 0, .int .i64 0, .int .i64 0] 63))))
    (HR : Hid (DemEnds t0 t1 p0 p1 s.data.toList (.returned (.tuple #[.agg #[.int .i64 0, .int .i64 0, .int .i64 0, .int .i64 0], .iface t1 p1])))) :
    Calls Tryz.prog 27 #[.string s] w fun e w' => DemEnds t0 t1 p0 p1 s.data.toList e ∧ Below w.heap.size w w' := by
  have hk0 : (0 : Int) ≤ (k : Int) := by omega
  go_enter Tryz.func27, Tryz.ntmps27
  go_wp2_with fail
  refine (HC.out _).mono ?_
  rintro e w1 ⟨rfl, hb1⟩
  have HD1 : Hid (DW t0 t1 p0 p1 m w w1) := HD.out.on hb1
  clear hb1 HD HC
  go_wp2_with fail
  refine (HP.out _ HD1.out.g).mono ?_
  rintro e w2 ⟨rfl, hb2⟩
  have hd := HD1.out.on hb2
  have HB : Hid (Below w.heap.size w w2) := hd.below
  have hlt := hd.lR
  have f0 := hd.r0
  have f1 := hd.r1
  have f2 := hd.r2
  have f3 := hd.r3
  have f4 := hd.fr
  have f5 := hd.g.c1
  have hl1 : 1 < w2.heap.size := by omega
  have hl2 : ¬ w.heap.size = 1 := by omega
  have f6 : ∀ o : Obj, (w2.alloc o).cell? ⟨1, 0, none⟩ = some (.iface t1 p1) := fun o => (World.cell?_alloc_past _ _ _ hl1).trans f5
  clear hd hb2 HD1 HP
  go_wp2
  go_region
  all_goals (try go_wp2)
  all_goals exact bodyPost_ret (v := .tuple #[.agg #[.int .i64 0, .int .i64 0, .int .i64 0, .int .i64 0], .iface t1 p1]) (by simp [results, Tryz.results27, go_sem, f0, f1, f2, f3, hlt]) rfl ⟨HR.out, ((below4 HB.out _ _ _ _).alloc (by simp; omega) _).drew⟩

theorem st_is (V : Int) : stOf 61 V = 4 := rfl
theorem st_ge (V : Int) : stOf 62 V = 1 := rfl
theorem st_tilde (V : Int) : stOf 126 V = 3 := rfl
theorem st_caret (V : Int) : stOf 94 V = caretI (V / 1000000) (V / 1000 % 1000) := rfl

theorem idx_le (l : List UInt8) (k : Nat) (h : Lib.indexAny l figL = k) : k ≤ l.length := by
  have hb : ∀ l : List UInt8, Lib.indexAny l figL < (l.length : Int) + 1 := by
    intro l
    induction l with
    | nil => simp [Lib.indexAny]
    | cons b l ih =>
      unfold Lib.indexAny
      split
      · simp; omega
      · split
        · simp; omega
        · simp; omega
  have := hb l
  omega

/-- 'ParseDemand' at every text. -/
theorem pdem_any (s : ByteArray) (w : World) (t0 t1 : TypeId) (p0 p1 : Value) (m : Int) (hs : s.size ≤ 1048576) (G : Glob t0 t1 p0 p1 m w) :
    Calls Tryz.prog 27 #[.string s] w fun e w' => DemEnds t0 t1 p0 p1 s.data.toList e ∧ Below w.heap.size w w' := by
  by_cases h42 : s.data.toList = [42]
  · exact pdem_star s w t0 t1 p0 p1 h42
  · by_cases hneg : Lib.indexAny s.data.toList figL < 0
    · exact pdem_nofig s w t0 t1 p0 p1 m hs G h42 _ rfl hneg
    · obtain ⟨k, hi⟩ : ∃ k : Nat, Lib.indexAny s.data.toList figL = k := ⟨(Lib.indexAny s.data.toList figL).toNat, by omega⟩
      have hk : k ≤ s.size := by have := idx_le _ k hi; simpa using this
      by_cases hv : verI (s.data.toList.drop k) < 0
      · exact pdem_nover s w t0 t1 p0 p1 m hs G h42 k hk hi hv
      · have hv' : 0 ≤ verI (s.data.toList.drop k) := by omega
        have hst : (s.toList == [42]) = false := by rw [ByteArray.toList_eq]; simpa using h42
        have HC : Hid (∀ w : World, Calls Tryz.prog 47 #[.string s, .string figs] w fun e w' => e = .returned (.int .i64 (k : Int)) ∧ Below w.heap.size w w') := fun w => figs_at s w hs k hi
        have HD : Hid (DW t0 t1 p0 p1 m w (w.alloc (.cells #[.int .i64 0, .int .i64 0, .int .i64 0, .int .i64 0] 63))) := DW.start G
        have hP := fun (w : World) (G : Glob t0 t1 p0 p1 m w) => parse_yes (s.extract k s.size) t0 t1 p0 p1 m w (by simp; omega) G (by rw [Lib.extract_to_end]; exact hv')
        rw [Lib.extract_to_end] at hP
        have HP : Hid (∀ w : World, Glob t0 t1 p0 p1 m w → Calls Tryz.prog 26 #[.string (s.extract k s.size)] w fun e w' => e = .returned (.tuple #[.agg #[.int .i64 (verI (s.data.toList.drop k) / 1000000), .int .i64 (verI (s.data.toList.drop k) / 1000 % 1000), .int .i64 (verI (s.data.toList.drop k) % 1000)], .nilIface]) ∧ Below w.heap.size w w') := hP
        by_cases e1 : s.data.toList.take k = [61]
        · exact pdem_is s w t0 t1 p0 p1 m G.lt k hk hs _ _ _ hst (pre_is e1) HC HP HD (ends_yes (code_sign _ k 61 h42 hv' (Or.inl ⟨rfl, e1⟩)) (by decide) (st_is _) rfl rfl rfl)
        · by_cases e2 : s.data.toList.take k = [62, 61]
          · exact pdem_ge s w t0 t1 p0 p1 m G.lt k hk hs _ _ _ hst (pre_not e1) (pre_is e2) HC HP HD (ends_yes (code_sign _ k 62 h42 hv' (Or.inr (Or.inl ⟨rfl, e2⟩))) (by decide) (st_ge _) rfl rfl rfl)
          · by_cases e3 : s.data.toList.take k = [126]
            · exact pdem_tilde s w t0 t1 p0 p1 m G.lt k hk hs _ _ _ hst (pre_not e1) (pre_not e2) (pre_is e3) HC HP HD (ends_yes (code_sign _ k 126 h42 hv' (Or.inr (Or.inr (Or.inl ⟨rfl, e3⟩)))) (by decide) (st_tilde _) rfl rfl rfl)
            · by_cases e4 : s.data.toList.take k = [94]
              · exact pdem_caret s w t0 t1 p0 p1 m G.lt k hk hs _ _ _ hst (pre_not e1) (pre_not e2) (pre_not e3) (pre_is e4) HC HP HD (ends_yes (code_sign _ k 94 h42 hv' (Or.inr (Or.inr (Or.inr ⟨rfl, e4⟩)))) (by decide) (st_caret _) rfl rfl rfl)
              · refine pdem_nosign s w t0 t1 p0 p1 m G.lt k hk hs _ _ _ hst (pre_not e1) (pre_not e2) (pre_not e3) (pre_not e4) HC HP HD (ends_no (code_nosign _ k h42 hi ?_))
                rintro c (⟨_, e⟩ | ⟨_, e⟩ | ⟨_, e⟩ | ⟨_, e⟩)
                · exact e1 e
                · exact e2 e
                · exact e3 e
                · exact e4 e

end Go.Proofs.YtnmclolbndohiaaGreatDoor

/-
  The walks of the code's 'Fits' (5), of the statement's 'fits' (4) and of 'Fitting' (3).
-/
namespace Go.Proofs.YtnmclolbndohiaaGreatDoor
open Go.RowKit
open Ver

theorem cmp_lt (d v : Int) :
    cmp3 (v / 1000000) (v / 1000 % 1000) (v % 1000) (d / 1000000) (d / 1000 % 1000) (d % 1000) < 0 ↔ v < d := by
  unfold cmp3 cmpI
  by_cases h0 : v / 1000000 = d / 1000000
  · rw [if_pos h0]
    by_cases h1 : v / 1000 % 1000 = d / 1000 % 1000
    · rw [if_pos h1]
      by_cases h2 : v % 1000 < d % 1000
      · rw [if_pos h2]; constructor <;> intro <;> omega
      · rw [if_neg h2]; split <;> constructor <;> intro <;> omega
    · rw [if_neg h1]
      by_cases h2 : v / 1000 % 1000 < d / 1000 % 1000
      · rw [if_pos h2]; constructor <;> intro <;> omega
      · rw [if_neg h2]; split <;> constructor <;> intro <;> omega
  · rw [if_neg h0]
    by_cases h2 : v / 1000000 < d / 1000000
    · rw [if_pos h2]; constructor <;> intro <;> omega
    · rw [if_neg h2]; split <;> constructor <;> intro <;> omega

theorem fitC_iff (st f0 f1 f2 v0 v1 v2 : Int) : fitC st f0 f1 f2 v0 v1 v2 = true ↔
    (st = 4 → v2 = f2) ∧ (st = 4 ∨ st = 3 → v1 = f1) ∧ (st = 4 ∨ st = 3 ∨ st = 2 → v0 = f0) ∧ (st = 4 ∨ st = 3 ∨ st = 2 ∨ st = 1 → ¬ cmp3 v0 v1 v2 f0 f1 f2 < 0) := by
  unfold fitC
  generalize cmp3 v0 v1 v2 f0 f1 f2 = C
  by_cases h1 : st = 4 ∧ v2 ≠ f2
  · rw [if_pos h1]; constructor
    · intro h; cases h
    · intro h; omega
  · rw [if_neg h1]
    by_cases h2 : (st = 4 ∨ st = 3) ∧ v1 ≠ f1
    · rw [if_pos h2]; constructor
      · intro h; cases h
      · intro h; omega
    · rw [if_neg h2]
      by_cases h3 : (st = 4 ∨ st = 3 ∨ st = 2) ∧ v0 ≠ f0
      · rw [if_pos h3]; constructor
        · intro h; cases h
        · intro h; omega
      · rw [if_neg h3]
        by_cases h4 : (st = 4 ∨ st = 3 ∨ st = 2 ∨ st = 1) ∧ C < 0
        · rw [if_pos h4]; constructor
          · intro h; cases h
          · intro h; omega
        · rw [if_neg h4]; constructor
          · intro _; omega
          · intro _; rfl

/-- The cases that fall through tell what the reference tells. -/
theorem fit_same (c d v : Int) (hc : c = 42 ∨ c = 61 ∨ c = 62 ∨ c = 126 ∨ c = 94) (hd0 : 0 ≤ d) (hv0 : 0 ≤ v) :
    fitC (stOf c d) (d / 1000000) (d / 1000 % 1000) (d % 1000) (v / 1000000) (v / 1000 % 1000) (v % 1000) = fitI c d v := by
  rw [Bool.eq_iff_iff, fitC_iff, cmp_lt]
  rcases hc with rfl | rfl | rfl | rfl | rfl
  · have : stOf 42 d = 0 := rfl
    have e : fitI 42 d v = true := rfl
    rw [this, e]; simp
  · have e : fitI 61 d v = (v == d) := rfl
    rw [st_is, e, beq_iff_eq]; simp only [true_or, true_implies]; omega
  · have e : fitI 62 d v = decide (d ≤ v) := rfl
    rw [st_ge, e, decide_eq_true_iff]
    have n4 : ¬ (1 : Int) = 4 := by decide
    have n3 : ¬ (1 : Int) = 3 := by decide
    have n2 : ¬ (1 : Int) = 2 := by decide
    simp only [n4, n3, n2, false_or, or_false, false_implies, true_implies, true_and]; omega
  · have e : fitI 126 d v = (decide (d ≤ v) && (v / 1000 == d / 1000)) := rfl
    rw [st_tilde, e, Bool.and_eq_true, decide_eq_true_iff, beq_iff_eq]
    have n4 : ¬ (3 : Int) = 4 := by decide
    simp only [n4, or_true, true_or, false_implies, true_implies, true_and]; omega
  · rw [st_caret]
    have e : fitI 94 d v = if 0 < d / 1000000 then decide (d ≤ v) && (v / 1000000 == d / 1000000) else if 0 < d / 1000 % 1000 then decide (d ≤ v) && (v / 1000 == d / 1000 % 1000) else v == d := rfl
    rw [e]
    by_cases h0 : d / 1000000 = 0
    · rw [if_neg (show ¬ 0 < d / 1000000 by omega)]
      by_cases h1 : d / 1000 % 1000 = 0
      · have hc : caretI (d / 1000000) (d / 1000 % 1000) = 4 := by unfold caretI; rw [if_pos h0, if_pos h1]
        rw [hc, if_neg (show ¬ 0 < d / 1000 % 1000 by omega), beq_iff_eq]
        simp only [true_or, true_implies]; omega
      · have hc : caretI (d / 1000000) (d / 1000 % 1000) = 3 := by unfold caretI; rw [if_pos h0, if_neg h1]
        rw [hc, if_pos (show 0 < d / 1000 % 1000 by omega), Bool.and_eq_true, decide_eq_true_iff, beq_iff_eq]
        have n4 : ¬ (3 : Int) = 4 := by decide
        simp only [n4, or_true, true_or, false_implies, true_implies, true_and]; omega
    · have hc : caretI (d / 1000000) (d / 1000 % 1000) = 2 := by unfold caretI; rw [if_neg h0]
      rw [hc, if_pos (show 0 < d / 1000000 by omega), Bool.and_eq_true, decide_eq_true_iff, beq_iff_eq]
      have n4 : ¬ (2 : Int) = 4 := by decide
      have n3 : ¬ (2 : Int) = 3 := by decide
      simp only [n4, n3, false_or, or_true, true_or, false_implies, true_implies, true_and]; omega

/-- What 'Fits' comes to. -/
def fitsRes (a b : List UInt8) : Ending :=
  if verI a < 0 ∨ (demI b).1 = 0 then .returned (.tuple #[.bool false, .int .i64 2])
  else .returned (.tuple #[.bool (fitI (demI b).1 (demI b).2 (verI a)), .int .i64 0])

set_option maxHeartbeats 800000 in
set_option maxRecDepth 100000 in
theorem codeFits_any (a b : ByteArray) (w : World) (t0 t1 : TypeId) (p0 p1 : Value) (m : Int) (ha : a.size ≤ 1048576) (hb : b.size ≤ 1048576) (G : Glob t0 t1 p0 p1 m w) :
    Calls Tryz.prog 15 #[.string a, .string b] w fun e w' => e = fitsRes a.data.toList b.data.toList ∧ Below w.heap.size w w' := by
  by_cases hv : verI a.data.toList < 0
  · have C := parse_no a t0 t1 p0 p1 m w ha G hv
    have HR : Hid (Ending.returned (.tuple #[.bool false, .int .i64 2]) = fitsRes a.data.toList b.data.toList) := by show _ = _; unfold fitsRes; rw [if_pos (Or.inl hv)]
    have HC : Hid (Calls Tryz.prog 26 #[.string a] w fun e w' => e = .returned (.tuple #[.agg #[.int .i64 0, .int .i64 0, .int .i64 0], .iface t0 p0]) ∧ Below w.heap.size w w') := C
    clear C hv G
    go_enter Tryz.func15, Tryz.ntmps15
    go_wp2_with fail
    refine HC.out.mono ?_
    rintro e w1 ⟨rfl, hb1⟩
    go_wp2
    go_ret2
    exact ⟨HR.out, hb1.alloc hb1.size _⟩
  · have hv' : 0 ≤ verI a.data.toList := by omega
    have C := parse_yes a t0 t1 p0 p1 m w ha G hv'
    obtain ⟨x0, e0⟩ : ∃ x, verI a.data.toList / 1000000 = x := ⟨_, rfl⟩
    obtain ⟨x1, e1⟩ : ∃ x, verI a.data.toList / 1000 % 1000 = x := ⟨_, rfl⟩
    obtain ⟨x2, e2⟩ : ∃ x, verI a.data.toList % 1000 = x := ⟨_, rfl⟩
    rw [e0, e1, e2] at C
    have HC : Hid (Calls Tryz.prog 26 #[.string a] w fun e w' => e = .returned (.tuple #[.agg #[.int .i64 x0, .int .i64 x1, .int .i64 x2], .nilIface]) ∧ Below w.heap.size w w') := C
    have HG : Hid (Glob t0 t1 p0 p1 m w) := G
    have HE : Hid (verI a.data.toList / 1000000 = x0 ∧ verI a.data.toList / 1000 % 1000 = x1 ∧ verI a.data.toList % 1000 = x2) := ⟨e0, e1, e2⟩
    have HV : Hid (0 ≤ verI a.data.toList) := hv'
    have hw := G.lt
    clear C G e0 e1 e2 hv hv'
    go_enter Tryz.func15, Tryz.ntmps15
    go_wp2_with fail
    refine HC.out.mono ?_
    rintro e w1 ⟨rfl, hb1⟩
    have HB1 : Hid (Below w.heap.size w w1) := hb1
    have hz1 := hb1.size
    clear hb1 HC
    have HB2 : Hid (Below w.heap.size w (w1.alloc (.cells #[.int .i64 x0, .int .i64 x1, .int .i64 x2] 56))) := HB1.out.alloc hz1 _
    have HP : Hid (Calls Tryz.prog 27 #[.string b] (w1.alloc (.cells #[.int .i64 x0, .int .i64 x1, .int .i64 x2] 56)) fun e w' => DemEnds t0 t1 p0 p1 b.data.toList e ∧ Below (w1.heap.size + 1) (w1.alloc (.cells #[.int .i64 x0, .int .i64 x1, .int .i64 x2] 56)) w') := by
      have := pdem_any b (w1.alloc (.cells #[.int .i64 x0, .int .i64 x1, .int .i64 x2] 56)) t0 t1 p0 p1 m hb (HG.out.on HB2.out hw)
      rw [World.size_alloc] at this; exact this
    clear HG HB1
    go_wp2_with fail
    refine HP.out.mono ?_
    rintro e w2 ⟨hend, hb2⟩
    have g0 : w2.cell? ⟨w1.heap.size, 0, none⟩ = some (.int .i64 x0) := (hb2.cell (p := ⟨w1.heap.size, 0, none⟩) (by show w1.heap.size < _; omega)).trans ((World.cell?_alloc_at _ _ _ _ rfl).trans rfl)
    have g1 : w2.cell? ⟨w1.heap.size, 1, none⟩ = some (.int .i64 x1) := (hb2.cell (p := ⟨w1.heap.size, 1, none⟩) (by show w1.heap.size < _; omega)).trans ((World.cell?_alloc_at _ _ _ _ rfl).trans rfl)
    have g2 : w2.cell? ⟨w1.heap.size, 2, none⟩ = some (.int .i64 x2) := (hb2.cell (p := ⟨w1.heap.size, 2, none⟩) (by show w1.heap.size < _; omega)).trans ((World.cell?_alloc_at _ _ _ _ rfl).trans rfl)
    have hz2 : w1.heap.size < w2.heap.size := by have := hb2.size; simp at this; omega
    have HB3 : Hid (Below w.heap.size w w2) := HB2.out.trans (hb2.mono (by omega))
    clear hb2 HB2 HP
    rcases hend with ⟨hc, he⟩ | ⟨hc, he⟩
    · have HR : Hid (Ending.returned (.tuple #[.bool false, .int .i64 2]) = fitsRes a.data.toList b.data.toList) := by show _ = _; unfold fitsRes; rw [if_pos (Or.inr hc)]
      clear hc
      rcases he with rfl | rfl
      all_goals
        go_wp2
        go_ret2
        exact ⟨HR.out, HB3.out.alloc (by omega) _⟩
    · have hsg := demI_sign b.data.toList
      have hcc : (demI b.data.toList).1 = 42 ∨ (demI b.data.toList).1 = 61 ∨ (demI b.data.toList).1 = 62 ∨ (demI b.data.toList).1 = 126 ∨ (demI b.data.toList).1 = 94 := by
        rcases hsg with h | h | h
        · rw [h] at hc; exact absurd rfl hc
        · rw [h]; exact Or.inl rfl
        · exact Or.inr h.1
      have hd0 : 0 ≤ (demI b.data.toList).2 := by
        rcases hsg with h | h | h
        · rw [h]; exact Int.le_refl _
        · rw [h]; exact Int.le_refl _
        · exact h.2.1
      have hsame := fit_same _ _ _ hcc hd0 HV.out
      have hres : Ending.returned (.tuple #[.bool (fitI (demI b.data.toList).1 (demI b.data.toList).2 (verI a.data.toList)), .int .i64 0]) = fitsRes a.data.toList b.data.toList := by
        unfold fitsRes; rw [if_neg (by rintro (h | h); have := HV.out; omega; exact hc h)]
      have hst : stOf (demI b.data.toList).1 (demI b.data.toList).2 = 0 ∨ stOf (demI b.data.toList).1 (demI b.data.toList).2 = 1 ∨ stOf (demI b.data.toList).1 (demI b.data.toList).2 = 2 ∨ stOf (demI b.data.toList).1 (demI b.data.toList).2 = 3 ∨ stOf (demI b.data.toList).1 (demI b.data.toList).2 = 4 := by
        unfold stOf caretI
        repeat' split
        all_goals omega
      rw [HE.out.1, HE.out.2.1, HE.out.2.2] at hsame
      obtain ⟨st, est⟩ : ∃ x, stOf (demI b.data.toList).1 (demI b.data.toList).2 = x := ⟨_, rfl⟩
      obtain ⟨y0, ey0⟩ : ∃ x, (demI b.data.toList).2 / 1000000 = x := ⟨_, rfl⟩
      obtain ⟨y1, ey1⟩ : ∃ x, (demI b.data.toList).2 / 1000 % 1000 = x := ⟨_, rfl⟩
      obtain ⟨y2, ey2⟩ : ∃ x, (demI b.data.toList).2 % 1000 = x := ⟨_, rfl⟩
      rw [est, ey0, ey1, ey2] at he hsame
      rw [est] at hst
      rw [← hsame] at hres
      have HR : Hid (Ending.returned (.tuple #[.bool (fitC st y0 y1 y2 x0 x1 x2), .int .i64 0]) = fitsRes a.data.toList b.data.toList) := hres
      have HF : Hid (∀ w : World, Calls Tryz.prog 28 #[.agg #[.int .i64 st, .int .i64 y0, .int .i64 y1, .int .i64 y2], .agg #[.int .i64 x0, .int .i64 x1, .int .i64 x2]] w fun e w' => e = .returned (.bool (fitC st y0 y1 y2 x0 x1 x2)) ∧ Below w.heap.size w w') := fun w => fits_any st y0 y1 y2 x0 x1 x2 hst w
      clear hc hsg hcc hd0 hsame hres hst est ey0 ey1 ey2 HE HV
      subst he
      go_wp2_with fail
      refine (HF.out _).mono ?_
      rintro e w3 ⟨rfl, hb3⟩
      go_wp2
      go_ret2
      exact ⟨HR.out, (HB3.out.alloc (by omega) _).trans (hb3.mono (by simp; omega))⟩

end Go.Proofs.YtnmclolbndohiaaGreatDoor
