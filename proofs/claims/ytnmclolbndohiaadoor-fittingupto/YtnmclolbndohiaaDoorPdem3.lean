/-
  The walk of the code's 'ParseDemand' (11), where a version stands behind a sign.
-/
import Derived.Test.YtnmclolbndohiaaDoorPdem2
namespace Go.Proofs.YtnmclolbndohiaaDoor
open Go.RowKit
open Ver

theorem ends_yes {t0 t1 : TypeId} {p0 p1 : Value} {l : List UInt8} {c V st x0 x1 x2 : Int} (h : demI l = (c, V)) (hc : c ≠ 0) (hs : stOf c V = st) (h0 : V / 1000000 = x0) (h1 : V / 1000 % 1000 = x1) (h2 : V % 1000 = x2) :
    DemEnds t0 t1 p0 p1 l (.returned (.tuple #[.agg #[.int .i64 st, .int .i64 x0, .int .i64 x1, .int .i64 x2], .nilIface])) :=
  Or.inr ⟨by rw [h]; exact hc, by rw [h]; show _ = Ending.returned (.tuple #[.agg #[.int .i64 (stOf c V), .int .i64 (V / 1000000), .int .i64 (V / 1000 % 1000), .int .i64 (V % 1000)], .nilIface]); rw [hs, h0, h1, h2]⟩

theorem pre_is {s : ByteArray} {k : Nat} {l : List UInt8} (h : s.data.toList.take k = l) : ((s.extract 0 k).toList == l) = true := by
  rw [ByteArray.toList_eq, Lib.extract_data]; simpa using h
theorem pre_not {s : ByteArray} {k : Nat} {l : List UInt8} (h : s.data.toList.take k ≠ l) : ((s.extract 0 k).toList == l) = false := by
  rw [ByteArray.toList_eq, Lib.extract_data]; simpa using h

set_option maxHeartbeats 800000 in
set_option maxRecDepth 100000 in
theorem pdem_is (s : ByteArray) (w : World) (t0 t1 : TypeId) (p0 p1 : Value) (m : Int) (_hw : 2 < w.heap.size) (k : Nat) (hk : k ≤ s.size) (_hs : s.size ≤ 1048576) (x0 x1 x2 : Int) (hst : (s.toList == [42]) = false) (q1 : ((s.extract 0 k).toList == [61]) = true)
    (HC : Hid (∀ w : World, Calls Tryd.prog 17 #[.string s, .string figs] w fun e w' => e = .returned (.int .i64 (k : Int)) ∧ Below w.heap.size w w'))
    (HP : Hid (∀ w : World, Glob t0 t1 p0 p1 m w → Calls Tryd.prog 10 #[.string (s.extract k s.size)] w fun e w' => e = .returned (.tuple #[.agg #[.int .i64 x0, .int .i64 x1, .int .i64 x2], .nilIface]) ∧ Below w.heap.size w w'))
    (HD : Hid (DW t0 t1 p0 p1 m w (w.alloc (.cells #[.int .i64 0, .int .i64 0, .int .i64 0, .int .i64 0] 42))))
    (HR : Hid (DemEnds t0 t1 p0 p1 s.data.toList (.returned (.tuple #[.agg #[.int .i64 4, .int .i64 x0, .int .i64 x1, .int .i64 x2], .nilIface])))) :
    Calls Tryd.prog 11 #[.string s] w fun e w' => DemEnds t0 t1 p0 p1 s.data.toList e ∧ Below w.heap.size w w' := by
  have hk0 : (0 : Int) ≤ (k : Int) := by omega
  go_enter Tryd.func11, Tryd.ntmps11
  go_wp2_with fail
  refine (HC.out _).mono ?_
  rintro e w1 ⟨rfl, hb1⟩
  have HD1 : Hid (DW t0 t1 p0 p1 m w w1) := HD.out.on hb1
  clear hb1 HD HC
  go_wp2_with fail
  refine (HP.out _ HD1.out.g).mono ?_
  rintro e w2 ⟨rfl, hb2⟩
  have hd := HD1.out.on hb2
  have HB : Hid (Below w.heap.size w w2) := hd.below
  have hlt := hd.lR
  have f0 := hd.r0
  have f1 := hd.r1
  have f2 := hd.r2
  have f3 := hd.r3
  have f4 := hd.fr
  have f5 := hd.g.c1
  clear hd hb2 HD1 HP
  go_wp2
  exact bodyPost_ret (v := .tuple #[.agg #[.int .i64 4, .int .i64 x0, .int .i64 x1, .int .i64 x2], .nilIface]) (by simp [results, Tryd.results11, go_sem, f0, f1, f2, f3, hlt]) rfl ⟨HR.out, (below4 HB.out _ _ _ _).alloc (by simp; omega) _⟩

set_option maxHeartbeats 800000 in
set_option maxRecDepth 100000 in
theorem pdem_ge (s : ByteArray) (w : World) (t0 t1 : TypeId) (p0 p1 : Value) (m : Int) (_hw : 2 < w.heap.size) (k : Nat) (hk : k ≤ s.size) (_hs : s.size ≤ 1048576) (x0 x1 x2 : Int) (hst : (s.toList == [42]) = false) (q1 : ((s.extract 0 k).toList == [61]) = false) (q2 : ((s.extract 0 k).toList == [62, 61]) = true)
    (HC : Hid (∀ w : World, Calls Tryd.prog 17 #[.string s, .string figs] w fun e w' => e = .returned (.int .i64 (k : Int)) ∧ Below w.heap.size w w'))
    (HP : Hid (∀ w : World, Glob t0 t1 p0 p1 m w → Calls Tryd.prog 10 #[.string (s.extract k s.size)] w fun e w' => e = .returned (.tuple #[.agg #[.int .i64 x0, .int .i64 x1, .int .i64 x2], .nilIface]) ∧ Below w.heap.size w w'))
    (HD : Hid (DW t0 t1 p0 p1 m w (w.alloc (.cells #[.int .i64 0, .int .i64 0, .int .i64 0, .int .i64 0] 42))))
    (HR : Hid (DemEnds t0 t1 p0 p1 s.data.toList (.returned (.tuple #[.agg #[.int .i64 1, .int .i64 x0, .int .i64 x1, .int .i64 x2], .nilIface])))) :
    Calls Tryd.prog 11 #[.string s] w fun e w' => DemEnds t0 t1 p0 p1 s.data.toList e ∧ Below w.heap.size w w' := by
  have hk0 : (0 : Int) ≤ (k : Int) := by omega
  go_enter Tryd.func11, Tryd.ntmps11
  go_wp2_with fail
  refine (HC.out _).mono ?_
  rintro e w1 ⟨rfl, hb1⟩
  have HD1 : Hid (DW t0 t1 p0 p1 m w w1) := HD.out.on hb1
  clear hb1 HD HC
  go_wp2_with fail
  refine (HP.out _ HD1.out.g).mono ?_
  rintro e w2 ⟨rfl, hb2⟩
  have hd := HD1.out.on hb2
  have HB : Hid (Below w.heap.size w w2) := hd.below
  have hlt := hd.lR
  have f0 := hd.r0
  have f1 := hd.r1
  have f2 := hd.r2
  have f3 := hd.r3
  have f4 := hd.fr
  have f5 := hd.g.c1
  clear hd hb2 HD1 HP
  go_wp2
  exact bodyPost_ret (v := .tuple #[.agg #[.int .i64 1, .int .i64 x0, .int .i64 x1, .int .i64 x2], .nilIface]) (by simp [results, Tryd.results11, go_sem, f0, f1, f2, f3, hlt]) rfl ⟨HR.out, (below4 HB.out _ _ _ _).alloc (by simp; omega) _⟩

set_option maxHeartbeats 800000 in
set_option maxRecDepth 100000 in
theorem pdem_tilde (s : ByteArray) (w : World) (t0 t1 : TypeId) (p0 p1 : Value) (m : Int) (_hw : 2 < w.heap.size) (k : Nat) (hk : k ≤ s.size) (_hs : s.size ≤ 1048576) (x0 x1 x2 : Int) (hst : (s.toList == [42]) = false) (q1 : ((s.extract 0 k).toList == [61]) = false) (q2 : ((s.extract 0 k).toList == [62, 61]) = false) (q3 : ((s.extract 0 k).toList == [126]) = true)
    (HC : Hid (∀ w : World, Calls Tryd.prog 17 #[.string s, .string figs] w fun e w' => e = .returned (.int .i64 (k : Int)) ∧ Below w.heap.size w w'))
    (HP : Hid (∀ w : World, Glob t0 t1 p0 p1 m w → Calls Tryd.prog 10 #[.string (s.extract k s.size)] w fun e w' => e = .returned (.tuple #[.agg #[.int .i64 x0, .int .i64 x1, .int .i64 x2], .nilIface]) ∧ Below w.heap.size w w'))
    (HD : Hid (DW t0 t1 p0 p1 m w (w.alloc (.cells #[.int .i64 0, .int .i64 0, .int .i64 0, .int .i64 0] 42))))
    (HR : Hid (DemEnds t0 t1 p0 p1 s.data.toList (.returned (.tuple #[.agg #[.int .i64 3, .int .i64 x0, .int .i64 x1, .int .i64 x2], .nilIface])))) :
    Calls Tryd.prog 11 #[.string s] w fun e w' => DemEnds t0 t1 p0 p1 s.data.toList e ∧ Below w.heap.size w w' := by
  have hk0 : (0 : Int) ≤ (k : Int) := by omega
  go_enter Tryd.func11, Tryd.ntmps11
  go_wp2_with fail
  refine (HC.out _).mono ?_
  rintro e w1 ⟨rfl, hb1⟩
  have HD1 : Hid (DW t0 t1 p0 p1 m w w1) := HD.out.on hb1
  clear hb1 HD HC
  go_wp2_with fail
  refine (HP.out _ HD1.out.g).mono ?_
  rintro e w2 ⟨rfl, hb2⟩
  have hd := HD1.out.on hb2
  have HB : Hid (Below w.heap.size w w2) := hd.below
  have hlt := hd.lR
  have f0 := hd.r0
  have f1 := hd.r1
  have f2 := hd.r2
  have f3 := hd.r3
  have f4 := hd.fr
  have f5 := hd.g.c1
  clear hd hb2 HD1 HP
  go_wp2
  exact bodyPost_ret (v := .tuple #[.agg #[.int .i64 3, .int .i64 x0, .int .i64 x1, .int .i64 x2], .nilIface]) (by simp [results, Tryd.results11, go_sem, f0, f1, f2, f3, hlt]) rfl ⟨HR.out, (below4 HB.out _ _ _ _).alloc (by simp; omega) _⟩

set_option maxHeartbeats 800000 in
set_option maxRecDepth 100000 in
theorem pdem_caret (s : ByteArray) (w : World) (t0 t1 : TypeId) (p0 p1 : Value) (m : Int) (_hw : 2 < w.heap.size) (k : Nat) (hk : k ≤ s.size) (_hs : s.size ≤ 1048576) (x0 x1 x2 : Int) (hst : (s.toList == [42]) = false) (q1 : ((s.extract 0 k).toList == [61]) = false) (q2 : ((s.extract 0 k).toList == [62, 61]) = false) (q3 : ((s.extract 0 k).toList == [126]) = false) (q4 : ((s.extract 0 k).toList == [94]) = true)
    (HC : Hid (∀ w : World, Calls Tryd.prog 17 #[.string s, .string figs] w fun e w' => e = .returned (.int .i64 (k : Int)) ∧ Below w.heap.size w w'))
    (HP : Hid (∀ w : World, Glob t0 t1 p0 p1 m w → Calls Tryd.prog 10 #[.string (s.extract k s.size)] w fun e w' => e = .returned (.tuple #[.agg #[.int .i64 x0, .int .i64 x1, .int .i64 x2], .nilIface]) ∧ Below w.heap.size w w'))
    (HD : Hid (DW t0 t1 p0 p1 m w (w.alloc (.cells #[.int .i64 0, .int .i64 0, .int .i64 0, .int .i64 0] 42))))
    (HR : Hid (DemEnds t0 t1 p0 p1 s.data.toList (.returned (.tuple #[.agg #[.int .i64 (caretI x0 x1), .int .i64 x0, .int .i64 x1, .int .i64 x2], .nilIface])))) :
    Calls Tryd.prog 11 #[.string s] w fun e w' => DemEnds t0 t1 p0 p1 s.data.toList e ∧ Below w.heap.size w w' := by
  have hk0 : (0 : Int) ≤ (k : Int) := by omega
  go_enter Tryd.func11, Tryd.ntmps11
  go_wp2_with fail
  refine (HC.out _).mono ?_
  rintro e w1 ⟨rfl, hb1⟩
  have HD1 : Hid (DW t0 t1 p0 p1 m w w1) := HD.out.on hb1
  clear hb1 HD HC
  go_wp2_with fail
  refine (HP.out _ HD1.out.g).mono ?_
  rintro e w2 ⟨rfl, hb2⟩
  have hd := HD1.out.on hb2
  have HB : Hid (Below w.heap.size w w2) := hd.below
  have hlt := hd.lR
  have f0 := hd.r0
  have f1 := hd.r1
  have f2 := hd.r2
  have f3 := hd.r3
  have f4 := hd.fr
  have f5 := hd.g.c1
  clear hd hb2 HD1 HP
  go_wp2
  go_region_with (go_at_call 18; refine (caret_any _ _ _ _).mono ?_; rintro e w' ⟨rfl, rfl⟩)
  all_goals go_wp2
  all_goals exact bodyPost_ret (v := .tuple #[.agg #[.int .i64 (caretI x0 x1), .int .i64 x0, .int .i64 x1, .int .i64 x2], .nilIface]) (by simp [results, Tryd.results11, go_sem, f0, f1, f2, f3, hlt]) rfl ⟨HR.out, (((below4 HB.out _ _ _ _).alloc (by simp; omega) _).alloc (by simp; omega) _).drew⟩

set_option maxHeartbeats 800000 in
set_option maxRecDepth 100000 in
theorem pdem_nosign (s : ByteArray) (w : World) (t0 t1 : TypeId) (p0 p1 : Value) (m : Int) (_hw : 2 < w.heap.size) (k : Nat) (hk : k ≤ s.size) (_hs : s.size ≤ 1048576) (x0 x1 x2 : Int) (hst : (s.toList == [42]) = false) (q1 : ((s.extract 0 k).toList == [61]) = false) (q2 : ((s.extract 0 k).toList == [62, 61]) = false) (q3 : ((s.extract 0 k).toList == [126]) = false) (q4 : ((s.extract 0 k).toList == [94]) = false)
    (HC : Hid (∀ w : World, Calls Tryd.prog 17 #[.string s, .string figs] w fun e w' => e = .returned (.int .i64 (k : Int)) ∧ Below w.heap.size w w'))
    (HP : Hid (∀ w : World, Glob t0 t1 p0 p1 m w → Calls Tryd.prog 10 #[.string (s.extract k s.size)] w fun e w' => e = .returned (.tuple #[.agg #[.int .i64 x0, .int .i64 x1, .int .i64 x2], .nilIface]) ∧ Below w.heap.size w w'))
    (HD : Hid (DW t0 t1 p0 p1 m w (w.alloc (.cells #[.int .i64 0, .int .i64 0, .int .i64 0, .int .i64 0] 42))))
    (HR : Hid (DemEnds t0 t1 p0 p1 s.data.toList (.returned (.tuple #[.agg #[.int .i64 0, .int .i64 0, .int .i64 0, .int .i64 0], .iface t1 p1])))) :
    Calls Tryd.prog 11 #[.string s] w fun e w' => DemEnds t0 t1 p0 p1 s.data.toList e ∧ Below w.heap.size w w' := by
  have hk0 : (0 : Int) ≤ (k : Int) := by omega
  go_enter Tryd.func11, Tryd.ntmps11
  go_wp2_with fail
  refine (HC.out _).mono ?_
  rintro e w1 ⟨rfl, hb1⟩
  have HD1 : Hid (DW t0 t1 p0 p1 m w w1) := HD.out.on hb1
  clear hb1 HD HC
  go_wp2_with fail
  refine (HP.out _ HD1.out.g).mono ?_
  rintro e w2 ⟨rfl, hb2⟩
  have hd := HD1.out.on hb2
  have HB : Hid (Below w.heap.size w w2) := hd.below
  have hlt := hd.lR
  have f0 := hd.r0
  have f1 := hd.r1
  have f2 := hd.r2
  have f3 := hd.r3
  have f4 := hd.fr
  have f5 := hd.g.c1
  have hl1 : 1 < w2.heap.size := by omega
  have hl2 : ¬ w.heap.size = 1 := by omega
  have f6 : ∀ o : Obj, (w2.alloc o).cell? ⟨1, 0, none⟩ = some (.iface t1 p1) := fun o => (World.cell?_alloc_past _ _ _ hl1).trans f5
  clear hd hb2 HD1 HP
  go_wp2
  go_region
  all_goals (try go_wp2)
  all_goals exact bodyPost_ret (v := .tuple #[.agg #[.int .i64 0, .int .i64 0, .int .i64 0, .int .i64 0], .iface t1 p1]) (by simp [results, Tryd.results11, go_sem, f0, f1, f2, f3, hlt]) rfl ⟨HR.out, ((below4 HB.out _ _ _ _).alloc (by simp; omega) _).drew⟩

theorem st_is (V : Int) : stOf 61 V = 4 := rfl
theorem st_ge (V : Int) : stOf 62 V = 1 := rfl
theorem st_tilde (V : Int) : stOf 126 V = 3 := rfl
theorem st_caret (V : Int) : stOf 94 V = caretI (V / 1000000) (V / 1000 % 1000) := rfl

theorem idx_le (l : List UInt8) (k : Nat) (h : Lib.indexAny l figL = k) : k ≤ l.length := by
  have hb : ∀ l : List UInt8, Lib.indexAny l figL < (l.length : Int) + 1 := by
    intro l
    induction l with
    | nil => simp [Lib.indexAny]
    | cons b l ih =>
      unfold Lib.indexAny
      split
      · simp; omega
      · split
        · simp; omega
        · simp; omega
  have := hb l
  omega

/-- 'ParseDemand' at every text. -/
theorem pdem_any (s : ByteArray) (w : World) (t0 t1 : TypeId) (p0 p1 : Value) (m : Int) (hs : s.size ≤ 1048576) (G : Glob t0 t1 p0 p1 m w) :
    Calls Tryd.prog 11 #[.string s] w fun e w' => DemEnds t0 t1 p0 p1 s.data.toList e ∧ Below w.heap.size w w' := by
  by_cases h42 : s.data.toList = [42]
  · exact pdem_star s w t0 t1 p0 p1 h42
  · by_cases hneg : Lib.indexAny s.data.toList figL < 0
    · exact pdem_nofig s w t0 t1 p0 p1 m hs G h42 _ rfl hneg
    · obtain ⟨k, hi⟩ : ∃ k : Nat, Lib.indexAny s.data.toList figL = k := ⟨(Lib.indexAny s.data.toList figL).toNat, by omega⟩
      have hk : k ≤ s.size := by have := idx_le _ k hi; simpa using this
      by_cases hv : verI (s.data.toList.drop k) < 0
      · exact pdem_nover s w t0 t1 p0 p1 m hs G h42 k hk hi hv
      · have hv' : 0 ≤ verI (s.data.toList.drop k) := by omega
        have hst : (s.toList == [42]) = false := by rw [ByteArray.toList_eq]; simpa using h42
        have HC : Hid (∀ w : World, Calls Tryd.prog 17 #[.string s, .string figs] w fun e w' => e = .returned (.int .i64 (k : Int)) ∧ Below w.heap.size w w') := fun w => figs_at s w hs k hi
        have HD : Hid (DW t0 t1 p0 p1 m w (w.alloc (.cells #[.int .i64 0, .int .i64 0, .int .i64 0, .int .i64 0] 42))) := DW.start G
        have hP := fun (w : World) (G : Glob t0 t1 p0 p1 m w) => parse_yes (s.extract k s.size) t0 t1 p0 p1 m w (by simp; omega) G (by rw [Lib.extract_to_end]; exact hv')
        rw [Lib.extract_to_end] at hP
        have HP : Hid (∀ w : World, Glob t0 t1 p0 p1 m w → Calls Tryd.prog 10 #[.string (s.extract k s.size)] w fun e w' => e = .returned (.tuple #[.agg #[.int .i64 (verI (s.data.toList.drop k) / 1000000), .int .i64 (verI (s.data.toList.drop k) / 1000 % 1000), .int .i64 (verI (s.data.toList.drop k) % 1000)], .nilIface]) ∧ Below w.heap.size w w') := hP
        by_cases e1 : s.data.toList.take k = [61]
        · exact pdem_is s w t0 t1 p0 p1 m G.lt k hk hs _ _ _ hst (pre_is e1) HC HP HD (ends_yes (code_sign _ k 61 h42 hv' (Or.inl ⟨rfl, e1⟩)) (by decide) (st_is _) rfl rfl rfl)
        · by_cases e2 : s.data.toList.take k = [62, 61]
          · exact pdem_ge s w t0 t1 p0 p1 m G.lt k hk hs _ _ _ hst (pre_not e1) (pre_is e2) HC HP HD (ends_yes (code_sign _ k 62 h42 hv' (Or.inr (Or.inl ⟨rfl, e2⟩))) (by decide) (st_ge _) rfl rfl rfl)
          · by_cases e3 : s.data.toList.take k = [126]
            · exact pdem_tilde s w t0 t1 p0 p1 m G.lt k hk hs _ _ _ hst (pre_not e1) (pre_not e2) (pre_is e3) HC HP HD (ends_yes (code_sign _ k 126 h42 hv' (Or.inr (Or.inr (Or.inl ⟨rfl, e3⟩)))) (by decide) (st_tilde _) rfl rfl rfl)
            · by_cases e4 : s.data.toList.take k = [94]
              · exact pdem_caret s w t0 t1 p0 p1 m G.lt k hk hs _ _ _ hst (pre_not e1) (pre_not e2) (pre_not e3) (pre_is e4) HC HP HD (ends_yes (code_sign _ k 94 h42 hv' (Or.inr (Or.inr (Or.inr ⟨rfl, e4⟩)))) (by decide) (st_caret _) rfl rfl rfl)
              · refine pdem_nosign s w t0 t1 p0 p1 m G.lt k hk hs _ _ _ hst (pre_not e1) (pre_not e2) (pre_not e3) (pre_not e4) HC HP HD (ends_no (code_nosign _ k h42 hi ?_))
                rintro c (⟨_, e⟩ | ⟨_, e⟩ | ⟨_, e⟩ | ⟨_, e⟩)
                · exact e1 e
                · exact e2 e
                · exact e3 e
                · exact e4 e

end Go.Proofs.YtnmclolbndohiaaDoor
