/-
  The walk of the code's 'ParseDemand' (11), on.
-/
import Derived.Test.YtnmclolbndohiaaDoorPdem
import Derived.Deep.RegionWith
namespace Go.Proofs.YtnmclolbndohiaaDoor
open Go.RowKit
open Ver

theorem figs_at (s : ByteArray) (w : World) (hs : s.size ≤ 1048576) (i : Int) (hi : Lib.indexAny s.data.toList figL = i) :
    Calls Tryd.prog 17 #[.string s, .string figs] w fun e w' => e = .returned (.int .i64 i) ∧ Below w.heap.size w w' := by
  have := figs_any s w hs
  rw [← hi]; exact this

theorem ends_no {t0 t1 : TypeId} {p0 p1 : Value} {l : List UInt8} (h : demI l = (0, 0)) : DemEnds t0 t1 p0 p1 l (.returned (.tuple #[.agg #[.int .i64 0, .int .i64 0, .int .i64 0, .int .i64 0], .iface t1 p1])) :=
  Or.inl ⟨by rw [h], Or.inr rfl⟩
theorem ends_no0 {t0 t1 : TypeId} {p0 p1 : Value} {l : List UInt8} (h : demI l = (0, 0)) : DemEnds t0 t1 p0 p1 l (.returned (.tuple #[.agg #[.int .i64 0, .int .i64 0, .int .i64 0, .int .i64 0], .iface t0 p0])) :=
  Or.inl ⟨by rw [h], Or.inl rfl⟩

theorem below4 {w w2 : World} (hb : Below w.heap.size w w2) (x0 x1 x2 x3 : Value) : Below w.heap.size w ((((w2.setCell ⟨w.heap.size, 0, none⟩ x0).setCell ⟨w.heap.size, 1, none⟩ x1).setCell ⟨w.heap.size, 2, none⟩ x2).setCell ⟨w.heap.size, 3, none⟩ x3) :=
  (((hb.setCell (Nat.le_refl _) _).setCell (Nat.le_refl _) _).setCell (Nat.le_refl _) _).setCell (Nat.le_refl _) _

set_option maxHeartbeats 800000 in
set_option maxRecDepth 100000 in
theorem pdem_nofig (s : ByteArray) (w : World) (t0 t1 : TypeId) (p0 p1 : Value) (m : Int) (hs : s.size ≤ 1048576) (G : Glob t0 t1 p0 p1 m w) (h : s.data.toList ≠ [42]) (i : Int) (hi : Lib.indexAny s.data.toList figL = i) (hneg : i < 0) :
    Calls Tryd.prog 11 #[.string s] w fun e w' => DemEnds t0 t1 p0 p1 s.data.toList e ∧ Below w.heap.size w w' := by
  have hst : (s.toList == [42]) = false := by rw [ByteArray.toList_eq]; simpa using h
  have HR : Hid (demI s.data.toList = (0, 0)) := code_nofig _ h (by omega)
  have HC : Hid (∀ w : World, Calls Tryd.prog 17 #[.string s, .string figs] w fun e w' => e = .returned (.int .i64 i) ∧ Below w.heap.size w w') := fun w => figs_at s w hs i hi
  have HD : Hid (DW t0 t1 p0 p1 m w (w.alloc (.cells #[.int .i64 0, .int .i64 0, .int .i64 0, .int .i64 0] 42))) := DW.start G
  have hw := G.lt
  clear h hi G
  go_enter Tryd.func11, Tryd.ntmps11
  go_wp2_with fail
  refine (HC.out _).mono ?_
  rintro e w1 ⟨rfl, hb1⟩
  have hd := HD.out.on hb1
  have HB : Hid (Below w.heap.size w w1) := hd.below
  have f0 := hd.r0
  have f1 := hd.r1
  have f2 := hd.r2
  have f3 := hd.r3
  have f4 := hd.fr
  have f5 := hd.g.c1
  clear hd hb1 HD HC
  go_wp2
  go_region
  all_goals (try go_wp2)
  all_goals exact bodyPost_ret (v := .tuple #[.agg #[.int .i64 0, .int .i64 0, .int .i64 0, .int .i64 0], .iface t1 p1]) (by simp [results, Tryd.results11, go_sem, f0, f1, f2, f3]) rfl ⟨ends_no HR.out, (below4 HB.out _ _ _ _).drew⟩

set_option maxHeartbeats 800000 in
set_option maxRecDepth 100000 in
theorem pdem_nover (s : ByteArray) (w : World) (t0 t1 : TypeId) (p0 p1 : Value) (m : Int) (hs : s.size ≤ 1048576) (G : Glob t0 t1 p0 p1 m w) (h : s.data.toList ≠ [42]) (k : Nat) (hk : k ≤ s.size) (hi : Lib.indexAny s.data.toList figL = k) (hv : verI (s.data.toList.drop k) < 0) :
    Calls Tryd.prog 11 #[.string s] w fun e w' => DemEnds t0 t1 p0 p1 s.data.toList e ∧ Below w.heap.size w w' := by
  have hst : (s.toList == [42]) = false := by rw [ByteArray.toList_eq]; simpa using h
  have HR : Hid (demI s.data.toList = (0, 0)) := code_nover _ k h hi hv
  have HC : Hid (∀ w : World, Calls Tryd.prog 17 #[.string s, .string figs] w fun e w' => e = .returned (.int .i64 (k : Int)) ∧ Below w.heap.size w w') := fun w => figs_at s w hs k hi
  have HP : Hid (∀ w : World, Glob t0 t1 p0 p1 m w → Calls Tryd.prog 10 #[.string (s.extract k s.size)] w fun e w' => e = .returned (.tuple #[.agg #[.int .i64 0, .int .i64 0, .int .i64 0], .iface t0 p0]) ∧ Below w.heap.size w w') :=
    fun w G => parse_no _ t0 t1 p0 p1 m w (by simp; omega) G (by rw [Lib.extract_to_end]; exact hv)
  have HD : Hid (DW t0 t1 p0 p1 m w (w.alloc (.cells #[.int .i64 0, .int .i64 0, .int .i64 0, .int .i64 0] 42))) := DW.start G
  have hw := G.lt
  clear h hi hv G
  have hk0 : (0 : Int) ≤ (k : Int) := by omega
  go_enter Tryd.func11, Tryd.ntmps11
  go_wp2_with fail
  refine (HC.out _).mono ?_
  rintro e w1 ⟨rfl, hb1⟩
  have HD1 : Hid (DW t0 t1 p0 p1 m w w1) := HD.out.on hb1
  clear hb1 HD HC
  go_wp2_with fail
  refine (HP.out _ HD1.out.g).mono ?_
  rintro e w2 ⟨rfl, hb2⟩
  have hd := HD1.out.on hb2
  have HB : Hid (Below w.heap.size w w2) := hd.below
  have hlt := hd.lR
  have f0 := hd.r0
  have f1 := hd.r1
  have f2 := hd.r2
  have f3 := hd.r3
  have f4 := hd.fr
  clear hd hb2 HD1 HP
  go_wp2
  exact bodyPost_ret (v := .tuple #[.agg #[.int .i64 0, .int .i64 0, .int .i64 0, .int .i64 0], .iface t0 p0]) (by simp [results, Tryd.results11, go_sem, f0, f1, f2, f3, hlt]) rfl ⟨ends_no0 HR.out, (below4 HB.out _ _ _ _).alloc (by simp; omega) _⟩

end Go.Proofs.YtnmclolbndohiaaDoor
