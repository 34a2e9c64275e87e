/-
  The walks of the code's 'Parse' (10) at every text, and of 'ParseDemand' (11).
-/
import Derived.Test.YtnmclolbndohiaaDoorParse
import Derived.Test.YtnmclolbndohiaaDoorSign
import Derived.Test.YtnmclolbndohiaaDoorCmp
namespace Go.Proofs.YtnmclolbndohiaaDoor
open Go.RowKit
open Ver

/-- The package-level variables that the calls read. -/
structure Glob (t0 t1 : TypeId) (p0 p1 : Value) (m : Int) (w : World) : Prop where
  c0 : w.cell? ⟨0, 0, none⟩ = some (.iface t0 p0)
  c1 : w.cell? ⟨1, 0, none⟩ = some (.iface t1 p1)
  c2 : w.cell? ⟨2, 0, none⟩ = some (.int .i64 m)
  lt : 2 < w.heap.size

theorem Glob.on {t0 t1 : TypeId} {p0 p1 : Value} {m : Int} {w w' : World} {B : Nat} (h : Glob t0 t1 p0 p1 m w) (hb : Below B w w') (hB : 2 < B) : Glob t0 t1 p0 p1 m w' where
  c0 := (hb.cell (p := ⟨0, 0, none⟩) (by show 0 < B; omega)).trans h.c0
  c1 := (hb.cell (p := ⟨1, 0, none⟩) (by show 1 < B; omega)).trans h.c1
  c2 := (hb.cell (p := ⟨2, 0, none⟩) (by show 2 < B; omega)).trans h.c2
  lt := Nat.lt_of_lt_of_le h.lt hb.size

set_option maxHeartbeats 800000 in
set_option maxRecDepth 100000 in
theorem parse_else (s : ByteArray) (E0 : Value) (m : Int) (w : World) (hs : s.size ≤ 1048576) (hn : (Lib.splitB ⟨#[46]⟩ 0 (min 4 (s.size + 1) - 1) s).length ≠ 3) (hV : verI s.data.toList < 0)
    (hE : w.cell? ⟨0, 0, none⟩ = some E0) (hm : w.cell? ⟨2, 0, none⟩ = some (.int .i64 m)) (hw : 2 < w.heap.size) :
    Calls Tryd.prog 10 #[.string s] w fun e w' => e = parseRes E0 s.data.toList ∧ Below w.heap.size w w' := by
  obtain ⟨n, hn'⟩ : ∃ n, (Lib.splitB ⟨#[46]⟩ 0 (min 4 (s.size + 1) - 1) s).length = n := ⟨_, rfl⟩
  have C := splitN_else s ⟨#[46]⟩ m (w.alloc (.cells #[.int .i64 0, .int .i64 0, .int .i64 0] 35)) hs (by decide) n hn' (by rw [World.cell?_alloc_past _ _ _ (by show 2 < _; omega)]; exact hm)
  have hq : ((n : Int) != 3) = true := by rw [bne_iff_ne]; omega
  have HV : Hid (verI s.data.toList < 0) := hV
  have HE : Hid (w.cell? ⟨0, 0, none⟩ = some E0) := hE
  clear hn' hn hV hE hm
  go_enter Tryd.func10, Tryd.ntmps10
  go_wp2_with fail
  refine C.mono ?_
  rintro e w1 ⟨N, rfl, hz, hbel⟩
  rw [World.size_alloc] at hz hbel
  have hR : ∀ o, w1.cell? ⟨w.heap.size, o, none⟩ = (#[.int .i64 0, .int .i64 0, .int .i64 0] : Array Value)[o]? := fun o => (hbel.cell (p := ⟨w.heap.size, o, none⟩) (by show w.heap.size < _; omega)).trans (World.cell?_alloc_at _ _ _ _ rfl)
  have f1 : w1.cell? ⟨w.heap.size, 0, none⟩ = some (.int .i64 0) := hR 0
  have f2 : w1.cell? ⟨w.heap.size, 1, none⟩ = some (.int .i64 0) := hR 1
  have f3 : w1.cell? ⟨w.heap.size, 2, none⟩ = some (.int .i64 0) := hR 2
  have f4 : ∀ o, w1.frozen? ⟨w.heap.size, o, none⟩ = false := fun o => (hbel.frozen (p := ⟨w.heap.size, o, none⟩) (by show w.heap.size < _; omega)).trans (World.frozen?_alloc_at _ _ _ _ rfl)
  have f0 : w1.cell? ⟨0, 0, none⟩ = some E0 := (hbel.cell (p := ⟨0, 0, none⟩) (by show 0 < _; omega)).trans ((World.cell?_alloc_past _ _ _ (by show 0 < _; omega)).trans HE.out)
  have HB : Hid (Below w.heap.size w w1) := ((Below.refl _ _).alloc (Nat.le_refl _) _).trans (hbel.mono (by omega))
  clear hR hbel C HE hz
  go_wp2
  go_region
  all_goals (try go_wp2)
  all_goals exact bodyPost_ret (v := .tuple #[.agg #[.int .i64 0, .int .i64 0, .int .i64 0], E0]) (by simp [results, Tryd.results10, go_sem, f1, f2, f3]) rfl ⟨parseRes_no HV.out, (((HB.out.setCell (Nat.le_refl _) _).setCell (Nat.le_refl _) _).setCell (Nat.le_refl _) _).drew⟩

theorem parse_any (s : ByteArray) (t0 t1 : TypeId) (p0 p1 : Value) (m : Int) (w : World) (hs : s.size ≤ 1048576) (G : Glob t0 t1 p0 p1 m w) :
    Calls Tryd.prog 10 #[.string s] w fun e w' => e = parseRes (.iface t0 p0) s.data.toList ∧ Below w.heap.size w w' := by
  obtain ⟨Q, hQ⟩ : ∃ Q, Lib.splitB ⟨#[46]⟩ 0 (min 4 (s.size + 1) - 1) s = Q := ⟨_, rfl⟩
  have h := split_three 46 s ⟨#[46]⟩ rfl Q hQ.symm
  by_cases h3 : Q.length = 3
  · have hd := h.1 h3
    match Q, h3 with
    | [a, b, d], _ =>
      have sz : ∀ x ∈ [a, b, d], x.size ≤ 1048576 := fun x hx => Nat.le_trans (piece_size (c := 46) (s := s) (P := [a, b, d]) hd x hx) hs
      exact parse_three s a b d _ m w hs (sz a (by simp)) (sz b (by simp)) (sz d (by simp)) hQ (by unfold verI; rw [← hd]; rfl) G.c0 G.c2 G.lt
  · have hd := h.2 h3
    refine parse_else s _ m w hs (by rw [hQ]; exact h3) ?_ G.c0 G.c2 G.lt
    unfold verI verL
    split
    · rename_i x y z e; rw [e] at hd; simp at hd
    · omega

theorem parse_no (s : ByteArray) (t0 t1 : TypeId) (p0 p1 : Value) (m : Int) (w : World) (hs : s.size ≤ 1048576) (G : Glob t0 t1 p0 p1 m w) (h : verI s.data.toList < 0) :
    Calls Tryd.prog 10 #[.string s] w fun e w' => e = .returned (.tuple #[.agg #[.int .i64 0, .int .i64 0, .int .i64 0], .iface t0 p0]) ∧ Below w.heap.size w w' := by
  have := parse_any s t0 t1 p0 p1 m w hs G
  rw [← parseRes_no h] at this; exact this
theorem parse_yes (s : ByteArray) (t0 t1 : TypeId) (p0 p1 : Value) (m : Int) (w : World) (hs : s.size ≤ 1048576) (G : Glob t0 t1 p0 p1 m w) (h : 0 ≤ verI s.data.toList) :
    Calls Tryd.prog 10 #[.string s] w fun e w' => e = .returned (.tuple #[.agg #[.int .i64 (verI s.data.toList / 1000000), .int .i64 (verI s.data.toList / 1000 % 1000), .int .i64 (verI s.data.toList % 1000)], .nilIface]) ∧ Below w.heap.size w w' := by
  have := parse_any s t0 t1 p0 p1 m w hs G
  unfold parseRes at this
  rw [if_neg (by omega)] at this; exact this

/-- What the reading of a demand keeps: the result's block. -/
structure DW (t0 t1 : TypeId) (p0 p1 : Value) (m : Int) (w wr : World) : Prop where
  below : Below w.heap.size w wr
  r0 : wr.cell? ⟨w.heap.size, 0, none⟩ = some (.int .i64 0)
  r1 : wr.cell? ⟨w.heap.size, 1, none⟩ = some (.int .i64 0)
  r2 : wr.cell? ⟨w.heap.size, 2, none⟩ = some (.int .i64 0)
  r3 : wr.cell? ⟨w.heap.size, 3, none⟩ = some (.int .i64 0)
  fr : ∀ o, wr.frozen? ⟨w.heap.size, o, none⟩ = false
  lR : w.heap.size < wr.heap.size
  g : Glob t0 t1 p0 p1 m wr

theorem DW.on {t0 t1 : TypeId} {p0 p1 : Value} {m : Int} {w wr w' : World} (h : DW t0 t1 p0 p1 m w wr) (hb : Below wr.heap.size wr w') : DW t0 t1 p0 p1 m w w' where
  below := h.below.trans (hb.mono h.below.size)
  r0 := (hb.cell (p := ⟨w.heap.size, 0, none⟩) h.lR).trans h.r0
  r1 := (hb.cell (p := ⟨w.heap.size, 1, none⟩) h.lR).trans h.r1
  r2 := (hb.cell (p := ⟨w.heap.size, 2, none⟩) h.lR).trans h.r2
  r3 := (hb.cell (p := ⟨w.heap.size, 3, none⟩) h.lR).trans h.r3
  fr := fun o => (hb.frozen (p := ⟨w.heap.size, o, none⟩) h.lR).trans (h.fr o)
  lR := Nat.lt_of_lt_of_le h.lR hb.size
  g := h.g.on hb (h.g.lt)

theorem DW.start {t0 t1 : TypeId} {p0 p1 : Value} {m : Int} {w : World} (G : Glob t0 t1 p0 p1 m w) : DW t0 t1 p0 p1 m w (w.alloc (.cells #[.int .i64 0, .int .i64 0, .int .i64 0, .int .i64 0] 42)) where
  below := (Below.refl _ _).alloc (Nat.le_refl _) _
  r0 := (World.cell?_alloc_at _ _ _ _ rfl).trans rfl
  r1 := (World.cell?_alloc_at _ _ _ _ rfl).trans rfl
  r2 := (World.cell?_alloc_at _ _ _ _ rfl).trans rfl
  r3 := (World.cell?_alloc_at _ _ _ _ rfl).trans rfl
  fr := fun _ => World.frozen?_alloc_at _ _ _ _ rfl
  lR := by simp
  g := G.on ((Below.refl _ _).alloc (Nat.le_refl _) _) G.lt

/-- How strong a demand is. -/
def stOf (c v : Int) : Int := if c = 42 then 0 else if c = 61 then 4 else if c = 62 then 1 else if c = 126 then 3 else caretI (v / 1000000) (v / 1000 % 1000)

/-- What 'ParseDemand' comes to: an error that is one of the two, or a demand. -/
def DemEnds (t0 t1 : TypeId) (p0 p1 : Value) (l : List UInt8) (e : Ending) : Prop :=
  ((demI l).1 = 0 ∧ (e = .returned (.tuple #[.agg #[.int .i64 0, .int .i64 0, .int .i64 0, .int .i64 0], .iface t0 p0]) ∨ e = .returned (.tuple #[.agg #[.int .i64 0, .int .i64 0, .int .i64 0, .int .i64 0], .iface t1 p1]))) ∨
  ((demI l).1 ≠ 0 ∧ e = .returned (.tuple #[.agg #[.int .i64 (stOf (demI l).1 (demI l).2), .int .i64 ((demI l).2 / 1000000), .int .i64 ((demI l).2 / 1000 % 1000), .int .i64 ((demI l).2 % 1000)], .nilIface]))

set_option maxHeartbeats 800000 in
set_option maxRecDepth 100000 in
theorem pdem_star (s : ByteArray) (w : World) (t0 t1 : TypeId) (p0 p1 : Value) (h : s.data.toList = [42]) :
    Calls Tryd.prog 11 #[.string s] w fun e w' => DemEnds t0 t1 p0 p1 s.data.toList e ∧ Below w.heap.size w w' := by
  have hst : (s.toList == [42]) = true := by rw [ByteArray.toList_eq, h]; rfl
  have HR : Hid (DemEnds t0 t1 p0 p1 s.data.toList (.returned (.tuple #[.agg #[.int .i64 0, .int .i64 0, .int .i64 0, .int .i64 0], .nilIface]))) := by
    refine Or.inr ⟨?_, ?_⟩
    · rw [h]; decide
    · rw [h]; rfl
  clear h
  go_enter Tryd.func11, Tryd.ntmps11
  go_wp2
  exact bodyPost_ret (v := .tuple #[.agg #[.int .i64 0, .int .i64 0, .int .i64 0, .int .i64 0], .nilIface]) (by simp [results, Tryd.results11, go_sem]) rfl ⟨HR.out, (Below.refl _ _).alloc (Nat.le_refl _) _⟩

end Go.Proofs.YtnmclolbndohiaaDoor
