/-
  What the code's asks.Parse says; where it stops early.
-/
import Derived.Test.YtnmclolbndohiaaGreatDoorT21
import Derived.Test.YtnmclolbndohiaaGreatDoorT15
import Derived.Deep.DeepCutAuto
namespace Go.Proofs.YtnmclolbndohiaaGreatDoor
open Go.RowKit
open Ver

/-- Name, demand, 'bare' or not, features. -/
def askP (ws : List (List UInt8)) : Option PNeed :=
  match ws with
  | nm :: dm :: rest => if nameL nm = true ∧ (demI dm).1 ≠ 0 then (featsP (rest.drop (bareN rest))).map fun fs => ⟨nm, (demI dm).1, (demI dm).2, false, decide (bareN rest = 1), fs⟩ else none
  | _ => none

def AskEnds (B : Nat) (r : Option PNeed) (e : Ending) (w' : World) : Prop :=
  ∃ (nm : ByteArray) (st a b c : Int) (bare : Bool) (fa : Option Addr) (fk fc : Nat) (er : Value), e = .returned (.tuple #[.agg #[.string nm, .int .i64 st, .int .i64 a, .int .i64 b, .int .i64 c, .bool bare, .slice fa fk fc], er]) ∧
    (r = none → ∃ t p, er = .iface t p) ∧
    ∀ q, r = some q → er = .nilIface ∧ nm.data.toList = q.name ∧ st = stOf q.c q.v ∧ a = q.v / 1000000 ∧ b = q.v / 1000 % 1000 ∧ c = q.v % 1000 ∧ bare = q.bare ∧
      ∃ F : List ByteArray, datas F = q.feats ∧ F.length = fk ∧ w'.ownsRow B 9 1 (.slice fa fk fc) F.length (F.map Value.string)
theorem ask_no {B : Nat} {r : Option PNeed} {t : TypeId} {p : Value} {w' : World} (h : r = none) :
    AskEnds B r (.returned (.tuple #[.agg #[.string ⟨#[]⟩, .int .i64 0, .int .i64 0, .int .i64 0, .int .i64 0, .bool false, .slice none 0 0], .iface t p])) w' :=
  ⟨⟨#[]⟩, 0, 0, 0, 0, false, none, 0, 0, .iface t p, rfl, ⟨fun _ => ⟨t, p, rfl⟩, fun q h' => (by rw [h] at h'; cases h')⟩⟩

theorem fin8 {w w4 : World} {B ab : Nat} {v : Value} {n : Nat} {xs : List Value} (hb : Below w.heap.size w w4) (ho : w4.ownsRow B 9 1 v n xs) (h1 : ab < B) (h2 : w.heap.size < ab) (x x0 x1 x2 x3 x4 x5 x6 : Value) :
    Below w.heap.size w ((((((((w4.setCell ⟨ab, 6, none⟩ x).setCell ⟨w.heap.size, 0, none⟩ x0).setCell ⟨w.heap.size, 1, none⟩ x1).setCell ⟨w.heap.size, 2, none⟩ x2).setCell ⟨w.heap.size, 3, none⟩ x3).setCell ⟨w.heap.size, 4, none⟩ x4).setCell ⟨w.heap.size, 5, none⟩ x5).setCell ⟨w.heap.size, 6, none⟩ x6) ∧
    ((((((((w4.setCell ⟨ab, 6, none⟩ x).setCell ⟨w.heap.size, 0, none⟩ x0).setCell ⟨w.heap.size, 1, none⟩ x1).setCell ⟨w.heap.size, 2, none⟩ x2).setCell ⟨w.heap.size, 3, none⟩ x3).setCell ⟨w.heap.size, 4, none⟩ x4).setCell ⟨w.heap.size, 5, none⟩ x5).setCell ⟨w.heap.size, 6, none⟩ x6).ownsRow w.heap.size 9 1 v n xs := by
  have hl : ∀ o, (⟨w.heap.size, o, none⟩ : Addr).block < B := fun o => by show w.heap.size < _; omega
  have ha : (⟨ab, 6, none⟩ : Addr).block < B := h1
  refine ⟨(((((((hb.setCell (by show w.heap.size ≤ ab; omega) _).setCell (Nat.le_refl _) _).setCell (Nat.le_refl _) _).setCell (Nat.le_refl _) _).setCell (Nat.le_refl _) _).setCell (Nat.le_refl _) _).setCell (Nat.le_refl _) _).setCell (Nat.le_refl _) _, ?_⟩
  refine ownsRow_low (B := B) ?_ (by omega)
  exact ownsRow_setCell_below (ownsRow_setCell_below (ownsRow_setCell_below (ownsRow_setCell_below (ownsRow_setCell_below (ownsRow_setCell_below (ownsRow_setCell_below (ownsRow_setCell_below ho ha _) (hl 0) _) (hl 1) _) (hl 2) _) (hl 3) _) (hl 4) _) (hl 5) _) (hl 6) _

set_option maxHeartbeats 1600000 in
set_option maxRecDepth 100000 in
theorem ask_short (g o cap n : Nat) (w : World) (hn : n < 2) (S : Sent w) :
    Calls Tryz.prog 84 #[.slice (some ⟨g, o, none⟩) n cap] w fun e w' => AskEnds w.heap.size none e w' ∧ Below w.heap.size w w' := by
  obtain ⟨t, p, hc⟩ := S.cell 13 (by decide)
  have hl := S.lt 13 (by decide)
  have k2 : (n : Int) < 2 := by omega
  clear S hn
  go_enter Tryz.func84, Tryz.ntmps84
  go_wp2
  go_region
  all_goals (try go_wp2)
  all_goals exact bodyPost_ret (v := .tuple #[.agg #[.string ⟨#[]⟩, .int .i64 0, .int .i64 0, .int .i64 0, .int .i64 0, .bool false, .slice none 0 0], .iface t p]) (by simp [results, Tryz.results84, go_sem]) rfl ⟨ask_no rfl, ((Below.refl _ _).alloc (Nat.le_refl _) _).drew⟩

set_option maxHeartbeats 1600000 in
set_option maxRecDepth 100000 in
theorem ask_noname (g o cap n : Nat) (nm : ByteArray) (w : World) (hn : 2 ≤ n) (hg : g < w.heap.size) (d0 : w.cell? ⟨g, o, none⟩ = some (.string nm)) (hnm : nameL nm.data.toList = false) (S : Sent w) :
    Calls Tryz.prog 84 #[.slice (some ⟨g, o, none⟩) n cap] w fun e w' => AskEnds w.heap.size none e w' ∧ Below w.heap.size w w' := by
  have k2 : ¬ (n : Int) < 2 := by omega
  have k0 : (0 : Int) < (n : Int) := by omega
  have HS : Hid (Sent w) := S
  have HN : Hid (∀ w : World, Calls Tryz.prog 125 #[.string nm] w fun e w' => e = .returned (.bool false) ∧ Below w.heap.size w w') := fun w => by have := isName_any nm w; rw [hnm] at this; exact this
  clear S hnm
  go_enter Tryz.func84, Tryz.ntmps84
  go_wp2_with fail
  refine (HN.out _).mono ?_
  rintro e w1 ⟨rfl, hb1⟩
  have HB1 : Hid (Below w.heap.size w w1) := ((Below.refl _ _).alloc (Nat.le_refl _) _).trans (hb1.mono (by simp))
  have hz : ∀ o, w1.cell? ⟨w.heap.size, o, none⟩ = #[Value.string ⟨#[]⟩, .int .i64 0, .int .i64 0, .int .i64 0, .int .i64 0, .bool false, .slice none 0 0][o]? := fun o => by
    rw [hb1.cell (p := ⟨w.heap.size, o, none⟩) (by simp)]
    exact World.cell?_alloc_at _ _ _ _ rfl
  have hfz : ∀ o, w1.frozen? ⟨w.heap.size, o, none⟩ = false := fun o => by
    rw [hb1.frozen (p := ⟨w.heap.size, o, none⟩) (by simp)]
    exact World.frozen?_alloc_at _ _ _ _ rfl
  obtain ⟨t, p, hc⟩ := (HS.out.on HB1.out).cell 13 (by decide)
  have r0 := hz 0
  have r1 := hz 1
  have r2 := hz 2
  have r3 := hz 3
  have r4 := hz 4
  have r5 := hz 5
  have r6 := hz 6
  simp at r0 r1 r2 r3 r4 r5 r6
  have z0 := hfz 0
  have z1 := hfz 1
  have z2 := hfz 2
  have z3 := hfz 3
  have z4 := hfz 4
  have z5 := hfz 5
  have z6 := hfz 6
  have hl1 : w.heap.size < w1.heap.size := by have := hb1.size; simp at this; omega
  have hgk := HS.out.lt 13 (by decide)
  clear hz hfz hb1 HN HS
  go_wp2
  go_region
  all_goals (try go_wp2)
  all_goals exact bodyPost_ret (v := .tuple #[.agg #[.string ⟨#[]⟩, .int .i64 0, .int .i64 0, .int .i64 0, .int .i64 0, .bool false, .slice none 0 0], .iface t p]) (by simp [results, Tryz.results84, go_sem, r0, r1, r2, r3, r4, r5, r6]) rfl ⟨ask_no rfl, (((((((HB1.out.setCell (Nat.le_refl _) _).setCell (Nat.le_refl _) _).setCell (Nat.le_refl _) _).setCell (Nat.le_refl _) _).setCell (Nat.le_refl _) _).setCell (Nat.le_refl _) _).setCell (Nat.le_refl _) _).drew⟩

end Go.Proofs.YtnmclolbndohiaaGreatDoor
