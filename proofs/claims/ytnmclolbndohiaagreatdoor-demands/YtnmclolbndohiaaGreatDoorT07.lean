/-
  The walk of the reference's 'item'.
-/
import Derived.Test.YtnmclolbndohiaaGreatDoorT05
import Derived.Test.YtnmclolbndohiaaGreatDoorT04
import Derived.Deep.RegionWith
namespace Go.Proofs.YtnmclolbndohiaaGreatDoor
open Go.RowKit
open Ver

namespace Ver
/-- An item's parts, and whether it may be. -/
def itemL (l : List UInt8) : (List UInt8 × List UInt8 × Bool) × Bool :=
  if 4 < l.length ∧ l.take 4 = [100, 101, 112, 58] then ((l.drop 4, [], false), nameL (l.drop 4))
  else match cutL 47 l with
    | [] => (([], [], false), false)
    | [_] => (([], l, false), nameL l)
    | p :: f :: r => if p ≠ [] ∧ p.getLast? = some 63 then ((p.dropLast, f, true), decide (r = []) && (nameL p.dropLast && nameL f)) else ((p, f, false), decide (r = []) && (nameL p && nameL f))
theorem itemL_one {l p : List UInt8} (h : ¬ (4 < l.length ∧ l.take 4 = [100, 101, 112, 58])) (hc : cutL 47 l = [p]) : itemL l = (([], l, false), nameL l) := by
  unfold itemL; rw [if_neg h, hc]
theorem itemL_weak {l p f : List UInt8} {r : List (List UInt8)} (h : ¬ (4 < l.length ∧ l.take 4 = [100, 101, 112, 58])) (hc : cutL 47 l = p :: f :: r) (hp : p ≠ [] ∧ p.getLast? = some 63) :
    itemL l = ((p.dropLast, f, true), decide (r = []) && (nameL p.dropLast && nameL f)) := by
  unfold itemL; rw [if_neg h, hc]; exact if_pos hp
theorem itemL_plain {l p f : List UInt8} {r : List (List UInt8)} (h : ¬ (4 < l.length ∧ l.take 4 = [100, 101, 112, 58])) (hc : cutL 47 l = p :: f :: r) (hp : ¬ (p ≠ [] ∧ p.getLast? = some 63)) :
    itemL l = ((p, f, false), decide (r = []) && (nameL p && nameL f)) := by
  unfold itemL; rw [if_neg h, hc]; exact if_neg hp
end Ver

/-- What 'item' keeps behind its cut: the result's block, and the pieces. -/
structure IW (w wr : World) : Prop where
  below : Below w.heap.size w wr
  r0 : wr.cell? ⟨w.heap.size, 0, none⟩ = some (.string ⟨#[]⟩)
  r1 : wr.cell? ⟨w.heap.size, 1, none⟩ = some (.string ⟨#[]⟩)
  r2 : wr.cell? ⟨w.heap.size, 2, none⟩ = some (.bool false)
  fr : ∀ o, wr.frozen? ⟨w.heap.size, o, none⟩ = false
  lR : w.heap.size < wr.heap.size
theorem IW.start {w w1 : World} (hb : Below (w.heap.size + 1) (w.alloc (.cells #[.string ⟨#[]⟩, .string ⟨#[]⟩, .bool false] 170)) w1) : IW w w1 where
  below := ((Below.refl _ _).alloc (Nat.le_refl _) _).trans (hb.mono (by omega))
  r0 := (hb.cell (p := ⟨w.heap.size, 0, none⟩) (by show w.heap.size < _; omega)).trans ((World.cell?_alloc_at _ _ _ _ rfl).trans rfl)
  r1 := (hb.cell (p := ⟨w.heap.size, 1, none⟩) (by show w.heap.size < _; omega)).trans ((World.cell?_alloc_at _ _ _ _ rfl).trans rfl)
  r2 := (hb.cell (p := ⟨w.heap.size, 2, none⟩) (by show w.heap.size < _; omega)).trans ((World.cell?_alloc_at _ _ _ _ rfl).trans rfl)
  fr := fun o => (hb.frozen (p := ⟨w.heap.size, o, none⟩) (by show w.heap.size < _; omega)).trans (World.frozen?_alloc_at _ _ _ _ rfl)
  lR := by have := hb.size; simp at this; omega

end Go.Proofs.YtnmclolbndohiaaGreatDoor
