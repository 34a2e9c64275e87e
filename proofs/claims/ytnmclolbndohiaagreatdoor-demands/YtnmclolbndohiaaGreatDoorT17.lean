/-
  The walk of the reference's 'enter' at a line 'needs'.
-/
import Derived.Test.YtnmclolbndohiaaGreatDoorT08
import Derived.Deep.RegionLaw
import Derived.Deep.RegionWith
import Derived.Deep.QuietTactic
namespace Go.Proofs.YtnmclolbndohiaaGreatDoor
open Go.RowKit
open Ver
attribute [local go_sem ↓] Go.wp_at_zero Go.wp_at_succ

theorem IdxR.add {bx B : Nat} {R : List Hold} {x : RIdx} {w w' : World} {r : Hold} (h : IdxR bx R x w) (hb : Below w.heap.size w w') (hr : r.own B w') (hB : w.heap.size ≤ B) : IdxR bx (r :: R) x w' where
  c0 := (h.on hb).c0
  c1 := (h.on hb).c1
  fz := (h.on hb).fz
  lt := (h.on hb).lt
  forest := h.forest.add hb hr hB (by have := h.lt; omega)

/-- The last entry's cells. -/
theorem IdxR.last {bx ge ce : Nat} {R : List Hold} {nv : Value} {names : List ByteArray} {es : List REntry} {e : REntry} {w : World} (h : IdxR bx R ⟨nv, names, .slice (some ⟨ge, 0, none⟩) (es.length + 1) ce, es ++ [e]⟩ w) (o : Nat) (ho : o < 5) :
    w.cell? ⟨ge, es.length * 5 + o, none⟩ = e.cells[o]? ∧ w.frozen? ⟨ge, es.length * 5 + o, none⟩ = false := by
  have hrow := h.erow
  have hl : (es ++ [e]).length = es.length + 1 := by simp
  refine ⟨?_, ?_⟩
  · rcases hrow.2 with ⟨h1, _⟩ | ⟨g, c, h1, _, h2⟩
    · simp at h1
    · obtain ⟨rfl, _⟩ : ge = g ∧ _ := by simpa using h1
      have := flat_at REntry.cells 5 REntry.len (es ++ [e]) es.length o e (by simp) ho
      rw [Nat.mul_comm] at this
      rw [h2 _ (by rw [hl]; omega), this]
  · have := h.forest.own (RIdx.he ⟨nv, names, .slice (some ⟨ge, 0, none⟩) (es.length + 1) ce, es ++ [e]⟩) (by simp [RIdx.holds])
    unfold Hold.own RIdx.he at this
    simp only [hl] at this
    exact this.frozenAt _

end Go.Proofs.YtnmclolbndohiaaGreatDoor
