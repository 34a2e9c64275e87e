/-
  The walks of the reference's 'number' (14), of 'num' (8).
-/
import Derived.Test.YtnmclolbndohiaaGreatDoorRows
import Derived.Test.YtnmclolbndohiaaGreatDoorT01
import Derived.WalkKit
import Derived.WalkSpells
import Derived.WalkLawsBesides
import Derived.Lib.IndexBytes
import Derived.Maps.AppendAt
namespace Go.Proofs.YtnmclolbndohiaaGreatDoor
open Go.RowKit
open Ver

theorem ret_int {k : IntKind} {a b : Int} (h : a = b) : Ending.returned (.int k a) = .returned (.int k b) := by rw [h]

theorem drop_byte (s : ByteArray) (k : Nat) (h : k < s.size) : s.data.toList.drop k = s[k] :: s.data.toList.drop (k + 1) := by
  rw [List.drop_eq_getElem_cons (by simpa using h)]; rfl

theorem isE (s : ByteArray) (h : s.size = 0) : s.toList.isEmpty = true := by
  rw [ByteArray.toList_eq]; have : s.data.toList.length = 0 := by simpa using h
  rw [List.length_eq_zero_iff.1 this]; rfl
theorem notE (s : ByteArray) (h : s.size ≠ 0) : s.toList.isEmpty = false := by
  rw [ByteArray.toList_eq]
  cases e : s.data.toList with
  | nil => exact absurd (by have := congrArg List.length e; simpa using this) h
  | cons a b => rfl
theorem ne_nil (s : ByteArray) (h : s.size ≠ 0) : ¬ s.data.toList = [] := by
  intro e; apply h; have := congrArg List.length e; simpa using this
theorem headOf (s : ByteArray) (h : 0 < s.size) : s.data.toList.head? = some s[0] := by
  have := drop_byte s 0 h
  rw [List.drop_zero] at this; rw [this]; rfl
theorem byte48 (b : UInt8) (h : (b.toNat : Int) = 48) : b = 48 := by
  apply UInt8.toNat_inj.1; show b.toNat = 48; omega

end Go.Proofs.YtnmclolbndohiaaGreatDoor

/-
  The walk of the reference's 'Cut' (13): a slice of texts that the call makes.
-/
namespace Go.Proofs.YtnmclolbndohiaaGreatDoor
open Go.RowKit
open Ver

theorem Tryz.info9 : (Tryz.prog.info? 9).map (fun i => (i.zero, i.size, i.bytes)) = some (some (.string ByteArray.empty), 1, 16) := by kernel_rfl

abbrev datas (P : List ByteArray) : List (List UInt8) := P.map fun x => x.data.toList

theorem below_grown {B : Nat} {w wr w1 : World} {o : Obj} {v : Value} {n : Nat} {xs : List Value} (hB : B ≤ wr.heap.size) (hnx : Below B w wr) (hown : wr.ownsRow B 9 1 v n xs) (hg : (wr.alloc o).grownBy w1 v.ownBlock) : Below B w w1 :=
  (hnx.alloc hB o).grown hg (by simp; omega) (fun j hj => (hown.lt j hj).1)

end Go.Proofs.YtnmclolbndohiaaGreatDoor

/-
  Slices that are only read: what they hold; the walk of the reference's 'at'.
-/
namespace Go.Proofs.YtnmclolbndohiaaGreatDoor
open Go.RowKit
open Ver

/-- A slice's value, of n elements of sz cells each, holds the cells xs. -/
def RowR (w : World) (v : Value) (n sz : Nat) (xs : List Value) : Prop :=
  xs.length = n * sz ∧ ((v = .slice none 0 0 ∧ n = 0) ∨ ∃ g cap, v = .slice (some ⟨g, 0, none⟩) n cap ∧ g < w.heap.size ∧ ∀ j, j < n * sz → w.cell? ⟨g, j, none⟩ = xs[j]?)

theorem RowR.on {w w' : World} {v : Value} {n sz : Nat} {xs : List Value} (h : RowR w v n sz xs) (hb : Below w.heap.size w w') : RowR w' v n sz xs := by
  refine ⟨h.1, ?_⟩
  rcases h.2 with h' | ⟨g, cap, hv, hg, hc⟩
  · exact Or.inl h'
  · exact Or.inr ⟨g, cap, hv, Nat.lt_of_lt_of_le hg hb.size, fun j hj => (hb.cell (p := ⟨g, j, none⟩) hg).trans (hc j hj)⟩

theorem RowR.nil (w : World) (sz : Nat) : RowR w (.slice none 0 0) 0 sz [] := ⟨by simp, Or.inl ⟨rfl, rfl⟩⟩

theorem RowR.of_owns {w : World} {base : Nat} {e : TypeId} {v : Value} {n sz : Nat} {xs : List Value} (h : w.ownsRow base e sz v n xs) : RowR w v n sz xs := by
  refine ⟨h.1, ?_⟩
  rcases h.2 with h' | ⟨g, cap, cur, hv, _, hg, _⟩
  · exact Or.inl h'
  · refine Or.inr ⟨g, cap, hv, (Array.getElem?_eq_some_iff.1 hg).1, fun j hj => ?_⟩
    rw [hv] at h
    exact h.cellAt j hj

/-- Which of some texts is the first that is this one? -1: none. -/
def idxL : List (List UInt8) → List UInt8 → Int
  | [], _ => -1
  | a :: r, x => if a = x then 0 else if idxL r x < 0 then -1 else idxL r x + 1
theorem idxL_bd : ∀ (l : List (List UInt8)) (x : List UInt8), -1 ≤ idxL l x ∧ idxL l x < l.length
  | [], x => by simp [idxL]
  | a :: r, x => by
    have := idxL_bd r x
    unfold idxL
    split
    · simp
    · split
      · simp; omega
      · simp; omega
theorem str_eq {a b : ByteArray} (h : a.data.toList = b.data.toList) : (a.toList == b.toList) = true := by
  rw [ByteArray.toList_eq, ByteArray.toList_eq]; simpa using h
theorem str_ne {a b : ByteArray} (h : a.data.toList ≠ b.data.toList) : (a.toList == b.toList) = false := by
  rw [ByteArray.toList_eq, ByteArray.toList_eq]; simpa using h

end Go.Proofs.YtnmclolbndohiaaGreatDoor
