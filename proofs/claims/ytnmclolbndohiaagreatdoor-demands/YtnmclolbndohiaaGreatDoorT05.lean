/-
  How the reference's entries lie in memory: needs, features, items; the walks of 'of' and 'feature'.
-/
import Derived.Test.YtnmclolbndohiaaGreatDoorT02
namespace Go.Proofs.YtnmclolbndohiaaGreatDoor
open Go.RowKit
open Ver

structure RNeed where
  name : ByteArray
  c : Int
  v : Int
  opt : Bool
  bare : Bool
  fv : Value
  feats : List ByteArray
  line : Int
def RNeed.cells (n : RNeed) : List Value := [.string n.name, .int .u8 n.c, .int .i64 n.v, .bool n.opt, .bool n.bare, n.fv, .int .i64 n.line]

structure RItem where
  pack : ByteArray
  feat : ByteArray
  weak : Bool
def RItem.cells (y : RItem) : List Value := [.string y.pack, .string y.feat, .bool y.weak]

structure RFeat where
  name : ByteArray
  iv : Value
  items : List RItem
  line : Int
def RFeat.cells (f : RFeat) : List Value := [.string f.name, f.iv, .int .i64 f.line]

structure REntry where
  pack : Int
  ver : Int
  text : ByteArray
  nv : Value
  needs : List RNeed
  fv : Value
  feats : List RFeat
def REntry.cells (e : REntry) : List Value := [.int .i64 e.pack, .int .i64 e.ver, .string e.text, e.nv, e.fv]

theorem flat_len {α : Type} (f : α → List Value) (sz : Nat) (hf : ∀ a, (f a).length = sz) : ∀ l : List α, (l.flatMap f).length = l.length * sz
  | [] => by simp
  | a :: r => by rw [List.flatMap_cons, List.length_append, hf, flat_len f sz hf r, List.length_cons]; rw [Nat.succ_mul]; omega
theorem flat_at {α : Type} (f : α → List Value) (sz : Nat) (hf : ∀ a, (f a).length = sz) : ∀ (l : List α) (j o : Nat) (a : α), l[j]? = some a → o < sz → (l.flatMap f)[sz * j + o]? = (f a)[o]?
  | [], j, o, a, h, _ => by simp at h
  | b :: r, 0, o, a, h, ho => by
    simp at h; subst h
    rw [List.flatMap_cons, Nat.mul_zero, Nat.zero_add, List.getElem?_append_left (by rw [hf]; exact ho)]
  | b :: r, j + 1, o, a, h, ho => by
    have ih := flat_at f sz hf r j o a (by simpa using h) ho
    rw [List.flatMap_cons, List.getElem?_append_right (by rw [hf, Nat.mul_succ]; omega), hf]
    have e : sz * (j + 1) + o - sz = sz * j + o := by rw [Nat.mul_succ]; omega
    rw [e]; exact ih

theorem RNeed.len (n : RNeed) : n.cells.length = 7 := rfl
theorem RItem.len (n : RItem) : n.cells.length = 3 := rfl
theorem RFeat.len (n : RFeat) : n.cells.length = 3 := rfl
theorem REntry.len (n : REntry) : n.cells.length = 5 := rfl

end Go.Proofs.YtnmclolbndohiaaGreatDoor

/-
  The walk of the reference's 'wrong'.
-/
namespace Go.Proofs.YtnmclolbndohiaaGreatDoor
open Go.RowKit
open Ver

theorem empty_is {s : ByteArray} (h : s.data.toList = []) : s.toList.isEmpty = true := by rw [ByteArray.toList_eq, h]; rfl
theorem empty_not {s : ByteArray} (h : s.data.toList ≠ []) : s.toList.isEmpty = false := by
  rw [ByteArray.toList_eq]
  cases e : s.data.toList with
  | nil => exact absurd e h
  | cons a b => rfl

end Go.Proofs.YtnmclolbndohiaaGreatDoor

/-
  The walk of the reference's 'Version' (6).
-/
namespace Go.Proofs.YtnmclolbndohiaaGreatDoor
open Go.RowKit
open Ver

theorem piece_size {c : UInt8} {s : ByteArray} {P : List ByteArray} (h : datas P = cutL c s.data.toList) (x : ByteArray) (hx : x ∈ P) : x.size ≤ s.size := by
  have : x.data.toList ∈ cutL c s.data.toList := by rw [← h]; exact List.mem_map.2 ⟨x, hx, rfl⟩
  have := cutL_piece c _ _ this
  simpa using this

end Go.Proofs.YtnmclolbndohiaaGreatDoor
