/-
  What the reference's 'enter' says, in plain lists.
-/
import Derived.Test.YtnmclolbndohiaaGreatDoorT06
import Derived.Test.YtnmclolbndohiaaGreatDoorT07
import Derived.Deep.RegionLaw
import Derived.Test.YtnmclolbndohiaaGreatDoorT05
namespace Go.Proofs.YtnmclolbndohiaaGreatDoor
open Go.RowKit
open Ver

structure PFeat where
  name : List UInt8
  items : List (List UInt8 × List UInt8 × Bool)
  line : Int
structure PEnt where
  pack : Int
  ver : Int
  text : List UInt8
  needs : List (PNeed × Int)
  feats : List PFeat
structure PIdx where
  names : List (List UInt8)
  ents : List PEnt

def packW : List UInt8 := [112, 97, 99, 107, 97, 103, 101]
def needsW : List UInt8 := [110, 101, 101, 100, 115]
def featW : List UInt8 := [102, 101, 97, 116, 117, 114, 101]

def manyOf (es : List PEnt) (q : Int) : Nat := (es.filter fun e => decide (e.pack = q)).length
def twice (es : List PEnt) (q v : Int) : Bool := es.any fun e => decide (e.pack = q ∧ e.ver = v)
def namesOf (p : PIdx) (nm : List UInt8) : List (List UInt8) := if idxL p.names nm < 0 then p.names ++ [nm] else p.names
def numOf (p : PIdx) (nm : List UInt8) : Int := if idxL p.names nm < 0 then p.names.length else idxL p.names nm
def packP (p : PIdx) (nm vt : List UInt8) : Option PIdx :=
  if (nameL nm = true ∧ 0 ≤ verI vt) ∧ twice p.ents (numOf p nm) (verI vt) = false ∧ 1 + manyOf p.ents (numOf p nm) ≤ 4 ∧ (namesOf p nm).length ≤ 6 then some ⟨namesOf p nm, p.ents ++ [⟨numOf p nm, verI vt, vt, [], []⟩]⟩ else none
/-- All items of a feature, each right. -/
def itemsP : List (List UInt8) → Option (List (List UInt8 × List UInt8 × Bool))
  | [] => some []
  | w :: r => if (itemL w).2 = true then (itemsP r).map ((itemL w).1 :: ·) else none
def needsP (p : PIdx) (es : List PEnt) (e : PEnt) (ws : List (List UInt8)) (line : Int) : Option PIdx :=
  match needP false ws with
  | none => none
  | some n => if idxL (e.needs.map fun n => n.1.name) n.name < 0 ∧ e.needs.length + 1 ≤ 5 then some ⟨p.names, es ++ [⟨e.pack, e.ver, e.text, e.needs ++ [(n, line)], e.feats⟩]⟩ else none
def featP (p : PIdx) (es : List PEnt) (e : PEnt) (nm : List UInt8) (rest : List (List UInt8)) (line : Int) : Option PIdx :=
  if rest.length ≤ 5 ∧ nameL nm = true ∧ idxL (e.feats.map fun f => f.name) nm < 0 then
    match itemsP rest with
    | none => none
    | some ys => if e.feats.length + 1 ≤ 5 then some ⟨p.names, es ++ [⟨e.pack, e.ver, e.text, e.needs, e.feats ++ [⟨nm, ys, line⟩]⟩]⟩ else none
  else none
/-- A line, entered. -/
def enterP (p : PIdx) (ws : List (List UInt8)) (line : Int) : Option PIdx :=
  if ws.head? = some packW then
    match ws with
    | [_, nm, vt] => packP p nm vt
    | _ => none
  else match p.ents.getLast? with
    | none => none
    | some e =>
      if ws.head? = some needsW then needsP p p.ents.dropLast e ws line
      else if ws.head? = some featW then
        match ws with
        | _ :: nm :: rest => featP p p.ents.dropLast e nm rest line
        | _ => none
      else none

/-! ### What lies in memory, as plain lists -/
def RNeed.abs (n : RNeed) : PNeed × Int := (⟨n.name.data.toList, n.c, n.v, n.opt, n.bare, datas n.feats⟩, n.line)
def RItem.abs (y : RItem) : List UInt8 × List UInt8 × Bool := (y.pack.data.toList, y.feat.data.toList, y.weak)
def RFeat.abs (f : RFeat) : PFeat := ⟨f.name.data.toList, f.items.map RItem.abs, f.line⟩
def REntry.abs (e : REntry) : PEnt := ⟨e.pack, e.ver, e.text.data.toList, e.needs.map RNeed.abs, e.feats.map RFeat.abs⟩
def RIdx.abs (x : RIdx) : PIdx := ⟨datas x.names, x.ents.map REntry.abs⟩

theorem below_drewN (w : World) (n : Nat) : Below w.heap.size w (w.drewN n) := by
  refine ⟨?_, ?_, ?_, ?_, ?_⟩ <;> simp [World.drewN]

end Go.Proofs.YtnmclolbndohiaaGreatDoor

/-
  What the reference's 'Load' says, in plain lists.
-/
namespace Go.Proofs.YtnmclolbndohiaaGreatDoor
open Go.RowKit
open Ver

def wrongP (e : PEnt) (y : List UInt8 × List UInt8 × Bool) : Bool :=
  if y.1 = [] then decide (idxL (e.feats.map fun f => f.name) y.2.1 < 0)
  else decide (idxL (e.needs.map fun n => n.1.name) y.1 < 0) ||
    (decide (y.2.1 = []) && !((e.needs[(idxL (e.needs.map fun n => n.1.name) y.1).toNat]?.map fun n => n.1.opt).getD true))
theorem itemsP_len : ∀ (ws : List (List UInt8)) (ys : List (List UInt8 × List UInt8 × Bool)), itemsP ws = some ys → ys.length = ws.length
  | [], ys, h => by simp [itemsP] at h; subst h; rfl
  | w :: r, ys, h => by
    unfold itemsP at h
    split at h
    · cases hr : itemsP r with
      | none => rw [hr] at h; cases h
      | some zs => rw [hr] at h; cases h; simp [itemsP_len r zs hr]
    · cases h

end Go.Proofs.YtnmclolbndohiaaGreatDoor
