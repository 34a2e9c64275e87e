/-
  The walk of the reference's 'enter' at a line 'feature', and at a line of another word.
-/
import Derived.Test.YtnmclolbndohiaaGreatDoorT17
import Derived.Test.YtnmclolbndohiaaGreatDoorT08
import Derived.Test.YtnmclolbndohiaaGreatDoorT09
import Derived.Deep.RegionLaw
import Derived.Deep.QuietTactic
import Derived.Test.YtnmclolbndohiaaGreatDoorT16
import Derived.BigQuiet
namespace Go.Proofs.YtnmclolbndohiaaGreatDoor
open Go.RowKit
open Ver
attribute [local go_sem ↓] Go.wp_at_zero Go.wp_at_succ

/-- What the loop over a feature's items keeps: the feature's block is the first behind w. -/
structure FW (w : World) (nm : ByteArray) (line : Int) (iv : Value) (ys : List RItem) (wr : World) : Prop where
  below : Below w.heap.size w wr
  f0 : wr.cell? ⟨w.heap.size, 0, none⟩ = some (.string nm)
  f1 : wr.cell? ⟨w.heap.size, 1, none⟩ = some iv
  f2 : wr.cell? ⟨w.heap.size, 2, none⟩ = some (.int .i64 line)
  fr : ∀ o, wr.frozen? ⟨w.heap.size, o, none⟩ = false
  sz : w.heap.size + 1 ≤ wr.heap.size
  own : wr.ownsRow (w.heap.size + 1) 170 3 iv ys.length (ys.flatMap RItem.cells)

theorem FW.start (w : World) (nm : ByteArray) (line : Int) : FW w nm line (.slice none 0 0) [] (w.alloc (.cells #[.string nm, .slice none 0 0, .int .i64 line] 167)) where
  below := (Below.refl _ _).alloc (Nat.le_refl _) _
  f0 := by rw [World.cell?_alloc_at _ _ _ _ rfl]; simp
  f1 := by rw [World.cell?_alloc_at _ _ _ _ rfl]; simp
  f2 := by rw [World.cell?_alloc_at _ _ _ _ rfl]; simp
  fr := fun o => World.frozen?_alloc_at _ _ _ _ rfl
  sz := by simp
  own := World.ownsRow_nil _ _ _ _

theorem FW.on {w wr w' : World} {nm : ByteArray} {line : Int} {iv : Value} {ys : List RItem} (h : FW w nm line iv ys wr) (hb : Below wr.heap.size wr w') : FW w nm line iv ys w' where
  below := h.below.trans (hb.mono h.below.size)
  f0 := (hb.cell (p := ⟨w.heap.size, 0, none⟩) (by have := h.sz; show w.heap.size < _; omega)).trans h.f0
  f1 := (hb.cell (p := ⟨w.heap.size, 1, none⟩) (by have := h.sz; show w.heap.size < _; omega)).trans h.f1
  f2 := (hb.cell (p := ⟨w.heap.size, 2, none⟩) (by have := h.sz; show w.heap.size < _; omega)).trans h.f2
  fr := fun o => (hb.frozen (p := ⟨w.heap.size, o, none⟩) (by have := h.sz; show w.heap.size < _; omega)).trans (h.fr o)
  sz := Nat.le_trans h.sz hb.size
  own := Hold.on (r := ⟨170, 3, iv, ys.length, ys.flatMap RItem.cells⟩) h.own hb

theorem FW.grow {w wr w1 : World} {nm : ByteArray} {line : Int} {iv iv' : Value} {ys : List RItem} {y : RItem} (h : FW w nm line iv ys wr) (hg : wr.grownBy w1 iv.ownBlock)
    (hown : w1.ownsRow (w.heap.size + 1) 170 3 iv' (ys.length + 1) (ys.flatMap RItem.cells ++ y.cells)) : FW w nm line iv' (ys ++ [y]) (w1.setCell ⟨w.heap.size, 1, none⟩ iv') := by
  have hsz := h.sz
  have hne : some w.heap.size ≠ iv.ownBlock := fun e => by have := (h.own.lt _ e.symm).1; omega
  have hc : ∀ o, w1.cell? ⟨w.heap.size, o, none⟩ = wr.cell? ⟨w.heap.size, o, none⟩ := fun o => hg.cell_far ⟨w.heap.size, o, none⟩ (by show w.heap.size < _; omega) hne
  exact {
    below := (h.below.grown hg (by omega) (fun j hj => by have := (h.own.lt j hj).1; omega)).setCell (Nat.le_refl _) _
    f0 := (World.cell?_setCell_other _ _ _ _ (fun e => by have := congrArg Addr.off e; simp at this)).trans ((hc 0).trans h.f0)
    f1 := World.cell?_setCell_same _ _ _ ((hc 1).trans h.f1)
    f2 := (World.cell?_setCell_other _ _ _ _ (fun e => by have := congrArg Addr.off e; simp at this)).trans ((hc 2).trans h.f2)
    fr := fun o => (World.frozen?_setCell _ _ _ _).trans ((hg.frozen_far ⟨w.heap.size, o, none⟩ (by show w.heap.size < _; omega) hne).trans (h.fr o))
    sz := by have := hg.size; simp; omega
    own := by
      have := ownsRow_setCell_below hown (a := ⟨w.heap.size, 1, none⟩) (by show w.heap.size < _; omega) iv'
      simpa using this }

end Go.Proofs.YtnmclolbndohiaaGreatDoor

/-
  The reference's 'enter', at any line.
-/
namespace Go.Proofs.YtnmclolbndohiaaGreatDoor
open Go.RowKit
open Ver

theorem ownsRow_some' {w : World} {B : Nat} {e : TypeId} {size n : Nat} {v : Value} {xs : List Value} (h : w.ownsRow B e size v n xs) (hn : 0 < n) : ∃ g cap, v = .slice (some ⟨g, 0, none⟩) n cap := by
  rcases h.2 with h' | ⟨g, cap, cur, hv, _⟩
  · omega
  · exact ⟨g, cap, hv⟩
theorem word_is {a : ByteArray} {l : List UInt8} (h : a.data.toList = l) : (a.toList == l) = true := by rw [ByteArray.toList_eq]; simpa using h
theorem word_not {a : ByteArray} {l : List UInt8} (h : a.data.toList ≠ l) : (a.toList == l) = false := by rw [ByteArray.toList_eq]; simpa using h

theorem packP_bad {p : PIdx} {nm vt : List UInt8} (h : ¬ (nameL nm = true ∧ 0 ≤ verI vt)) : packP p nm vt = none := by
  unfold packP; rw [if_neg (fun h' => h h'.1)]

end Go.Proofs.YtnmclolbndohiaaGreatDoor

/-
  The walk of the reference's 'Load': what it keeps.
-/
namespace Go.Proofs.YtnmclolbndohiaaGreatDoor
open Go.RowKit
open Ver

theorem cutL_size (c : UInt8) : ∀ (l x : List UInt8), x ∈ cutL c l → x.length ≤ l.length
  | [], x, h => by simp [cutL] at h; simp [h]
  | b :: r, x, h => by
    have ih := cutL_size c r
    unfold cutL at h
    split at h
    · rcases List.mem_cons.1 h with rfl | h
      · simp
      · have := ih x h; simp; omega
    · split at h
      · rename_i he; exact absurd he (cutL_ne c r)
      · rename_i p t he
        rcases List.mem_cons.1 h with rfl | h
        · have := ih p (by rw [he]; simp); simp; omega
        · have := ih x (by rw [he]; simp [h]); simp; omega

theorem IdxR.new (w : World) : IdxR w.heap.size [] ⟨.slice none 0 0, [], .slice none 0 0, []⟩ (w.alloc (.cells #[.slice none 0 0, .slice none 0 0] 155)) where
  c0 := by rw [World.cell?_alloc_at _ _ _ _ rfl]; simp
  c1 := by rw [World.cell?_alloc_at _ _ _ _ rfl]; simp
  fz := fun o => World.frozen?_alloc_at _ _ _ _ rfl
  lt := by simp
  forest := {
    own := fun r hr => by
      simp only [RIdx.holds, RIdx.hn, RIdx.he, List.flatMap_nil, List.nil_append, List.mem_cons, List.not_mem_nil, or_false] at hr
      rcases hr with rfl | rfl
      · exact World.ownsRow_nil _ _ _ _
      · exact World.ownsRow_nil _ _ _ _
    apart := by simp [blocksOf, RIdx.holds, RIdx.hn, RIdx.he, Value.ownBlock] }

/-- The copy of an entry that the second pass makes. -/
structure EW (w : World) (bx : Nat) (R : List Hold) (x : RIdx) (be : Nat) (en : REntry) (wr : World) : Prop where
  idx : IdxR bx R x wr
  below : Below w.heap.size w wr
  cells : ∀ o, wr.cell? ⟨be, o, none⟩ = en.cells[o]?
  lt : be < wr.heap.size
theorem EW.new {w : World} {bx : Nat} {R : List Hold} {x : RIdx} {en : REntry} {wr : World} (h : IdxR bx R x wr) (hb : Below w.heap.size w wr) :
    EW w bx R x wr.heap.size en (wr.alloc (.cells #[.int .i64 en.pack, .int .i64 en.ver, .string en.text, en.nv, en.fv] 161)) where
  idx := h.on ((Below.refl _ _).alloc (Nat.le_refl _) _)
  below := hb.alloc hb.size _
  cells := fun o => by rw [World.cell?_alloc_at _ _ _ _ rfl]; simp [REntry.cells]
  lt := by simp
theorem EW.on {w : World} {bx : Nat} {R : List Hold} {x : RIdx} {be : Nat} {en : REntry} {wr w' : World} (h : EW w bx R x be en wr) (hb : Below wr.heap.size wr w') : EW w bx R x be en w' where
  idx := h.idx.on hb
  below := h.below.trans (hb.mono h.below.size)
  cells := fun o => (hb.cell (p := ⟨be, o, none⟩) h.lt).trans (h.cells o)
  lt := Nat.lt_of_lt_of_le h.lt hb.size

theorem IdxR.needs {bx : Nat} {R : List Hold} {x : RIdx} {w : World} {en : REntry} (h : IdxR bx R x w) (he : en ∈ x.ents) : RowR w en.nv en.needs.length 7 (en.needs.flatMap RNeed.cells) :=
  h.forest.row (r := en.hn) (by simp only [RIdx.holds, List.mem_append, List.mem_cons, List.mem_flatMap]; exact Or.inr (Or.inr (Or.inr ⟨en, he, by simp [REntry.holds]⟩)))
theorem IdxR.feats {bx : Nat} {R : List Hold} {x : RIdx} {w : World} {en : REntry} (h : IdxR bx R x w) (he : en ∈ x.ents) : RowR w en.fv en.feats.length 3 (en.feats.flatMap RFeat.cells) :=
  h.forest.row (r := en.hf) (by simp only [RIdx.holds, List.mem_append, List.mem_cons, List.mem_flatMap]; exact Or.inr (Or.inr (Or.inr ⟨en, he, by simp [REntry.holds]⟩)))
theorem IdxR.items {bx : Nat} {R : List Hold} {x : RIdx} {w : World} {en : REntry} {f : RFeat} (h : IdxR bx R x w) (he : en ∈ x.ents) (hf : f ∈ en.feats) : RowR w f.iv f.items.length 3 (f.items.flatMap RItem.cells) :=
  h.forest.row (r := f.holds) (by
    simp only [RIdx.holds, List.mem_append, List.mem_cons, List.mem_flatMap]
    refine Or.inr (Or.inr (Or.inr ⟨en, he, ?_⟩))
    simp only [REntry.holds, List.mem_cons, List.mem_append, List.mem_map]
    exact Or.inr (Or.inr (Or.inr ⟨f, hf, rfl⟩)))

theorem RowR.form {w : World} {v : Value} {n sz : Nat} {xs : List Value} (h : RowR w v n sz xs) : ∃ a c, v = .slice a n c := by
  rcases h.2 with ⟨rfl, rfl⟩ | ⟨g, c, rfl, _⟩
  · exact ⟨_, _, rfl⟩
  · exact ⟨_, _, rfl⟩
/-- Of a row that is not empty: where it lies, and what each element's cells are. -/
theorem RowR.at {α : Type} {f : α → List Value} {sz : Nat} (hf : ∀ a, (f a).length = sz) {w : World} {a : Option Addr} {c : Nat} {l : List α} {j : Nat} (h : RowR w (.slice a l.length c) l.length sz (l.flatMap f)) (hj : j < l.length) :
    ∃ g, a = some ⟨g, 0, none⟩ ∧ g < w.heap.size ∧ ∀ o, o < sz → w.cell? ⟨g, j * sz + o, none⟩ = (f l[j])[o]? := by
  rcases h.2 with ⟨_, h2⟩ | ⟨g, c', h1, hg, h2⟩
  · omega
  · refine ⟨g, by simpa using (show a = some ⟨g, 0, none⟩ ∧ _ by simpa using h1).1, hg, fun o ho => ?_⟩
    have := flat_at f sz hf l j o l[j] (by simp [hj]) ho
    rw [Nat.mul_comm] at this
    rw [h2 _ ?_, this]
    have : (j + 1) * sz ≤ l.length * sz := Nat.mul_le_mul_right _ hj
    rw [Nat.succ_mul] at this
    omega

end Go.Proofs.YtnmclolbndohiaaGreatDoor

/-
  How the code's index lies in memory; the first of some things of which something holds.
-/
namespace Go.Proofs.YtnmclolbndohiaaGreatDoor
open Go.RowKit
open Ver

structure CNeed where
  name : ByteArray
  st : Int
  a : Int
  b : Int
  c : Int
  bare : Bool
  fv : Value
  feats : List ByteArray
  opt : Bool
def CNeed.cells (n : CNeed) : List Value := [.string n.name, .int .i64 n.st, .int .i64 n.a, .int .i64 n.b, .int .i64 n.c, .bool n.bare, n.fv, .bool n.opt]
def CNeed.val (n : CNeed) : Value := .agg #[.string n.name, .int .i64 n.st, .int .i64 n.a, .int .i64 n.b, .int .i64 n.c, .bool n.bare, n.fv, .bool n.opt]
structure CItem where
  kind : Int
  pack : ByteArray
  feat : ByteArray
def CItem.cells (y : CItem) : List Value := [.int .i64 y.kind, .string y.pack, .string y.feat]
structure CFeat where
  name : ByteArray
  iv : Value
  items : List CItem
def CFeat.cells (f : CFeat) : List Value := [.string f.name, f.iv]
def CFeat.val (f : CFeat) : Value := .agg #[.string f.name, f.iv]
structure CEnt where
  b : Nat
  v0 : Int
  v1 : Int
  v2 : Int
  nv : Value
  needs : List CNeed
  fv : Value
  feats : List CFeat
def CEnt.cells (e : CEnt) : List Value := [.int .i64 e.v0, .int .i64 e.v1, .int .i64 e.v2, e.nv, e.fv]
structure CPack where
  b : Nat
  name : ByteArray
  ev : Value
  ents : List CEnt
def CPack.cells (p : CPack) : List Value := [.string p.name, p.ev]
def ptrTo (b : Nat) : Value := .pointer (some ⟨b, 0, none⟩)

theorem CNeed.len (n : CNeed) : n.cells.length = 8 := rfl
theorem CItem.len (n : CItem) : n.cells.length = 3 := rfl
theorem CFeat.len (n : CFeat) : n.cells.length = 2 := rfl

/-- The first of some Booleans that is true; -1: none. -/
def findL : List Bool → Int
  | [] => -1
  | true :: _ => 0
  | false :: r => if findL r < 0 then -1 else findL r + 1
theorem findL_from : ∀ (l : List Bool) (k : Nat), (∀ j a, j < k → l[j]? = some a → a = false) → (l[k]? = some true → findL l = k) ∧ (l.length ≤ k → findL l = -1)
  | [], k, _ => ⟨fun h => by simp at h, fun _ => rfl⟩
  | b :: r, 0, _ => ⟨fun h => by simp at h; subst h; rfl, fun h => by simp at h⟩
  | b :: r, k + 1, h => by
    have hb : b = false := h 0 b (by omega) rfl
    subst hb
    have ih := findL_from r k (fun j a hj ha => h (j + 1) a (by omega) (by simpa using ha))
    refine ⟨fun ha => ?_, fun hl => ?_⟩
    · have := ih.1 (by simpa using ha)
      unfold findL; rw [this, if_neg (by omega)]; push_cast; rfl
    · have := ih.2 (by simpa using hl)
      unfold findL; rw [this, if_pos (by omega)]
theorem findL_bd : ∀ l : List Bool, -1 ≤ findL l ∧ findL l < l.length
  | [] => by simp [findL]
  | true :: r => by simp [findL]
  | false :: r => by
    have := findL_bd r
    unfold findL
    split
    · simp; omega
    · simp; omega
theorem idxL_find (x : List UInt8) : ∀ l : List (List UInt8), idxL l x = findL (l.map fun a => decide (a = x))
  | [] => rfl
  | a :: r => by
    unfold idxL
    rw [idxL_find x r, List.map_cons]
    by_cases h : a = x
    · rw [if_pos h, decide_eq_true h]; rfl
    · rw [if_neg h, decide_eq_false h]; rfl
end Go.Proofs.YtnmclolbndohiaaGreatDoor

/-
  The walks of slices.IndexFunc at the code's four element types: what the function value says is a premise.
-/
namespace Go.Proofs.YtnmclolbndohiaaGreatDoor
open Go.RowKit
open Ver

set_option maxHeartbeats 800000 in
set_option maxRecDepth 100000 in
theorem idxFuncP (g cap bb : Nat) (bs : List Bool) (bl : Nat → Nat) (w : World) (hn : bs.length ≤ 1048576) (hg : g < w.heap.size) (HC : Hid (∀ j, j < bs.length → w.cell? ⟨g, j, none⟩ = some (ptrTo (bl j))))
    (HF : Hid (∀ j (h : j < bs.length) (W : World), Below w.heap.size w W → Calls Tryz.prog 86 #[ptrTo (bl j), ptrTo bb] W fun e w' => e = .returned (.bool bs[j]) ∧ Below W.heap.size W w')) :
    Calls Tryz.prog 85 #[.slice (some ⟨g, 0, none⟩) bs.length cap, .func (.func 86) #[] #[ptrTo bb]] w fun e w' => e = .returned (.int .i64 (findL bs)) ∧ Below w.heap.size w w' := by
  unfold ptrTo at *
  go_enter Tryz.func85, Tryz.ntmps85
  go_wp2
  go_loopw [8] (fun i wr => ∃ k : Nat, k ≤ bs.length ∧ i = .int .i64 k ∧ Below w.heap.size w wr ∧ ∀ j a, j < k → bs[j]? = some a → a = false) (fun i _ => bs.length - (intOf i).toNat)
  case atStart => exact ⟨0, by omega, rfl, Below.refl _ _, fun j a hj => by omega⟩
  case round =>
    obtain ⟨k, hk, rfl, hb, hno⟩ := hrel
    have HB : Hid (Below w.heap.size w wr) := hb
    have HNO : Hid (∀ j a, j < k → bs[j]? = some a → a = false) := hno
    clear hno
    by_cases hlt : k < bs.length
    · have HBK : Hid (bs[k]? = some bs[k]) := by show _ = _; simp [hlt]
      have HFK := HF.out k hlt wr hb
      have hck : wr.cell? ⟨g, k, none⟩ = some (.pointer (some ⟨bl k, 0, none⟩)) := (hb.cell (p := ⟨g, k, none⟩) hg).trans (HC.out k hlt)
      generalize bl k = bk at *
      have HFK' : Hid (_) := HFK
      clear HFK hb
      generalize bs[k] = b at *
      go_wp2_with fail
      refine Calls.mono HFK'.out ?_
      rintro e w1 ⟨rfl, hb1⟩
      have HB1 : Hid (Below w.heap.size w w1) := HB.out.trans (hb1.mono HB.out.size)
      clear hb1 HFK' HB
      cases b
      · have HN1 : Hid (∀ j a, j < k + 1 → bs[j]? = some a → a = false) := fun j a hj ha => by
          by_cases e : j = k
          · subst e; rw [HBK.out] at ha; exact (Option.some.inj ha).symm
          · exact HNO.out j a (by omega) ha
        clear HBK HNO
        go_wp2
        go_roundw
        case rel => exact ⟨k + 1, by omega, by go_num, HB1.out, HN1.out⟩
        case measure => simp [intOf]; omega
      · have HR : Hid (findL bs = k) := (findL_from bs k HNO.out).1 HBK.out
        clear HBK HNO
        go_wp2
        go_ret
        exact ⟨ret_int HR.out.symm, HB1.out⟩
    · have HR : Hid (findL bs = -1) := (findL_from bs k HNO.out).2 (by omega)
      clear HNO hb
      go_wp2
      go_ret
      exact ⟨ret_int HR.out.symm, HB.out⟩

set_option maxHeartbeats 400000 in
theorem idxFuncP_nil (fv : Value) (w : World) :
    Calls Tryz.prog 85 #[.slice none 0 0, fv] w fun e w' => e = .returned (.int .i64 (-1)) ∧ w' = w := by
  go_enter Tryz.func85, Tryz.ntmps85
  go_wp2
  refine wp_loop_rounds 1 ?_
  rw [rounds_succ]
  go_wp2
  go_ret
  exact ⟨rfl, rfl⟩

set_option maxHeartbeats 800000 in
set_option maxRecDepth 100000 in
theorem idxFuncE (g cap bb : Nat) (bs : List Bool) (bl : Nat → Nat) (w : World) (hn : bs.length ≤ 1048576) (hg : g < w.heap.size) (HC : Hid (∀ j, j < bs.length → w.cell? ⟨g, j, none⟩ = some (ptrTo (bl j))))
    (HF : Hid (∀ j (h : j < bs.length) (W : World), Below w.heap.size w W → Calls Tryz.prog 135 #[ptrTo (bl j), ptrTo bb] W fun e w' => e = .returned (.bool bs[j]) ∧ Below W.heap.size W w')) :
    Calls Tryz.prog 134 #[.slice (some ⟨g, 0, none⟩) bs.length cap, .func (.func 135) #[] #[ptrTo bb]] w fun e w' => e = .returned (.int .i64 (findL bs)) ∧ Below w.heap.size w w' := by
  unfold ptrTo at *
  go_enter Tryz.func134, Tryz.ntmps134
  go_wp2
  go_loopw [8] (fun i wr => ∃ k : Nat, k ≤ bs.length ∧ i = .int .i64 k ∧ Below w.heap.size w wr ∧ ∀ j a, j < k → bs[j]? = some a → a = false) (fun i _ => bs.length - (intOf i).toNat)
  case atStart => exact ⟨0, by omega, rfl, Below.refl _ _, fun j a hj => by omega⟩
  case round =>
    obtain ⟨k, hk, rfl, hb, hno⟩ := hrel
    have HB : Hid (Below w.heap.size w wr) := hb
    have HNO : Hid (∀ j a, j < k → bs[j]? = some a → a = false) := hno
    clear hno
    by_cases hlt : k < bs.length
    · have HBK : Hid (bs[k]? = some bs[k]) := by show _ = _; simp [hlt]
      have HFK := HF.out k hlt wr hb
      have hck : wr.cell? ⟨g, k, none⟩ = some (.pointer (some ⟨bl k, 0, none⟩)) := (hb.cell (p := ⟨g, k, none⟩) hg).trans (HC.out k hlt)
      generalize bl k = bk at *
      have HFK' : Hid (_) := HFK
      clear HFK hb
      generalize bs[k] = b at *
      go_wp2_with fail
      refine Calls.mono HFK'.out ?_
      rintro e w1 ⟨rfl, hb1⟩
      have HB1 : Hid (Below w.heap.size w w1) := HB.out.trans (hb1.mono HB.out.size)
      clear hb1 HFK' HB
      cases b
      · have HN1 : Hid (∀ j a, j < k + 1 → bs[j]? = some a → a = false) := fun j a hj ha => by
          by_cases e : j = k
          · subst e; rw [HBK.out] at ha; exact (Option.some.inj ha).symm
          · exact HNO.out j a (by omega) ha
        clear HBK HNO
        go_wp2
        go_roundw
        case rel => exact ⟨k + 1, by omega, by go_num, HB1.out, HN1.out⟩
        case measure => simp [intOf]; omega
      · have HR : Hid (findL bs = k) := (findL_from bs k HNO.out).1 HBK.out
        clear HBK HNO
        go_wp2
        go_ret
        exact ⟨ret_int HR.out.symm, HB1.out⟩
    · have HR : Hid (findL bs = -1) := (findL_from bs k HNO.out).2 (by omega)
      clear HNO hb
      go_wp2
      go_ret
      exact ⟨ret_int HR.out.symm, HB.out⟩

set_option maxHeartbeats 400000 in
theorem idxFuncE_nil (fv : Value) (w : World) :
    Calls Tryz.prog 134 #[.slice none 0 0, fv] w fun e w' => e = .returned (.int .i64 (-1)) ∧ w' = w := by
  go_enter Tryz.func134, Tryz.ntmps134
  go_wp2
  refine wp_loop_rounds 1 ?_
  rw [rounds_succ]
  go_wp2
  go_ret
  exact ⟨rfl, rfl⟩

set_option maxHeartbeats 800000 in
set_option maxRecDepth 100000 in
theorem idxFuncN (g cap bb : Nat) (bs : List Bool) (el : Nat → CNeed) (w : World) (hn : bs.length ≤ 1048576) (hg : g < w.heap.size) (HC : Hid (∀ j, j < bs.length → ∀ o, o < 8 → w.cell? ⟨g, j * 8 + o, none⟩ = (el j).cells[o]?))
    (HF : Hid (∀ j (h : j < bs.length) (W : World), Below w.heap.size w W → Calls Tryz.prog 167 #[(el j).val, ptrTo bb] W fun e w' => e = .returned (.bool bs[j]) ∧ Below W.heap.size W w')) :
    Calls Tryz.prog 166 #[.slice (some ⟨g, 0, none⟩) bs.length cap, .func (.func 167) #[] #[ptrTo bb]] w fun e w' => e = .returned (.int .i64 (findL bs)) ∧ Below w.heap.size w w' := by
  unfold ptrTo at *
  go_enter Tryz.func166, Tryz.ntmps166
  go_wp2
  go_loopw [8] (fun i wr => ∃ k : Nat, k ≤ bs.length ∧ i = .int .i64 k ∧ Below w.heap.size w wr ∧ ∀ j a, j < k → bs[j]? = some a → a = false) (fun i _ => bs.length - (intOf i).toNat)
  case atStart => exact ⟨0, by omega, rfl, Below.refl _ _, fun j a hj => by omega⟩
  case round =>
    obtain ⟨k, hk, rfl, hb, hno⟩ := hrel
    have HB : Hid (Below w.heap.size w wr) := hb
    have HNO : Hid (∀ j a, j < k → bs[j]? = some a → a = false) := hno
    clear hno
    by_cases hlt : k < bs.length
    · have HBK : Hid (bs[k]? = some bs[k]) := by show _ = _; simp [hlt]
      have HFK := HF.out k hlt wr hb
      have d0 := (hb.cell (p := ⟨g, k * 8 + 0, none⟩) hg).trans (HC.out k hlt 0 (by omega))
      have d1 := (hb.cell (p := ⟨g, k * 8 + 1, none⟩) hg).trans (HC.out k hlt 1 (by omega))
      have d2 := (hb.cell (p := ⟨g, k * 8 + 2, none⟩) hg).trans (HC.out k hlt 2 (by omega))
      have d3 := (hb.cell (p := ⟨g, k * 8 + 3, none⟩) hg).trans (HC.out k hlt 3 (by omega))
      have d4 := (hb.cell (p := ⟨g, k * 8 + 4, none⟩) hg).trans (HC.out k hlt 4 (by omega))
      have d5 := (hb.cell (p := ⟨g, k * 8 + 5, none⟩) hg).trans (HC.out k hlt 5 (by omega))
      have d6 := (hb.cell (p := ⟨g, k * 8 + 6, none⟩) hg).trans (HC.out k hlt 6 (by omega))
      have d7 := (hb.cell (p := ⟨g, k * 8 + 7, none⟩) hg).trans (HC.out k hlt 7 (by omega))
      simp only [CNeed.cells, List.getElem?_cons_zero, List.getElem?_cons_succ, Nat.add_zero] at d0 d1 d2 d3 d4 d5 d6 d7
      unfold CNeed.val at HFK
      generalize (el k).name = y_name at *
      generalize (el k).st = y_st at *
      generalize (el k).a = y_a at *
      generalize (el k).b = y_b at *
      generalize (el k).c = y_c at *
      generalize (el k).bare = y_bare at *
      generalize (el k).fv = y_fv at *
      generalize (el k).opt = y_opt at *
      have HFK' : Hid (_) := HFK
      clear HFK hb
      generalize bs[k] = b at *
      go_wp2_with fail
      refine Calls.mono HFK'.out ?_
      rintro e w1 ⟨rfl, hb1⟩
      have HB1 : Hid (Below w.heap.size w w1) := HB.out.trans (hb1.mono HB.out.size)
      clear hb1 HFK' HB
      cases b
      · have HN1 : Hid (∀ j a, j < k + 1 → bs[j]? = some a → a = false) := fun j a hj ha => by
          by_cases e : j = k
          · subst e; rw [HBK.out] at ha; exact (Option.some.inj ha).symm
          · exact HNO.out j a (by omega) ha
        clear HBK HNO
        go_wp2
        go_roundw
        case rel => exact ⟨k + 1, by omega, by go_num, HB1.out, HN1.out⟩
        case measure => simp [intOf]; omega
      · have HR : Hid (findL bs = k) := (findL_from bs k HNO.out).1 HBK.out
        clear HBK HNO
        go_wp2
        go_ret
        exact ⟨ret_int HR.out.symm, HB1.out⟩
    · have HR : Hid (findL bs = -1) := (findL_from bs k HNO.out).2 (by omega)
      clear HNO hb
      go_wp2
      go_ret
      exact ⟨ret_int HR.out.symm, HB.out⟩

set_option maxHeartbeats 400000 in
theorem idxFuncN_nil (fv : Value) (w : World) :
    Calls Tryz.prog 166 #[.slice none 0 0, fv] w fun e w' => e = .returned (.int .i64 (-1)) ∧ w' = w := by
  go_enter Tryz.func166, Tryz.ntmps166
  go_wp2
  refine wp_loop_rounds 1 ?_
  rw [rounds_succ]
  go_wp2
  go_ret
  exact ⟨rfl, rfl⟩

set_option maxHeartbeats 800000 in
set_option maxRecDepth 100000 in
theorem idxFuncF (g cap bb : Nat) (bs : List Bool) (el : Nat → CFeat) (w : World) (hn : bs.length ≤ 1048576) (hg : g < w.heap.size) (HC : Hid (∀ j, j < bs.length → ∀ o, o < 2 → w.cell? ⟨g, j * 2 + o, none⟩ = (el j).cells[o]?))
    (HF : Hid (∀ j (h : j < bs.length) (W : World), Below w.heap.size w W → Calls Tryz.prog 169 #[(el j).val, ptrTo bb] W fun e w' => e = .returned (.bool bs[j]) ∧ Below W.heap.size W w')) :
    Calls Tryz.prog 168 #[.slice (some ⟨g, 0, none⟩) bs.length cap, .func (.func 169) #[] #[ptrTo bb]] w fun e w' => e = .returned (.int .i64 (findL bs)) ∧ Below w.heap.size w w' := by
  unfold ptrTo at *
  go_enter Tryz.func168, Tryz.ntmps168
  go_wp2
  go_loopw [8] (fun i wr => ∃ k : Nat, k ≤ bs.length ∧ i = .int .i64 k ∧ Below w.heap.size w wr ∧ ∀ j a, j < k → bs[j]? = some a → a = false) (fun i _ => bs.length - (intOf i).toNat)
  case atStart => exact ⟨0, by omega, rfl, Below.refl _ _, fun j a hj => by omega⟩
  case round =>
    obtain ⟨k, hk, rfl, hb, hno⟩ := hrel
    have HB : Hid (Below w.heap.size w wr) := hb
    have HNO : Hid (∀ j a, j < k → bs[j]? = some a → a = false) := hno
    clear hno
    by_cases hlt : k < bs.length
    · have HBK : Hid (bs[k]? = some bs[k]) := by show _ = _; simp [hlt]
      have HFK := HF.out k hlt wr hb
      have d0 := (hb.cell (p := ⟨g, k * 2 + 0, none⟩) hg).trans (HC.out k hlt 0 (by omega))
      have d1 := (hb.cell (p := ⟨g, k * 2 + 1, none⟩) hg).trans (HC.out k hlt 1 (by omega))
      simp only [CFeat.cells, List.getElem?_cons_zero, List.getElem?_cons_succ, Nat.add_zero] at d0 d1
      unfold CFeat.val at HFK
      generalize (el k).name = y_name at *
      generalize (el k).iv = y_iv at *
      have HFK' : Hid (_) := HFK
      clear HFK hb
      generalize bs[k] = b at *
      go_wp2_with fail
      refine Calls.mono HFK'.out ?_
      rintro e w1 ⟨rfl, hb1⟩
      have HB1 : Hid (Below w.heap.size w w1) := HB.out.trans (hb1.mono HB.out.size)
      clear hb1 HFK' HB
      cases b
      · have HN1 : Hid (∀ j a, j < k + 1 → bs[j]? = some a → a = false) := fun j a hj ha => by
          by_cases e : j = k
          · subst e; rw [HBK.out] at ha; exact (Option.some.inj ha).symm
          · exact HNO.out j a (by omega) ha
        clear HBK HNO
        go_wp2
        go_roundw
        case rel => exact ⟨k + 1, by omega, by go_num, HB1.out, HN1.out⟩
        case measure => simp [intOf]; omega
      · have HR : Hid (findL bs = k) := (findL_from bs k HNO.out).1 HBK.out
        clear HBK HNO
        go_wp2
        go_ret
        exact ⟨ret_int HR.out.symm, HB1.out⟩
    · have HR : Hid (findL bs = -1) := (findL_from bs k HNO.out).2 (by omega)
      clear HNO hb
      go_wp2
      go_ret
      exact ⟨ret_int HR.out.symm, HB.out⟩

set_option maxHeartbeats 400000 in
theorem idxFuncF_nil (fv : Value) (w : World) :
    Calls Tryz.prog 168 #[.slice none 0 0, fv] w fun e w' => e = .returned (.int .i64 (-1)) ∧ w' = w := by
  go_enter Tryz.func168, Tryz.ntmps168
  go_wp2
  refine wp_loop_rounds 1 ?_
  rw [rounds_succ]
  go_wp2
  go_ret
  exact ⟨rfl, rfl⟩

end Go.Proofs.YtnmclolbndohiaaGreatDoor

/-
  The walks of the code's look-ups: Place, Has, Find, Need, Feature, and of the function values that they hand on.
-/
namespace Go.Proofs.YtnmclolbndohiaaGreatDoor
open Go.RowKit
open Ver

theorem str_dec (a b : ByteArray) : (a.toList == b.toList) = decide (a.data.toList = b.data.toList) := by
  by_cases h : a.data.toList = b.data.toList
  · rw [str_eq h, decide_eq_true h]
  · rw [str_ne h, decide_eq_false h]

theorem eqArr3' (d : Nat) (a0 a1 a2 b0 b1 b2 : Int) (w : World) :
    (Op.equalIn (d + 1 + 1) 56 (.agg #[.int .i64 a0, .int .i64 a1, .int .i64 a2]) (.agg #[.int .i64 b0, .int .i64 b1, .int .i64 b2])).run Tryz.prog w = .ok (a0 == b0 && (a1 == b1 && a2 == b2)) w := by
  have hz : ∀ w : World, (sizeOf 3).run Tryz.prog w = .ok 1 w := fun w => by kernel_rfl
  have hp : ∀ (xs : Array Value) (i : Nat) (v : Value) (w : World), xs[i]? = some v → (part 3 xs i).run Tryz.prog w = .ok v w := fun xs i v w h => by
    have hg : (isAgg 3).run Tryz.prog w = .ok false w := by kernel_rfl
    simp [part, hg, h]
  have he : ∀ (a b : Int) (w : World), (Op.equalIn (d + 1) 3 (.int .i64 a) (.int .i64 b)).run Tryz.prog w = .ok (a == b) w := fun a b w => run_equalIn_int w d 3 .i64 .i64 a b Tryz.underlying3
  rw [Op.equalIn]
  simp only [Sem.run_bind, run_underlying Tryz.underlying56, Result.andThen_ok]
  simp [hz, Std.Legacy.Range.forIn_eq_forIn_range', List.range', Std.Legacy.Range.size, hp, he, Sem.run_bind, Sem.run_ite]
  by_cases h0 : a0 = b0 <;> by_cases h1 : a1 = b1 <;> by_cases h2 : a2 = b2 <;> simp [h0, h1, h2]
theorem eqArr3 (a0 a1 a2 b0 b1 b2 : Int) (w : World) :
    (Op.equalIn 10000 56 (.agg #[.int .i64 a0, .int .i64 a1, .int .i64 a2]) (.agg #[.int .i64 b0, .int .i64 b1, .int .i64 b2])).run Tryz.prog w = .ok (a0 == b0 && (a1 == b1 && a2 == b2)) w := eqArr3' 9998 a0 a1 a2 b0 b1 b2 w

set_option maxHeartbeats 400000 in
theorem place1_any (b bb : Nat) (nm x : ByteArray) (w : World) (h0 : w.cell? ⟨b, 0, none⟩ = some (.string nm)) (h1 : w.cell? ⟨bb, 0, none⟩ = some (.string x)) :
    Calls Tryz.prog 86 #[ptrTo b, ptrTo bb] w fun e w' => e = .returned (.bool (decide (nm.data.toList = x.data.toList))) ∧ Below w.heap.size w w' := by
  unfold ptrTo
  obtain ⟨B, hB⟩ : ∃ B, decide (nm.data.toList = x.data.toList) = B := ⟨_, rfl⟩
  rw [hB]
  have hq : (nm.toList == x.toList) = B := (str_dec _ _).trans hB
  clear hB
  go_enter Tryz.func86, Tryz.ntmps86
  go_wp2
  go_quiet (fail)
  go_wp2
  go_ret
  exact ⟨rfl, below_drewN _ _⟩

set_option maxHeartbeats 400000 in
theorem find1_any (b bb : Nat) (p0 p1 p2 q0 q1 q2 : Int) (w : World) (h0 : w.cell? ⟨b, 0, none⟩ = some (.int .i64 p0)) (h1 : w.cell? ⟨b, 1, none⟩ = some (.int .i64 p1)) (h2 : w.cell? ⟨b, 2, none⟩ = some (.int .i64 p2))
    (g0 : w.cell? ⟨bb, 0, none⟩ = some (.int .i64 q0)) (g1 : w.cell? ⟨bb, 1, none⟩ = some (.int .i64 q1)) (g2 : w.cell? ⟨bb, 2, none⟩ = some (.int .i64 q2)) :
    Calls Tryz.prog 135 #[ptrTo b, ptrTo bb] w fun e w' => e = .returned (.bool (decide (p0 = q0 ∧ p1 = q1 ∧ p2 = q2))) ∧ Below w.heap.size w w' := by
  unfold ptrTo
  obtain ⟨B, hB⟩ : ∃ B, decide (p0 = q0 ∧ p1 = q1 ∧ p2 = q2) = B := ⟨_, rfl⟩
  rw [hB]
  have heq : ∀ w : World, (Op.equalIn 10000 56 (.agg #[.int .i64 p0, .int .i64 p1, .int .i64 p2]) (.agg #[.int .i64 q0, .int .i64 q1, .int .i64 q2])).run Tryz.prog w = .ok B w := fun w => by
    rw [eqArr3, ← hB]
    by_cases h0 : p0 = q0 <;> by_cases h1 : p1 = q1 <;> by_cases h2 : p2 = q2 <;> simp [h0, h1, h2]
  clear hB
  go_enter Tryz.func135, Tryz.ntmps135
  go_wp2
  go_quiet (fail)
  go_wp2
  go_ret
  exact ⟨rfl, below_drewN _ _⟩

set_option maxHeartbeats 400000 in
theorem need1_any (n : CNeed) (bb : Nat) (x : ByteArray) (w : World) (hbb : bb < w.heap.size) (h1 : w.cell? ⟨bb, 0, none⟩ = some (.string x)) :
    Calls Tryz.prog 167 #[n.val, ptrTo bb] w fun e w' => e = .returned (.bool (decide (n.name.data.toList = x.data.toList))) ∧ Below w.heap.size w w' := by
  unfold ptrTo CNeed.val
  obtain ⟨B, hB⟩ : ∃ B, decide (n.name.data.toList = x.data.toList) = B := ⟨_, rfl⟩
  rw [hB]
  obtain ⟨name, st, a, b, c, bare, fv, feats, opt⟩ := n
  have hq : (name.toList == x.toList) = B := (str_dec _ _).trans hB
  clear hB
  go_enter Tryz.func167, Tryz.ntmps167
  go_wp2
  go_ret
  exact ⟨rfl, (Below.refl _ _).alloc (Nat.le_refl _) _⟩

set_option maxHeartbeats 400000 in
theorem feature1_any (n : CFeat) (bb : Nat) (x : ByteArray) (w : World) (hbb : bb < w.heap.size) (h1 : w.cell? ⟨bb, 0, none⟩ = some (.string x)) :
    Calls Tryz.prog 169 #[n.val, ptrTo bb] w fun e w' => e = .returned (.bool (decide (n.name.data.toList = x.data.toList))) ∧ Below w.heap.size w w' := by
  unfold ptrTo CFeat.val
  obtain ⟨B, hB⟩ : ∃ B, decide (n.name.data.toList = x.data.toList) = B := ⟨_, rfl⟩
  rw [hB]
  obtain ⟨name, iv, items⟩ := n
  have hq : (name.toList == x.toList) = B := (str_dec _ _).trans hB
  clear hB
  go_enter Tryz.func169, Tryz.ntmps169
  go_wp2
  go_ret
  exact ⟨rfl, (Below.refl _ _).alloc (Nat.le_refl _) _⟩

end Go.Proofs.YtnmclolbndohiaaGreatDoor

/-
  The walks of the code's Place, Has, Find.
-/
namespace Go.Proofs.YtnmclolbndohiaaGreatDoor
open Go.RowKit
open Ver

set_option maxHeartbeats 800000 in
theorem place_any (ib : Nat) (pv : Value) (packs : List CPack) (x : ByteArray) (w : World) (hl : packs.length ≤ 1048576) (hi : ib < w.heap.size) (hc : w.cell? ⟨ib, 0, none⟩ = some pv)
    (hr : RowR w pv packs.length 1 (packs.map fun p => ptrTo p.b)) (hn : ∀ p ∈ packs, p.b < w.heap.size ∧ w.cell? ⟨p.b, 0, none⟩ = some (.string p.name)) :
    Calls Tryz.prog 53 #[ptrTo ib, .string x] w fun e w' => e = .returned (.int .i64 (idxL (packs.map fun p => p.name.data.toList) x.data.toList)) ∧ Below w.heap.size w w' := by
  have hb0 : Below w.heap.size w (w.alloc (.cells #[.string x] 9)) := (Below.refl _ _).alloc (Nat.le_refl _) _
  have HB0 : Hid (Below w.heap.size w (w.alloc (.cells #[.string x] 9))) := hb0
  have hE : idxL (packs.map fun p => p.name.data.toList) x.data.toList = findL (packs.map fun p => decide (p.name.data.toList = x.data.toList)) := by
    rw [idxL_find, List.map_map]; rfl
  rw [hE]
  clear hE
  rcases hr.2 with ⟨rfl, h0⟩ | ⟨g, cap, rfl, hg, hcells⟩
  · have hP : packs = [] := List.length_eq_zero_iff.1 h0
    subst hP
    have HF : Hid (∀ (fv : Value) (w : World), Calls Tryz.prog 85 #[.slice none 0 0, fv] w fun e w' => e = .returned (.int .i64 (-1)) ∧ w' = w) := idxFuncP_nil
    clear hr hn hb0
    unfold ptrTo
    go_enter Tryz.func53, Tryz.ntmps53
    go_wp2_with fail
    refine (HF.out _ _).mono ?_
    rintro e w' ⟨rfl, rfl⟩
    go_wp2
    go_ret
    exact ⟨rfl, HB0.out⟩
  · have HF : Hid (Calls Tryz.prog 85 #[.slice (some ⟨g, 0, none⟩) packs.length cap, .func (.func 86) #[] #[.pointer (some ⟨w.heap.size, 0, none⟩)]] (w.alloc (.cells #[.string x] 9)) fun e w' => e = .returned (.int .i64 (findL (packs.map fun p => decide (p.name.data.toList = x.data.toList)))) ∧ Below (w.alloc (.cells #[.string x] 9)).heap.size (w.alloc (.cells #[.string x] 9)) w') := by
      have := idxFuncP g cap w.heap.size (packs.map fun p => decide (p.name.data.toList = x.data.toList)) (fun j => (packs[j]?.map fun p => p.b).getD 0) (w.alloc (.cells #[.string x] 9)) (by simpa using hl) (by simp; omega)
        (fun j hj => by
          have hj' : j < packs.length := by simpa using hj
          rw [hb0.cell (p := ⟨g, j, none⟩) hg, hcells j (by omega)]
          simp [hj'])
        (fun j hj W hW => by
          have hj' : j < packs.length := by simpa using hj
          have hp := hn packs[j] (List.getElem_mem _)
          have e1 : (packs[j]?.map fun p => p.b).getD 0 = packs[j].b := by simp [hj']
          have e2 : (packs.map fun p => decide (p.name.data.toList = x.data.toList))[j] = decide (packs[j].name.data.toList = x.data.toList) := by simp
          rw [e1, e2]
          refine place1_any _ _ _ _ W ?_ ?_
          · rw [hW.cell (p := ⟨packs[j].b, 0, none⟩) (by simp; omega), hb0.cell (p := ⟨packs[j].b, 0, none⟩) hp.1]; exact hp.2
          · rw [hW.cell (p := ⟨w.heap.size, 0, none⟩) (by simp), World.cell?_alloc_at _ _ _ _ rfl]; simp)
      rw [List.length_map] at this
      exact this
    have hc' : (w.alloc (.cells #[.string x] 9)).cell? ⟨ib, 0, none⟩ = some (.slice (some ⟨g, 0, none⟩) packs.length cap) := (hb0.cell (p := ⟨ib, 0, none⟩) hi).trans hc
    generalize findL (packs.map fun p => decide (p.name.data.toList = x.data.toList)) = R at *
    clear hr hn hcells hb0 hc
    unfold ptrTo
    go_enter Tryz.func53, Tryz.ntmps53
    go_wp2_with fail
    refine Calls.mono HF.out ?_
    rintro e w' ⟨rfl, hb1⟩
    have HB1 : Hid (Below w.heap.size w w') := HB0.out.trans (hb1.mono (by simp))
    clear hb1 HF HB0 hc'
    go_wp2
    go_ret
    exact ⟨rfl, HB1.out⟩

set_option maxHeartbeats 400000 in
theorem has_any (ib : Nat) (pv : Value) (packs : List CPack) (x : ByteArray) (w : World) (hl : packs.length ≤ 1048576) (hi : ib < w.heap.size) (hc : w.cell? ⟨ib, 0, none⟩ = some pv)
    (hr : RowR w pv packs.length 1 (packs.map fun p => ptrTo p.b)) (hn : ∀ p ∈ packs, p.b < w.heap.size ∧ w.cell? ⟨p.b, 0, none⟩ = some (.string p.name)) :
    Calls Tryz.prog 30 #[ptrTo ib, .string x] w fun e w' => e = .returned (.bool (decide (0 ≤ idxL (packs.map fun p => p.name.data.toList) x.data.toList))) ∧ Below w.heap.size w w' := by
  have HP := place_any ib pv packs x w hl hi hc hr hn
  generalize idxL (packs.map fun p => p.name.data.toList) x.data.toList = K at *
  have HP' : Hid (Calls Tryz.prog 53 #[ptrTo ib, .string x] w fun e w' => e = .returned (.int .i64 K) ∧ Below w.heap.size w w') := HP
  clear HP hr hn hc
  unfold ptrTo at *
  go_enter Tryz.func30, Tryz.ntmps30
  go_wp2_with fail
  refine Calls.mono HP'.out ?_
  rintro e w' ⟨rfl, hb1⟩
  have HB1 : Hid (Below w.heap.size w w') := hb1
  clear hb1 HP'
  go_wp2
  go_ret
  exact ⟨rfl, HB1.out⟩

/-- Which of some versions is this one? -1: none. -/
def idxV (l : List (Int × Int × Int)) (v : Int × Int × Int) : Int := findL (l.map fun a => decide (a.1 = v.1 ∧ a.2.1 = v.2.1 ∧ a.2.2 = v.2.2))
def CEnt.ver (e : CEnt) : Int × Int × Int := (e.v0, e.v1, e.v2)

set_option maxHeartbeats 800000 in
theorem find_any (pb : Nat) (ev : Value) (ents : List CEnt) (q0 q1 q2 : Int) (w : World) (hl : ents.length ≤ 1048576) (hi : pb < w.heap.size) (hc : w.cell? ⟨pb, 1, none⟩ = some ev)
    (hr : RowR w ev ents.length 1 (ents.map fun p => ptrTo p.b)) (hn : ∀ p ∈ ents, p.b < w.heap.size ∧ ∀ o, o < 3 → w.cell? ⟨p.b, o, none⟩ = p.cells[o]?) :
    Calls Tryz.prog 95 #[ptrTo pb, .agg #[.int .i64 q0, .int .i64 q1, .int .i64 q2]] w fun e w' => (∃ v, e = .returned (.pointer v) ∧ v.isNone = decide (idxV (ents.map CEnt.ver) (q0, q1, q2) < 0)) ∧ Below w.heap.size w w' := by
  have hb0 : Below w.heap.size w (w.alloc (.cells #[.int .i64 q0, .int .i64 q1, .int .i64 q2] 56)) := (Below.refl _ _).alloc (Nat.le_refl _) _
  have HB0 : Hid (Below w.heap.size w (w.alloc (.cells #[.int .i64 q0, .int .i64 q1, .int .i64 q2] 56))) := hb0
  have hE : idxV (ents.map CEnt.ver) (q0, q1, q2) = findL (ents.map fun p => decide (p.v0 = q0 ∧ p.v1 = q1 ∧ p.v2 = q2)) := by
    unfold idxV; rw [List.map_map]; rfl
  rw [hE]
  clear hE
  rcases hr.2 with ⟨rfl, h0⟩ | ⟨g, cap, rfl, hg, hcells⟩
  · have hP : ents = [] := List.length_eq_zero_iff.1 h0
    subst hP
    have HF : Hid (∀ (fv : Value) (w : World), Calls Tryz.prog 134 #[.slice none 0 0, fv] w fun e w' => e = .returned (.int .i64 (-1)) ∧ w' = w) := idxFuncE_nil
    clear hr hn hb0
    unfold ptrTo
    go_enter Tryz.func95, Tryz.ntmps95
    go_wp2_with fail
    refine (HF.out _ _).mono ?_
    rintro e w' ⟨rfl, rfl⟩
    go_wp2
    go_ret
    exact ⟨⟨none, rfl, rfl⟩, HB0.out⟩
  · have HF : Hid (Calls Tryz.prog 134 #[.slice (some ⟨g, 0, none⟩) ents.length cap, .func (.func 135) #[] #[.pointer (some ⟨w.heap.size, 0, none⟩)]] (w.alloc (.cells #[.int .i64 q0, .int .i64 q1, .int .i64 q2] 56)) fun e w' => e = .returned (.int .i64 (findL (ents.map fun p => decide (p.v0 = q0 ∧ p.v1 = q1 ∧ p.v2 = q2)))) ∧ Below (w.alloc (.cells #[.int .i64 q0, .int .i64 q1, .int .i64 q2] 56)).heap.size (w.alloc (.cells #[.int .i64 q0, .int .i64 q1, .int .i64 q2] 56)) w') := by
      have := idxFuncE g cap w.heap.size (ents.map fun p => decide (p.v0 = q0 ∧ p.v1 = q1 ∧ p.v2 = q2)) (fun j => (ents[j]?.map fun p => p.b).getD 0) (w.alloc (.cells #[.int .i64 q0, .int .i64 q1, .int .i64 q2] 56)) (by simpa using hl) (by simp; omega)
        (fun j hj => by
          have hj' : j < ents.length := by simpa using hj
          rw [hb0.cell (p := ⟨g, j, none⟩) hg, hcells j (by omega)]
          simp [hj'])
        (fun j hj W hW => by
          have hj' : j < ents.length := by simpa using hj
          have hp := hn ents[j] (List.getElem_mem _)
          have e1 : (ents[j]?.map fun p => p.b).getD 0 = ents[j].b := by simp [hj']
          have e2 : (ents.map fun p => decide (p.v0 = q0 ∧ p.v1 = q1 ∧ p.v2 = q2))[j] = decide (ents[j].v0 = q0 ∧ ents[j].v1 = q1 ∧ ents[j].v2 = q2) := by simp
          rw [e1, e2]
          have hcc : ∀ o, o < 3 → W.cell? ⟨ents[j].b, o, none⟩ = ents[j].cells[o]? := fun o ho => by
            rw [hW.cell (p := ⟨ents[j].b, o, none⟩) (by simp; omega), hb0.cell (p := ⟨ents[j].b, o, none⟩) hp.1]; exact hp.2 o ho
          have hqq : ∀ o, W.cell? ⟨w.heap.size, o, none⟩ = #[Value.int .i64 q0, .int .i64 q1, .int .i64 q2][o]? := fun o => by
            rw [hW.cell (p := ⟨w.heap.size, o, none⟩) (by simp), World.cell?_alloc_at _ _ _ _ rfl]
          exact find1_any _ _ _ _ _ _ _ _ W (hcc 0 (by omega)) (hcc 1 (by omega)) (hcc 2 (by omega)) (hqq 0) (hqq 1) (hqq 2))
      rw [List.length_map] at this
      exact this
    have hc' : (w.alloc (.cells #[.int .i64 q0, .int .i64 q1, .int .i64 q2] 56)).cell? ⟨pb, 1, none⟩ = some (.slice (some ⟨g, 0, none⟩) ents.length cap) := (hb0.cell (p := ⟨pb, 1, none⟩) hi).trans hc
    have hbd := findL_bd (ents.map fun p => decide (p.v0 = q0 ∧ p.v1 = q1 ∧ p.v2 = q2))
    rw [List.length_map] at hbd
    obtain ⟨hbd1, hbd2⟩ := hbd
    have HCE : Hid (∀ j, j < ents.length → ∃ b, w.cell? ⟨g, j, none⟩ = some (.pointer (some ⟨b, 0, none⟩))) := fun j hj => ⟨ents[j].b, by rw [hcells j (by omega)]; simp [hj, ptrTo]⟩
    generalize findL (ents.map fun p => decide (p.v0 = q0 ∧ p.v1 = q1 ∧ p.v2 = q2)) = R at *
    clear hr hn hcells hb0 hc
    unfold ptrTo
    go_enter Tryz.func95, Tryz.ntmps95
    go_wp2_with fail
    refine Calls.mono HF.out ?_
    rintro e w' ⟨rfl, hb1⟩
    have HB1 : Hid (Below w.heap.size w w') := HB0.out.trans (hb1.mono (by simp))
    by_cases hR : R < 0
    · clear hb1 HF HB0 hc'
      have HD : Hid (decide (R < 0) = true) := decide_eq_true hR
      go_wp2
      go_ret
      exact ⟨⟨none, rfl, by simpa using HD.out⟩, HB1.out⟩
    · obtain ⟨k, rfl⟩ : ∃ k : Nat, R = k := ⟨R.toNat, by omega⟩
      have hk : k < ents.length := by omega
      obtain ⟨b, hcb⟩ := HCE.out k hk
      have c1 : w'.cell? ⟨g, k, none⟩ = some (.pointer (some ⟨b, 0, none⟩)) := (HB1.out.cell (p := ⟨g, k, none⟩) hg).trans hcb
      have c2 : w'.cell? ⟨pb, 1, none⟩ = some (.slice (some ⟨g, 0, none⟩) ents.length cap) := (hb1.cell (p := ⟨pb, 1, none⟩) (by simp; omega)).trans hc'
      clear hb1 HF HB0 hc' hcb HCE
      go_wp2
      go_ret
      exact ⟨⟨some _, rfl, by simp⟩, HB1.out⟩

end Go.Proofs.YtnmclolbndohiaaGreatDoor

/-
  The walks of the code's Entry.Need and Entry.Feature.
-/
namespace Go.Proofs.YtnmclolbndohiaaGreatDoor
open Go.RowKit
open Ver

def CNeed.zero : CNeed := ⟨⟨#[]⟩, 0, 0, 0, 0, false, .slice none 0 0, [], false⟩
def CFeat.zero : CFeat := ⟨⟨#[]⟩, .slice none 0 0, []⟩

set_option maxHeartbeats 1600000 in
set_option maxRecDepth 100000 in
theorem needM_any (eb : Nat) (nv : Value) (l : List CNeed) (x : ByteArray) (w : World) (hl : l.length ≤ 1048576) (hi : eb < w.heap.size) (hc : w.cell? ⟨eb, 3, none⟩ = some nv)
    (hr : RowR w nv l.length 8 (l.flatMap CNeed.cells)) (HSL : Hid (∀ n ∈ l, ∃ a k c, n.fv = .slice a k c)) :
    Calls Tryz.prog 141 #[ptrTo eb, .string x] w fun e w' => (∃ n : CNeed, e = .returned (.tuple #[n.val, .bool (decide (0 ≤ idxL (l.map fun p => p.name.data.toList) x.data.toList))]) ∧ (0 ≤ idxL (l.map fun p => p.name.data.toList) x.data.toList → l[(idxL (l.map fun p => p.name.data.toList) x.data.toList).toNat]? = some n) ∧ ∃ a k c, n.fv = .slice a k c) ∧ Below w.heap.size w w' := by
  have hE : idxL (l.map fun p => p.name.data.toList) x.data.toList = findL (l.map fun p => decide (p.name.data.toList = x.data.toList)) := by
    rw [idxL_find, List.map_map]; rfl
  rw [hE]
  clear hE
  rcases hr.2 with ⟨rfl, h0⟩ | ⟨g, cap, rfl, hg, hcells⟩
  · have hP : l = [] := List.length_eq_zero_iff.1 h0
    subst hP
    have HF : Hid (∀ (fv : Value) (w : World), Calls Tryz.prog 166 #[.slice none 0 0, fv] w fun e w' => e = .returned (.int .i64 (-1)) ∧ w' = w) := idxFuncN_nil
    clear hr
    unfold ptrTo
    go_enter Tryz.func141, Tryz.ntmps141
    go_wp2_with fail
    refine (HF.out _ _).mono ?_
    rintro e w' ⟨rfl, rfl⟩
    go_wp2
    exact bodyPost_ret (v := .tuple #[CNeed.zero.val, .bool false]) (by simp [results, Tryz.results141, go_sem, CNeed.val, CNeed.zero]) rfl ⟨⟨CNeed.zero, rfl, fun h => absurd h (by simp [findL]), _, _, _, rfl⟩, ((Below.refl _ _).alloc (Nat.le_refl _) _).alloc (by simp) _⟩
  · have HF : Hid (∀ W : World, Below w.heap.size w W → w.heap.size < W.heap.size → W.cell? ⟨w.heap.size, 0, none⟩ = some (.string x) → Calls Tryz.prog 166 #[.slice (some ⟨g, 0, none⟩) l.length cap, .func (.func 167) #[] #[.pointer (some ⟨w.heap.size, 0, none⟩)]] W fun e w' => e = .returned (.int .i64 (findL (l.map fun p => decide (p.name.data.toList = x.data.toList)))) ∧ Below W.heap.size W w') := fun W hW hlt hx => by
      have := idxFuncN g cap w.heap.size (l.map fun p => decide (p.name.data.toList = x.data.toList)) (fun j => (l[j]?).getD CNeed.zero) W (by simpa using hl) (Nat.lt_of_lt_of_le hg hW.size)
        (fun j hj o ho => by
          have hj' : j < l.length := by simpa using hj
          rw [hW.cell (p := ⟨g, j * 8 + o, none⟩) hg, hcells _ (by omega)]
          have := flat_at CNeed.cells 8 CNeed.len l j o l[j] (by simp [hj']) ho
          rw [Nat.mul_comm] at this
          rw [this]; simp [hj'])
        (fun j hj W' hW' => by
          have hj' : j < l.length := by simpa using hj
          have e1 : (l[j]?).getD CNeed.zero = l[j] := by simp [hj']
          have e2 : (l.map fun p => decide (p.name.data.toList = x.data.toList))[j] = decide (l[j].name.data.toList = x.data.toList) := by simp
          simp only [e1, e2]
          exact need1_any _ _ _ W' (Nat.lt_of_lt_of_le hlt hW'.size) ((hW'.cell (p := ⟨w.heap.size, 0, none⟩) hlt).trans hx))
      rw [List.length_map] at this
      exact this
    have hbd := findL_bd (l.map fun p => decide (p.name.data.toList = x.data.toList))
    rw [List.length_map] at hbd
    obtain ⟨hbd1, hbd2⟩ := hbd
    have HCE : Hid (∀ j (h : j < l.length) o, o < 8 → w.cell? ⟨g, j * 8 + o, none⟩ = (l[j].cells)[o]?) := fun j hj o ho => by
      rw [hcells _ (by omega)]
      have := flat_at CNeed.cells 8 CNeed.len l j o l[j] (by simp [hj]) ho
      rw [Nat.mul_comm] at this
      exact this
    generalize findL (l.map fun p => decide (p.name.data.toList = x.data.toList)) = R at *
    have HC : Hid (w.cell? ⟨eb, 3, none⟩ = some (.slice (some ⟨g, 0, none⟩) l.length cap)) := hc
    have hc1 : (w.alloc (.cells #[.string x] 9)).cell? ⟨eb, 3, none⟩ = some (.slice (some ⟨g, 0, none⟩) l.length cap) := (World.cell?_alloc_past _ _ _ hi).trans hc
    clear hr hcells
    unfold ptrTo
    go_enter Tryz.func141, Tryz.ntmps141
    go_wp2_with fail
    refine Calls.mono (HF.out _ (((Below.refl _ _).alloc (Nat.le_refl _) _).alloc (by simp) _) (by simp; omega) ((World.cell?_alloc_past _ _ _ (by simp)).trans ((World.cell?_alloc_at _ _ _ _ rfl).trans rfl))) ?_
    rintro e w' ⟨rfl, hb1⟩
    have HB1 : Hid (Below w.heap.size w w') := (((Below.refl _ _).alloc (Nat.le_refl _) _).alloc (by simp) _).trans (hb1.mono (by simp; omega))
    have hz : ∀ o, w'.cell? ⟨w.heap.size + 1, o, none⟩ = #[Value.string ⟨#[]⟩, Value.int .i64 0, Value.int .i64 0, Value.int .i64 0, Value.int .i64 0, Value.bool false, Value.slice none 0 0, Value.bool false][o]? := fun o => by
      rw [hb1.cell (p := ⟨w.heap.size + 1, o, none⟩) (by simp)]
      exact World.cell?_alloc_at _ _ _ _ (by simp)
    have hfz : ∀ o, w'.frozen? ⟨w.heap.size + 1, o, none⟩ = false := fun o => by
      rw [hb1.frozen (p := ⟨w.heap.size + 1, o, none⟩) (by simp)]
      exact World.frozen?_alloc_at _ _ _ _ (by simp)
    have r0 := hz 0
    have r1 := hz 1
    have r2 := hz 2
    have r3 := hz 3
    have r4 := hz 4
    have r5 := hz 5
    have r6 := hz 6
    have r7 := hz 7
    simp at r0 r1 r2 r3 r4 r5 r6 r7
    have z0 := hfz 0
    have z1 := hfz 1
    have z2 := hfz 2
    have z3 := hfz 3
    have z4 := hfz 4
    have z5 := hfz 5
    have z6 := hfz 6
    have z7 := hfz 7
    clear hz hfz
    have hsz : w.heap.size + 1 < w'.heap.size := by have := hb1.size; simp at this; omega
    by_cases hR : R < 0
    · have HD : Hid (decide (0 ≤ R) = false) := decide_eq_false (by omega)
      clear hb1 HF hc1 hc
      go_wp2
      exact bodyPost_ret (v := .tuple #[CNeed.zero.val, .bool false]) (by simp [results, Tryz.results141, go_sem, CNeed.val, CNeed.zero, r0, r1, r2, r3, r4, r5, r6, r7]) rfl ⟨⟨CNeed.zero, by rw [HD.out], fun h => absurd h (by omega), _, _, _, rfl⟩, ((((((((HB1.out.setCell (Nat.le_succ _) _).setCell (Nat.le_succ _) _).setCell (Nat.le_succ _) _).setCell (Nat.le_succ _) _).setCell (Nat.le_succ _) _).setCell (Nat.le_succ _) _).setCell (Nat.le_succ _) _).setCell (Nat.le_succ _) _)⟩
    · obtain ⟨j, rfl⟩ : ∃ j : Nat, R = j := ⟨R.toNat, by omega⟩
      have hj : j < l.length := by omega
      have HJ : Hid (l[j]? = some l[j]) := by show _ = _; simp [hj]
      have hcb := HCE.out j hj
      obtain ⟨fa, fk, fc, hfv⟩ := HSL.out l[j] (List.getElem_mem _)
      generalize l[j] = n at *
      obtain ⟨y_name, y_st, y_a, y_b, y_c, y_bare, y_fv, y_feats, y_opt⟩ := n
      simp only at hfv
      subst hfv
      have c1 : w'.cell? ⟨eb, 3, none⟩ = some (.slice (some ⟨g, 0, none⟩) l.length cap) := (HB1.out.cell (p := ⟨eb, 3, none⟩) hi).trans HC.out
      have d0 := (HB1.out.cell (p := ⟨g, j * 8 + 0, none⟩) hg).trans (hcb 0 (by omega))
      have d1 := (HB1.out.cell (p := ⟨g, j * 8 + 1, none⟩) hg).trans (hcb 1 (by omega))
      have d2 := (HB1.out.cell (p := ⟨g, j * 8 + 2, none⟩) hg).trans (hcb 2 (by omega))
      have d3 := (HB1.out.cell (p := ⟨g, j * 8 + 3, none⟩) hg).trans (hcb 3 (by omega))
      have d4 := (HB1.out.cell (p := ⟨g, j * 8 + 4, none⟩) hg).trans (hcb 4 (by omega))
      have d5 := (HB1.out.cell (p := ⟨g, j * 8 + 5, none⟩) hg).trans (hcb 5 (by omega))
      have d6 := (HB1.out.cell (p := ⟨g, j * 8 + 6, none⟩) hg).trans (hcb 6 (by omega))
      have d7 := (HB1.out.cell (p := ⟨g, j * 8 + 7, none⟩) hg).trans (hcb 7 (by omega))
      simp only [CNeed.cells, List.getElem?_cons_zero, List.getElem?_cons_succ, Nat.add_zero] at d0 d1 d2 d3 d4 d5 d6 d7
      clear hb1 HF hc1 hc hcb HCE
      go_wp2
      exact bodyPost_ret (v := .tuple #[(⟨y_name, y_st, y_a, y_b, y_c, y_bare, .slice fa fk fc, y_feats, y_opt⟩ : CNeed).val, .bool true]) (by simp [results, Tryz.results141, go_sem, CNeed.val, r0, r1, r2, r3, r4, r5, r6, r7]) rfl ⟨⟨(⟨y_name, y_st, y_a, y_b, y_c, y_bare, .slice fa fk fc, y_feats, y_opt⟩ : CNeed), by simp, fun _ => by simpa using HJ.out, _, _, _, rfl⟩, ((((((((HB1.out.setCell (Nat.le_succ _) _).setCell (Nat.le_succ _) _).setCell (Nat.le_succ _) _).setCell (Nat.le_succ _) _).setCell (Nat.le_succ _) _).setCell (Nat.le_succ _) _).setCell (Nat.le_succ _) _).setCell (Nat.le_succ _) _)⟩

set_option maxHeartbeats 1600000 in
set_option maxRecDepth 100000 in
theorem featM_any (eb : Nat) (nv : Value) (l : List CFeat) (x : ByteArray) (w : World) (hl : l.length ≤ 1048576) (hi : eb < w.heap.size) (hc : w.cell? ⟨eb, 4, none⟩ = some nv)
    (hr : RowR w nv l.length 2 (l.flatMap CFeat.cells)) (HSL : Hid (∀ n ∈ l, ∃ a k c, n.iv = .slice a k c)) :
    Calls Tryz.prog 143 #[ptrTo eb, .string x] w fun e w' => (∃ n : CFeat, e = .returned (.tuple #[n.val, .bool (decide (0 ≤ idxL (l.map fun p => p.name.data.toList) x.data.toList))]) ∧ (0 ≤ idxL (l.map fun p => p.name.data.toList) x.data.toList → l[(idxL (l.map fun p => p.name.data.toList) x.data.toList).toNat]? = some n) ∧ ∃ a k c, n.iv = .slice a k c) ∧ Below w.heap.size w w' := by
  have hE : idxL (l.map fun p => p.name.data.toList) x.data.toList = findL (l.map fun p => decide (p.name.data.toList = x.data.toList)) := by
    rw [idxL_find, List.map_map]; rfl
  rw [hE]
  clear hE
  rcases hr.2 with ⟨rfl, h0⟩ | ⟨g, cap, rfl, hg, hcells⟩
  · have hP : l = [] := List.length_eq_zero_iff.1 h0
    subst hP
    have HF : Hid (∀ (fv : Value) (w : World), Calls Tryz.prog 168 #[.slice none 0 0, fv] w fun e w' => e = .returned (.int .i64 (-1)) ∧ w' = w) := idxFuncF_nil
    clear hr
    unfold ptrTo
    go_enter Tryz.func143, Tryz.ntmps143
    go_wp2_with fail
    refine (HF.out _ _).mono ?_
    rintro e w' ⟨rfl, rfl⟩
    go_wp2
    exact bodyPost_ret (v := .tuple #[CFeat.zero.val, .bool false]) (by simp [results, Tryz.results143, go_sem, CFeat.val, CFeat.zero]) rfl ⟨⟨CFeat.zero, rfl, fun h => absurd h (by simp [findL]), _, _, _, rfl⟩, ((Below.refl _ _).alloc (Nat.le_refl _) _).alloc (by simp) _⟩
  · have HF : Hid (∀ W : World, Below w.heap.size w W → w.heap.size < W.heap.size → W.cell? ⟨w.heap.size, 0, none⟩ = some (.string x) → Calls Tryz.prog 168 #[.slice (some ⟨g, 0, none⟩) l.length cap, .func (.func 169) #[] #[.pointer (some ⟨w.heap.size, 0, none⟩)]] W fun e w' => e = .returned (.int .i64 (findL (l.map fun p => decide (p.name.data.toList = x.data.toList)))) ∧ Below W.heap.size W w') := fun W hW hlt hx => by
      have := idxFuncF g cap w.heap.size (l.map fun p => decide (p.name.data.toList = x.data.toList)) (fun j => (l[j]?).getD CFeat.zero) W (by simpa using hl) (Nat.lt_of_lt_of_le hg hW.size)
        (fun j hj o ho => by
          have hj' : j < l.length := by simpa using hj
          rw [hW.cell (p := ⟨g, j * 2 + o, none⟩) hg, hcells _ (by omega)]
          have := flat_at CFeat.cells 2 CFeat.len l j o l[j] (by simp [hj']) ho
          rw [Nat.mul_comm] at this
          rw [this]; simp [hj'])
        (fun j hj W' hW' => by
          have hj' : j < l.length := by simpa using hj
          have e1 : (l[j]?).getD CFeat.zero = l[j] := by simp [hj']
          have e2 : (l.map fun p => decide (p.name.data.toList = x.data.toList))[j] = decide (l[j].name.data.toList = x.data.toList) := by simp
          simp only [e1, e2]
          exact feature1_any _ _ _ W' (Nat.lt_of_lt_of_le hlt hW'.size) ((hW'.cell (p := ⟨w.heap.size, 0, none⟩) hlt).trans hx))
      rw [List.length_map] at this
      exact this
    have hbd := findL_bd (l.map fun p => decide (p.name.data.toList = x.data.toList))
    rw [List.length_map] at hbd
    obtain ⟨hbd1, hbd2⟩ := hbd
    have HCE : Hid (∀ j (h : j < l.length) o, o < 2 → w.cell? ⟨g, j * 2 + o, none⟩ = (l[j].cells)[o]?) := fun j hj o ho => by
      rw [hcells _ (by omega)]
      have := flat_at CFeat.cells 2 CFeat.len l j o l[j] (by simp [hj]) ho
      rw [Nat.mul_comm] at this
      exact this
    generalize findL (l.map fun p => decide (p.name.data.toList = x.data.toList)) = R at *
    have HC : Hid (w.cell? ⟨eb, 4, none⟩ = some (.slice (some ⟨g, 0, none⟩) l.length cap)) := hc
    have hc1 : (w.alloc (.cells #[.string x] 9)).cell? ⟨eb, 4, none⟩ = some (.slice (some ⟨g, 0, none⟩) l.length cap) := (World.cell?_alloc_past _ _ _ hi).trans hc
    clear hr hcells
    unfold ptrTo
    go_enter Tryz.func143, Tryz.ntmps143
    go_wp2_with fail
    refine Calls.mono (HF.out _ (((Below.refl _ _).alloc (Nat.le_refl _) _).alloc (by simp) _) (by simp; omega) ((World.cell?_alloc_past _ _ _ (by simp)).trans ((World.cell?_alloc_at _ _ _ _ rfl).trans rfl))) ?_
    rintro e w' ⟨rfl, hb1⟩
    have HB1 : Hid (Below w.heap.size w w') := (((Below.refl _ _).alloc (Nat.le_refl _) _).alloc (by simp) _).trans (hb1.mono (by simp; omega))
    have hz : ∀ o, w'.cell? ⟨w.heap.size + 1, o, none⟩ = #[Value.string ⟨#[]⟩, Value.slice none 0 0][o]? := fun o => by
      rw [hb1.cell (p := ⟨w.heap.size + 1, o, none⟩) (by simp)]
      exact World.cell?_alloc_at _ _ _ _ (by simp)
    have hfz : ∀ o, w'.frozen? ⟨w.heap.size + 1, o, none⟩ = false := fun o => by
      rw [hb1.frozen (p := ⟨w.heap.size + 1, o, none⟩) (by simp)]
      exact World.frozen?_alloc_at _ _ _ _ (by simp)
    have r0 := hz 0
    have r1 := hz 1
    simp at r0 r1
    have z0 := hfz 0
    have z1 := hfz 1
    clear hz hfz
    have hsz : w.heap.size + 1 < w'.heap.size := by have := hb1.size; simp at this; omega
    by_cases hR : R < 0
    · have HD : Hid (decide (0 ≤ R) = false) := decide_eq_false (by omega)
      clear hb1 HF hc1 hc
      go_wp2
      exact bodyPost_ret (v := .tuple #[CFeat.zero.val, .bool false]) (by simp [results, Tryz.results143, go_sem, CFeat.val, CFeat.zero, r0, r1]) rfl ⟨⟨CFeat.zero, by rw [HD.out], fun h => absurd h (by omega), _, _, _, rfl⟩, ((HB1.out.setCell (Nat.le_succ _) _).setCell (Nat.le_succ _) _)⟩
    · obtain ⟨j, rfl⟩ : ∃ j : Nat, R = j := ⟨R.toNat, by omega⟩
      have hj : j < l.length := by omega
      have HJ : Hid (l[j]? = some l[j]) := by show _ = _; simp [hj]
      have hcb := HCE.out j hj
      obtain ⟨fa, fk, fc, hfv⟩ := HSL.out l[j] (List.getElem_mem _)
      generalize l[j] = n at *
      obtain ⟨y_name, y_iv, y_items⟩ := n
      simp only at hfv
      subst hfv
      have c1 : w'.cell? ⟨eb, 4, none⟩ = some (.slice (some ⟨g, 0, none⟩) l.length cap) := (HB1.out.cell (p := ⟨eb, 4, none⟩) hi).trans HC.out
      have d0 := (HB1.out.cell (p := ⟨g, j * 2 + 0, none⟩) hg).trans (hcb 0 (by omega))
      have d1 := (HB1.out.cell (p := ⟨g, j * 2 + 1, none⟩) hg).trans (hcb 1 (by omega))
      simp only [CFeat.cells, List.getElem?_cons_zero, List.getElem?_cons_succ, Nat.add_zero] at d0 d1
      clear hb1 HF hc1 hc hcb HCE
      go_wp2
      exact bodyPost_ret (v := .tuple #[(⟨y_name, .slice fa fk fc, y_items⟩ : CFeat).val, .bool true]) (by simp [results, Tryz.results143, go_sem, CFeat.val, r0, r1]) rfl ⟨⟨(⟨y_name, .slice fa fk fc, y_items⟩ : CFeat), by simp, fun _ => by simpa using HJ.out, _, _, _, rfl⟩, ((HB1.out.setCell (Nat.le_succ _) _).setCell (Nat.le_succ _) _)⟩

end Go.Proofs.YtnmclolbndohiaaGreatDoor
