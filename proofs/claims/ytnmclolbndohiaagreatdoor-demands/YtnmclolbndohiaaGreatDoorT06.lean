/-
  What 'need' keeps, and how it ends.
-/
import Derived.Test.YtnmclolbndohiaaGreatDoorT04
import Derived.Test.YtnmclolbndohiaaGreatDoorT05
import Derived.Deep.RegionLaw
import Derived.Deep.AppendLies
import Derived.Deep.DrawnRows
namespace Go.Proofs.YtnmclolbndohiaaGreatDoor
open Go.RowKit
open Ver
attribute [local go_sem ↓] Go.wp_at_zero Go.wp_at_succ

def zeroNeed : List Value := [.string ⟨#[]⟩, .int .u8 0, .int .i64 0, .bool false, .bool false, .slice none 0 0, .int .i64 0]

/-- What 'need' keeps: the result's block, the need's own. -/
structure NW (w : World) (vals : List Value) (feats : List ByteArray) (wr : World) : Prop where
  below : Below w.heap.size w wr
  nc : ∀ o, o < 7 → wr.cell? ⟨w.heap.size + 1, o, none⟩ = vals[o]?
  rc : ∀ o, o < 7 → wr.cell? ⟨w.heap.size, o, none⟩ = zeroNeed[o]?
  fn : ∀ o, wr.frozen? ⟨w.heap.size + 1, o, none⟩ = false
  fr : ∀ o, wr.frozen? ⟨w.heap.size, o, none⟩ = false
  sz : w.heap.size + 1 + 1 ≤ wr.heap.size
  own : ∃ v, vals[5]? = some v ∧ wr.ownsRow (w.heap.size + 1 + 1) 9 1 v feats.length (feats.map Value.string)

theorem NW.on {w wr w' : World} {vals : List Value} {feats : List ByteArray} (h : NW w vals feats wr) (hb : Below wr.heap.size wr w') : NW w vals feats w' where
  below := h.below.trans (hb.mono h.below.size)
  nc := fun o ho => (hb.cell (p := ⟨w.heap.size + 1, o, none⟩) (by have := h.sz; show w.heap.size + 1 < _; omega)).trans (h.nc o ho)
  rc := fun o ho => (hb.cell (p := ⟨w.heap.size, o, none⟩) (by have := h.sz; show w.heap.size < _; omega)).trans (h.rc o ho)
  fn := fun o => (hb.frozen (p := ⟨w.heap.size + 1, o, none⟩) (by have := h.sz; show w.heap.size + 1 < _; omega)).trans (h.fn o)
  fr := fun o => (hb.frozen (p := ⟨w.heap.size, o, none⟩) (by have := h.sz; show w.heap.size < _; omega)).trans (h.fr o)
  sz := Nat.le_trans h.sz hb.size
  own := by
    obtain ⟨v, hv, ho⟩ := h.own
    refine ⟨v, hv, ho.1, ?_⟩
    rcases ho.2 with h' | ⟨g, cap, cur, h1, h2, h3, h4⟩
    · exact Or.inl h'
    · exact Or.inr ⟨g, cap, cur, h1, h2, (hb.block g (Array.getElem?_eq_some_iff.1 h3).1).trans h3, h4⟩

/-- A field is stored. -/
theorem NW.set {w wr : World} {vals : List Value} {feats : List ByteArray} (h : NW w vals feats wr) (o : Nat) (x : Value) (ho : o < 7) (h5 : o ≠ 5) (hl : vals.length = 7) : NW w (vals.set o x) feats (wr.setCell ⟨w.heap.size + 1, o, none⟩ x) where
  below := h.below.setCell (by show w.heap.size ≤ w.heap.size + 1; omega) _
  nc := fun p hp => by
    by_cases e : o = p
    · subst e
      have hc := h.nc o ho
      obtain ⟨y, hy⟩ : ∃ y, vals[o]? = some y := ⟨vals[o]'(by omega), by simp [hl, ho]⟩
      rw [hy] at hc
      rw [World.cell?_setCell_same _ _ _ hc]
      simp [hl, ho]
    · rw [World.cell?_setCell_other _ _ _ _ (fun h' => e (congrArg Addr.off h')), h.nc p hp]
      simp [e]
  rc := fun p hp => (World.cell?_setCell_other _ _ _ _ (fun h' => by have := congrArg Addr.block h'; simp at this)).trans (h.rc p hp)
  fn := fun p => (World.frozen?_setCell _ _ _ _).trans (h.fn p)
  fr := fun p => (World.frozen?_setCell _ _ _ _).trans (h.fr p)
  sz := by simpa using h.sz
  own := by
    obtain ⟨v, hv, hw⟩ := h.own
    refine ⟨v, by rw [List.getElem?_set]; simp [h5, hv], ownsRow_setCell_below hw (by show w.heap.size + 1 < _; omega) _⟩

theorem NW.start (w : World) (nm : ByteArray) (line : Int) : NW w [.string nm, .int .u8 0, .int .i64 0, .bool false, .bool false, .slice none 0 0, .int .i64 line] []
    ((w.alloc (.cells #[.string ⟨#[]⟩, .int .u8 0, .int .i64 0, .bool false, .bool false, .slice none 0 0, .int .i64 0] 164)).alloc (.cells #[.string nm, .int .u8 0, .int .i64 0, .bool false, .bool false, .slice none 0 0, .int .i64 line] 164)) where
  below := ((Below.refl _ _).alloc (Nat.le_refl _) _).alloc (by simp) _
  nc := fun o _ => by rw [World.cell?_alloc_at _ _ _ _ (by simp)]; simp
  rc := fun o _ => by rw [World.cell?_alloc_past _ _ _ (by simp), World.cell?_alloc_at _ _ _ _ rfl]; simp [zeroNeed]
  fn := fun o => World.frozen?_alloc_at _ _ _ _ (by simp)
  fr := fun o => (World.frozen?_alloc_past _ _ _ (by simp)).trans (World.frozen?_alloc_at _ _ _ _ rfl)
  sz := by simp
  own := ⟨.slice none 0 0, rfl, World.ownsRow_nil _ _ _ _⟩

/-- A name more among the features. -/
theorem NW.grow {w wr w1 : World} {vals : List Value} {feats : List ByteArray} {fv : Value} {o : Obj} {g cap : Nat} {y : ByteArray} (h : NW w vals feats wr) (hl : vals.length = 7) (h5 : vals[5]? = some fv)
    (hown : wr.ownsRow (w.heap.size + 1 + 1) 9 1 fv feats.length (feats.map Value.string))
    (hown1 : w1.ownsRow (w.heap.size + 1 + 1) 9 1 (.slice (some ⟨g, 0, none⟩) (feats.length + 1) cap) (feats.length + 1) (feats.map Value.string ++ [.string y])) (hg : ((wr.alloc o).drew).grownBy w1 fv.ownBlock) :
    NW w (vals.set 5 (.slice (some ⟨g, 0, none⟩) (feats.length + 1) cap)) (feats ++ [y]) (w1.setCell ⟨w.heap.size + 1, 5, none⟩ (.slice (some ⟨g, 0, none⟩) (feats.length + 1) cap)) := by
  have hsz := h.sz
  have hne : ∀ j, j < w.heap.size + 1 + 1 → some j ≠ fv.ownBlock := fun j hj e => by have := (hown.lt j e.symm).1; omega
  have hcell : ∀ b o', b < w.heap.size + 1 + 1 → w1.cell? ⟨b, o', none⟩ = wr.cell? ⟨b, o', none⟩ := fun b o' hb => by
    rw [hg.cell_far ⟨b, o', none⟩ (by show b < (wr.alloc o).heap.size; simp; omega) (hne b hb)]
    exact World.cell?_alloc_past _ _ _ (by show b < _; omega)
  have hfr : ∀ b o', b < w.heap.size + 1 + 1 → w1.frozen? ⟨b, o', none⟩ = wr.frozen? ⟨b, o', none⟩ := fun b o' hb => by
    rw [hg.frozen_far ⟨b, o', none⟩ (by show b < (wr.alloc o).heap.size; simp; omega) (hne b hb)]
    exact World.frozen?_alloc_past _ _ _ (by show b < _; omega)
  have hbel : Below w.heap.size w w1 := ((h.below.alloc (by omega) o).drew).grown hg (by show w.heap.size ≤ (wr.alloc o).heap.size; simp; omega) (fun j hj => by have := (hown.lt j hj).1; omega)
  exact {
    below := hbel.setCell (by show w.heap.size ≤ w.heap.size + 1; omega) _
    nc := fun p hp => by
      by_cases e : 5 = p
      · subst e
        have hc := h.nc 5 (by omega)
        rw [h5, ← hcell _ _ (by omega)] at hc
        rw [World.cell?_setCell_same _ _ _ hc]
        simp [hl]
      · rw [World.cell?_setCell_other _ _ _ _ (fun h' => e (congrArg Addr.off h')), hcell _ _ (by omega), h.nc p hp]
        simp [e]
    rc := fun p hp => (World.cell?_setCell_other _ _ _ _ (fun h' => by have := congrArg Addr.block h'; simp at this)).trans ((hcell _ _ (by omega)).trans (h.rc p hp))
    fn := fun p => (World.frozen?_setCell _ _ _ _).trans ((hfr _ _ (by omega)).trans (h.fn p))
    fr := fun p => (World.frozen?_setCell _ _ _ _).trans ((hfr _ _ (by omega)).trans (h.fr p))
    sz := by have := hg.size; simp at this ⊢; omega
    own := ⟨.slice (some ⟨g, 0, none⟩) (feats.length + 1) cap, by simp [hl], by
      have := ownsRow_setCell_below hown1 (a := ⟨w.heap.size + 1, 5, none⟩) (by show w.heap.size + 1 < _; omega) (.slice (some ⟨g, 0, none⟩) (feats.length + 1) cap)
      simpa using this⟩ }

theorem ownsRow_form {w : World} {B : Nat} {e : TypeId} {size n : Nat} {v : Value} {xs : List Value} (h : w.ownsRow B e size v n xs) : ∃ ao cap, v = .slice ao n cap := by
  rcases h.2 with ⟨h1, h2⟩ | ⟨g, cap, cur, h1, _⟩
  · exact ⟨none, 0, by rw [h1, h2]⟩
  · exact ⟨_, cap, h1⟩
def needEnd (n : RNeed) (ok : Bool) : Ending := .returned (.tuple #[.agg #[.string n.name, .int .u8 n.c, .int .i64 n.v, .bool n.opt, .bool n.bare, n.fv, .int .i64 n.line], .bool ok])
theorem ownsRow_low {w : World} {B B' : Nat} {e : TypeId} {size n : Nat} {v : Value} {xs : List Value} (h : w.ownsRow B e size v n xs) (hB : B' ≤ B) : w.ownsRow B' e size v n xs := by
  refine ⟨h.1, ?_⟩
  rcases h.2 with h' | ⟨g, cap, cur, h1, h2, h3⟩
  · exact Or.inl h'
  · exact Or.inr ⟨g, cap, cur, h1, Nat.le_trans hB h2, h3⟩
theorem Tryz.infoStr : (Tryz.prog.info? 9).map (fun i => (i.zero, i.size, i.bytes)) = some (some (.string ByteArray.empty), 1, 16) := by kernel_rfl

end Go.Proofs.YtnmclolbndohiaaGreatDoor

/-
  Many rows that a call owns at once, each in a block of its own.
-/
namespace Go.Proofs.YtnmclolbndohiaaGreatDoor
open Go.RowKit
open Ver

structure Hold where
  t : TypeId
  sz : Nat
  v : Value
  n : Nat
  xs : List Value
def Hold.own (B : Nat) (w : World) (r : Hold) : Prop := w.ownsRow B r.t r.sz r.v r.n r.xs
def blocksOf (rs : List Hold) : List Nat := rs.filterMap fun r => r.v.ownBlock
structure Forest (B : Nat) (w : World) (rs : List Hold) : Prop where
  own : ∀ r ∈ rs, r.own B w
  apart : (blocksOf rs).Nodup

theorem mem_blocks {rs : List Hold} {k : Nat} : k ∈ blocksOf rs ↔ ∃ r ∈ rs, r.v.ownBlock = some k := by simp [blocksOf]
theorem blocks_cons (r : Hold) (rs : List Hold) : blocksOf (r :: rs) = r.v.ownBlock.toList ++ blocksOf rs := by
  cases h : r.v.ownBlock <;> simp [blocksOf, h]
theorem Forest.lt {B : Nat} {w : World} {rs : List Hold} (h : Forest B w rs) {k : Nat} (hk : k ∈ blocksOf rs) : B ≤ k ∧ k < w.heap.size := by
  obtain ⟨r, hr, he⟩ := mem_blocks.1 hk
  exact (h.own r hr).lt k he
theorem Forest.perm {B : Nat} {w : World} {rs rs' : List Hold} (h : Forest B w rs) (hp : rs.Perm rs') : Forest B w rs' where
  own := fun r hr => h.own r (hp.mem_iff.2 hr)
  apart := (hp.filterMap _).nodup_iff.1 h.apart
theorem Forest.tail {B : Nat} {w : World} {r : Hold} {rs : List Hold} (h : Forest B w (r :: rs)) : Forest B w rs where
  own := fun x hx => h.own x (List.mem_cons_of_mem _ hx)
  apart := by have := h.apart; rw [blocks_cons] at this; exact (List.nodup_append.1 this).2.1
/-- The first row's block is none of the others'. -/
theorem Forest.alone {B : Nat} {w : World} {r : Hold} {rs : List Hold} (h : Forest B w (r :: rs)) {k : Nat} (hk : r.v.ownBlock = some k) : k ∉ blocksOf rs := by
  have := h.apart
  rw [blocks_cons, hk] at this
  simp at this
  exact this.1
theorem Forest.cons {B : Nat} {w : World} {r : Hold} {rs : List Hold} (h : Forest B w rs) (hr : r.own B w) (hk : ∀ k, r.v.ownBlock = some k → k ∉ blocksOf rs) : Forest B w (r :: rs) where
  own := fun x hx => by
    rcases List.mem_cons.1 hx with rfl | hx
    · exact hr
    · exact h.own x hx
  apart := by
    rw [blocks_cons]
    cases e : r.v.ownBlock with
    | none => simpa using h.apart
    | some k => simp; exact ⟨hk k e, h.apart⟩
theorem Hold.on {B : Nat} {w w' : World} {r : Hold} (h : r.own B w) (hb : Below w.heap.size w w') : r.own B w' := by
  refine ⟨h.1, ?_⟩
  rcases h.2 with h' | ⟨g, cap, cur, h1, h2, h3, h4⟩
  · exact Or.inl h'
  · exact Or.inr ⟨g, cap, cur, h1, h2, (hb.block g (Array.getElem?_eq_some_iff.1 h3).1).trans h3, h4⟩
theorem Forest.on {B : Nat} {w w' : World} {rs : List Hold} (h : Forest B w rs) (hb : Below w.heap.size w w') : Forest B w' rs where
  own := fun r hr => Hold.on (h.own r hr) hb
  apart := h.apart
theorem Forest.alloc {B : Nat} {w : World} {rs : List Hold} (h : Forest B w rs) (o : Obj) : Forest B (w.alloc o) rs := h.on ((Below.refl _ _).alloc (Nat.le_refl _) o)
theorem Forest.drew {B : Nat} {w : World} {rs : List Hold} (h : Forest B w rs) : Forest B w.drew rs := h.on ((Below.refl _ _).drew)
/-- A cell elsewhere is written. -/
theorem Forest.far {B : Nat} {w : World} {rs : List Hold} (h : Forest B w rs) {a : Addr} (ha : a.block ∉ blocksOf rs) (u : Value) : Forest B (w.setCell a u) rs where
  own := fun r hr => ownsRow_setCell_other (h.own r hr) (fun e => ha (mem_blocks.2 ⟨r, hr, e⟩)) u
  apart := h.apart
theorem Forest.low {B : Nat} {w : World} {rs : List Hold} (h : Forest B w rs) {a : Addr} (ha : a.block < B) (u : Value) : Forest B (w.setCell a u) rs := h.far (fun hm => by have := (h.lt hm).1; omega) u
/-- A row of a fresh block more. -/
theorem Forest.add {B B' : Nat} {w w' : World} {r : Hold} {rs : List Hold} (h : Forest B w rs) (hb : Below w.heap.size w w') (hr : r.own B' w') (hB : w.heap.size ≤ B') (hBB : B ≤ w.heap.size) : Forest B w' (r :: rs) :=
  (h.on hb).cons (ownsRow_low hr (by omega)) (fun k hk hm => by have := ((hr).lt k hk).1; have := (h.lt hm).2; omega)
/-- The first row grows. -/
theorem Forest.grow {B : Nat} {w w1 : World} {r r' : Hold} {rs : List Hold} (h : Forest B w (r :: rs)) (hg : w.grownBy w1 r.v.ownBlock) (hr : r'.own B w1) (hk : ∀ k, r'.v.ownBlock = some k → r.v.ownBlock = some k ∨ w.heap.size ≤ k) : Forest B w1 (r' :: rs) := by
  have ht := h.tail
  have hrs : Forest B w1 rs := {
    own := fun x hx => World.ownsRow.kept (h.own x (List.mem_cons_of_mem _ hx)) hg (by
      cases e : x.v.ownBlock with
      | none => exact Or.inl rfl
      | some k => exact Or.inr (fun e' => h.alone e'.symm (mem_blocks.2 ⟨x, hx, e⟩)))
    apart := ht.apart }
  refine hrs.cons hr (fun k hk' hm => ?_)
  rcases hk k hk' with e | e
  · exact h.alone e hm
  · have := (ht.lt hm).2; omega
/-- A cell of the first row is written. -/
theorem Forest.set {B g n cap sz : Nat} {t : TypeId} {xs : List Value} {w : World} {rs : List Hold} (h : Forest B w (⟨t, sz, .slice (some ⟨g, 0, none⟩) n cap, n, xs⟩ :: rs)) (j : Nat) (u : Value) :
    Forest B (w.setCell ⟨g, j, none⟩ u) (⟨t, sz, .slice (some ⟨g, 0, none⟩) n cap, n, xs.set j u⟩ :: rs) := by
  have h0 : (⟨t, sz, .slice (some ⟨g, 0, none⟩) n cap, n, xs⟩ : Hold).own B w := h.own _ (List.mem_cons_self)
  have h1 := World.ownsRow.stored h0 j u
  exact h.grow h1.2 h1.1 (fun k hk => Or.inl hk)
/-- What is read. -/
theorem Forest.row {B : Nat} {w : World} {rs : List Hold} (h : Forest B w rs) {r : Hold} (hr : r ∈ rs) : RowR w r.v r.n r.sz r.xs := RowR.of_owns (h.own r hr)

theorem perm_entry {α : Type} (a b c d : α) (R T : List α) : (a :: b :: c :: (R ++ [d] ++ T)).Perm (R ++ d :: c :: (T ++ [a, b])) := by
  classical
  rw [List.perm_iff_count]
  intro x
  simp only [List.count_append, List.count_cons, List.count_nil]
  omega

/-! ### The reference's index -/
def RNeed.holds (n : RNeed) : Hold := ⟨9, 1, n.fv, n.feats.length, n.feats.map Value.string⟩
def RFeat.holds (f : RFeat) : Hold := ⟨170, 3, f.iv, f.items.length, f.items.flatMap RItem.cells⟩
def REntry.hn (e : REntry) : Hold := ⟨164, 7, e.nv, e.needs.length, e.needs.flatMap RNeed.cells⟩
def REntry.hf (e : REntry) : Hold := ⟨167, 3, e.fv, e.feats.length, e.feats.flatMap RFeat.cells⟩
def REntry.holds (e : REntry) : List Hold := e.hn :: e.hf :: (e.needs.map RNeed.holds ++ e.feats.map RFeat.holds)
structure RIdx where
  nv : Value
  names : List ByteArray
  ev : Value
  ents : List REntry
def RIdx.hn (x : RIdx) : Hold := ⟨9, 1, x.nv, x.names.length, x.names.map Value.string⟩
def RIdx.he (x : RIdx) : Hold := ⟨161, 5, x.ev, x.ents.length, x.ents.flatMap REntry.cells⟩
def RIdx.holds (x : RIdx) : List Hold := x.hn :: x.he :: x.ents.flatMap REntry.holds

/-- An index lies at bx; R: other rows that are kept apart. -/
structure IdxR (bx : Nat) (R : List Hold) (x : RIdx) (w : World) : Prop where
  c0 : w.cell? ⟨bx, 0, none⟩ = some x.nv
  c1 : w.cell? ⟨bx, 1, none⟩ = some x.ev
  fz : ∀ o, w.frozen? ⟨bx, o, none⟩ = false
  lt : bx < w.heap.size
  forest : Forest (bx + 1) w (R ++ x.holds)

theorem IdxR.on {bx : Nat} {R : List Hold} {x : RIdx} {w w' : World} (h : IdxR bx R x w) (hb : Below w.heap.size w w') : IdxR bx R x w' where
  c0 := (hb.cell (p := ⟨bx, 0, none⟩) h.lt).trans h.c0
  c1 := (hb.cell (p := ⟨bx, 1, none⟩) h.lt).trans h.c1
  fz := fun o => (hb.frozen (p := ⟨bx, o, none⟩) h.lt).trans (h.fz o)
  lt := Nat.lt_of_lt_of_le h.lt hb.size
  forest := h.forest.on hb

theorem IdxR.alloc {bx : Nat} {R : List Hold} {x : RIdx} {w : World} (h : IdxR bx R x w) (o : Obj) : IdxR bx R x ((w.alloc o).drew) := h.on (((Below.refl _ _).alloc (Nat.le_refl _) o).drew)

theorem IdxR.erow {bx : Nat} {R : List Hold} {x : RIdx} {w : World} (h : IdxR bx R x w) : RowR w x.ev x.ents.length 5 (x.ents.flatMap REntry.cells) := h.forest.row (r := x.he) (by simp [RIdx.holds])

/-- A name more: the row of names has grown, and its value is stored. -/
theorem IdxR.name {bx : Nat} {R : List Hold} {x : RIdx} {w w1 : World} {g cap : Nat} {y : ByteArray} (h : IdxR bx R x w) (hg : w.grownBy w1 x.nv.ownBlock) (hgg : x.nv.ownBlock = some g ∨ w.heap.size ≤ g)
    (hown : w1.ownsRow (bx + 1) 9 1 (.slice (some ⟨g, 0, none⟩) (x.names.length + 1) cap) (x.names.length + 1) (x.names.map Value.string ++ [.string y])) :
    IdxR bx R ⟨.slice (some ⟨g, 0, none⟩) (x.names.length + 1) cap, x.names ++ [y], x.ev, x.ents⟩ (w1.setCell ⟨bx, 0, none⟩ (.slice (some ⟨g, 0, none⟩) (x.names.length + 1) cap)) := by
  have hp : (R ++ x.holds).Perm (x.hn :: (R ++ (x.he :: x.ents.flatMap REntry.holds))) := List.perm_middle
  have hr : (⟨9, 1, .slice (some ⟨g, 0, none⟩) (x.names.length + 1) cap, x.names.length + 1, x.names.map Value.string ++ [Value.string y]⟩ : Hold).own (bx + 1) w1 := hown
  have hf := (h.forest.perm hp).grow hg hr (fun k hk => by
    have e : g = k := by simpa [Value.ownBlock] using hk
    subst e; exact hgg)
  have hne : some bx ≠ x.nv.ownBlock := fun e => by
    have := ((h.forest.own x.hn (by simp [RIdx.holds])).lt bx e.symm).1
    omega
  have hc : ∀ o, w1.cell? ⟨bx, o, none⟩ = w.cell? ⟨bx, o, none⟩ := fun o => hg.cell_far ⟨bx, o, none⟩ h.lt hne
  have hlt := Nat.lt_of_lt_of_le h.lt hg.size
  exact {
    c0 := World.cell?_setCell_same _ _ _ ((hc 0).trans h.c0)
    c1 := (World.cell?_setCell_other _ _ _ _ (fun e => by have := congrArg Addr.off e; simp at this)).trans ((hc 1).trans h.c1)
    fz := fun o => (World.frozen?_setCell _ _ _ _).trans ((hg.frozen_far ⟨bx, o, none⟩ h.lt hne).trans (h.fz o))
    lt := by simpa using hlt
    forest := by
      have := (hf.low (a := ⟨bx, 0, none⟩) (by show bx < _; omega) (.slice (some ⟨g, 0, none⟩) (x.names.length + 1) cap)).perm List.perm_middle.symm
      simpa [RIdx.holds, RIdx.hn, RIdx.he] using this }

/-- An entry more. -/
theorem IdxR.entry {bx : Nat} {R : List Hold} {x : RIdx} {w w1 : World} {g cap : Nat} {p v : Int} {y : ByteArray} (h : IdxR bx R x w) (hg : w.grownBy w1 x.ev.ownBlock) (hgg : x.ev.ownBlock = some g ∨ w.heap.size ≤ g)
    (hown : w1.ownsRow (bx + 1) 161 5 (.slice (some ⟨g, 0, none⟩) (x.ents.length + 1) cap) (x.ents.length + 1) (x.ents.flatMap REntry.cells ++ [.int .i64 p, .int .i64 v, .string y, .slice none 0 0, .slice none 0 0])) :
    IdxR bx R ⟨x.nv, x.names, .slice (some ⟨g, 0, none⟩) (x.ents.length + 1) cap, x.ents ++ [⟨p, v, y, .slice none 0 0, [], .slice none 0 0, []⟩]⟩ (w1.setCell ⟨bx, 1, none⟩ (.slice (some ⟨g, 0, none⟩) (x.ents.length + 1) cap)) := by
  have hp : (R ++ x.holds).Perm (x.he :: ((R ++ [x.hn]) ++ x.ents.flatMap REntry.holds)) := by
    have : R ++ x.holds = (R ++ [x.hn]) ++ (x.he :: x.ents.flatMap REntry.holds) := by simp [RIdx.holds]
    rw [this]; exact List.perm_middle
  have hr : (⟨161, 5, .slice (some ⟨g, 0, none⟩) (x.ents.length + 1) cap, x.ents.length + 1, x.ents.flatMap REntry.cells ++ [Value.int .i64 p, Value.int .i64 v, Value.string y, Value.slice none 0 0, Value.slice none 0 0]⟩ : Hold).own (bx + 1) w1 := hown
  have hf := (h.forest.perm hp).grow hg hr (fun k hk => by
    have e : g = k := by simpa [Value.ownBlock] using hk
    subst e; exact hgg)
  have hne : some bx ≠ x.ev.ownBlock := fun e => by
    have := ((h.forest.own x.he (by simp [RIdx.holds])).lt bx e.symm).1
    omega
  have hc : ∀ o, w1.cell? ⟨bx, o, none⟩ = w.cell? ⟨bx, o, none⟩ := fun o => hg.cell_far ⟨bx, o, none⟩ h.lt hne
  have hlt := Nat.lt_of_lt_of_le h.lt hg.size
  exact {
    c1 := World.cell?_setCell_same _ _ _ ((hc 1).trans h.c1)
    c0 := (World.cell?_setCell_other _ _ _ _ (fun e => by have := congrArg Addr.off e; simp at this)).trans ((hc 0).trans h.c0)
    fz := fun o => (World.frozen?_setCell _ _ _ _).trans ((hg.frozen_far ⟨bx, o, none⟩ h.lt hne).trans (h.fz o))
    lt := by simpa using hlt
    forest := by
      have h1 := hf.low (a := ⟨bx, 1, none⟩) (by show bx < _; omega) (.slice (some ⟨g, 0, none⟩) (x.ents.length + 1) cap)
      have z1 : (⟨164, 7, .slice none 0 0, 0, []⟩ : Hold).own (bx + 1) (w1.setCell ⟨bx, 1, none⟩ (.slice (some ⟨g, 0, none⟩) (x.ents.length + 1) cap)) := World.ownsRow_nil _ _ _ _
      have z2 : (⟨167, 3, .slice none 0 0, 0, []⟩ : Hold).own (bx + 1) (w1.setCell ⟨bx, 1, none⟩ (.slice (some ⟨g, 0, none⟩) (x.ents.length + 1) cap)) := World.ownsRow_nil _ _ _ _
      have h2 := (h1.cons z2 (fun k hk => by simp [Value.ownBlock] at hk)).cons z1 (fun k hk => by simp [Value.ownBlock] at hk)
      refine h2.perm ?_
      simp only [RIdx.holds, RIdx.hn, RIdx.he, List.flatMap_append, List.flatMap_cons, List.flatMap_nil, REntry.holds, REntry.hn, REntry.hf, REntry.cells, List.map_nil, List.append_nil, List.length_append, List.length_cons, List.length_nil]
      exact perm_entry _ _ _ _ _ _ }

theorem IdxR.far {bx : Nat} {R : List Hold} {x : RIdx} {w w1 : World} (h : IdxR bx R x w) {row : Option Nat} (hg : w.grownBy w1 row) (hr : ∀ k, row = some k → bx + 1 ≤ k) (o : Nat) : w1.cell? ⟨bx, o, none⟩ = w.cell? ⟨bx, o, none⟩ ∧ w1.frozen? ⟨bx, o, none⟩ = w.frozen? ⟨bx, o, none⟩ := by
  have hne : some bx ≠ row := fun e => by have := hr bx e.symm; omega
  exact ⟨hg.cell_far ⟨bx, o, none⟩ h.lt hne, hg.frozen_far ⟨bx, o, none⟩ h.lt hne⟩

theorem flat_set {es : List REntry} {e e' : REntry} {j : Nat} {u : Value} (h : e.cells.set j u = e'.cells) (hj : j < 5) : ((es ++ [e]).flatMap REntry.cells).set (es.length * 5 + j) u = (es ++ [e']).flatMap REntry.cells := by
  have hl := flat_len REntry.cells 5 REntry.len es
  simp only [List.flatMap_append, List.flatMap_cons, List.flatMap_nil, List.append_nil]
  rw [List.set_append_right _ _ (by omega), ← h]
  congr 2
  omega

/-- A feature more of the last entry. -/
theorem IdxR.feat {bx ge ce : Nat} {R : List Hold} {nv : Value} {names : List ByteArray} {es : List REntry} {e : REntry} {n : RFeat} {w w1 : World} {g cap : Nat}
    (h : IdxR bx (n.holds :: R) ⟨nv, names, .slice (some ⟨ge, 0, none⟩) (es.length + 1) ce, es ++ [e]⟩ w) (hg : w.grownBy w1 e.fv.ownBlock) (hgg : e.fv.ownBlock = some g ∨ w.heap.size ≤ g)
    (hown : w1.ownsRow (bx + 1) 167 3 (.slice (some ⟨g, 0, none⟩) (e.feats.length + 1) cap) (e.feats.length + 1) (e.feats.flatMap RFeat.cells ++ n.cells)) :
    IdxR bx R ⟨nv, names, .slice (some ⟨ge, 0, none⟩) (es.length + 1) ce, es ++ [⟨e.pack, e.ver, e.text, e.nv, e.needs, .slice (some ⟨g, 0, none⟩) (e.feats.length + 1) cap, e.feats ++ [n]⟩]⟩ (w1.setCell ⟨ge, es.length * 5 + 4, none⟩ (.slice (some ⟨g, 0, none⟩) (e.feats.length + 1) cap)) := by
  have hr : (⟨167, 3, .slice (some ⟨g, 0, none⟩) (e.feats.length + 1) cap, e.feats.length + 1, e.feats.flatMap RFeat.cells ++ n.cells⟩ : Hold).own (bx + 1) w1 := hown
  have hp : ((n.holds :: R) ++ RIdx.holds ⟨nv, names, .slice (some ⟨ge, 0, none⟩) (es.length + 1) ce, es ++ [e]⟩).Perm (e.hf :: RIdx.he ⟨nv, names, .slice (some ⟨ge, 0, none⟩) (es.length + 1) ce, es ++ [e]⟩ :: n.holds :: RIdx.hn ⟨nv, names, .slice (some ⟨ge, 0, none⟩) (es.length + 1) ce, es ++ [e]⟩ :: e.hn :: (R ++ es.flatMap REntry.holds ++ (e.needs.map RNeed.holds ++ e.feats.map RFeat.holds))) := by
    classical
    rw [List.perm_iff_count]
    intro x
    simp only [RIdx.holds, REntry.holds, List.flatMap_append, List.flatMap_cons, List.flatMap_nil, List.append_nil, List.count_append, List.count_cons]
    omega
  have hf0 := h.forest.perm hp
  have hrow : ∀ k, e.fv.ownBlock = some k → bx + 1 ≤ k := fun k hk => ((hf0.own e.hf List.mem_cons_self).lt k hk).1
  have hf := hf0.grow hg hr (fun k hk => by
    have e : g = k := by simpa [Value.ownBlock] using hk
    subst e; exact hgg)
  have hf2 := hf.perm (List.Perm.swap _ _ _)
  have hge : bx + 1 ≤ ge := ((hf2.own _ List.mem_cons_self).lt ge rfl).1
  have hl : RIdx.he ⟨nv, names, .slice (some ⟨ge, 0, none⟩) (es.length + 1) ce, es ++ [e]⟩ = ⟨161, 5, .slice (some ⟨ge, 0, none⟩) (es.length + 1) ce, es.length + 1, (es ++ [e]).flatMap REntry.cells⟩ := by simp [RIdx.he]
  rw [hl] at hf2
  have hf4 := hf2.set (es.length * 5 + 4) (.slice (some ⟨g, 0, none⟩) (e.feats.length + 1) cap)
  rw [flat_set (e' := ⟨e.pack, e.ver, e.text, e.nv, e.needs, .slice (some ⟨g, 0, none⟩) (e.feats.length + 1) cap, e.feats ++ [n]⟩) rfl (by omega)] at hf4
  have hlt := Nat.lt_of_lt_of_le h.lt hg.size
  have hoth : ∀ o, (w1.setCell ⟨ge, es.length * 5 + 4, none⟩ (.slice (some ⟨g, 0, none⟩) (e.feats.length + 1) cap)).cell? ⟨bx, o, none⟩ = w1.cell? ⟨bx, o, none⟩ := fun o => World.cell?_setCell_other _ _ _ _ (fun e => by have := congrArg Addr.block e; simp at this; omega)
  exact {
    c0 := (hoth 0).trans ((h.far hg hrow 0).1.trans h.c0)
    c1 := (hoth 1).trans ((h.far hg hrow 1).1.trans h.c1)
    fz := fun o => (World.frozen?_setCell _ _ _ _).trans ((h.far hg hrow o).2.trans (h.fz o))
    lt := by simpa using hlt
    forest := by
      refine hf4.perm ?_
      classical
      rw [List.perm_iff_count]
      intro x
      simp only [RIdx.holds, RIdx.he, RIdx.hn, REntry.holds, REntry.hn, REntry.hf, List.map_append, List.map_cons, List.map_nil, List.length_append, List.length_cons, List.length_nil, List.flatMap_append, List.flatMap_cons, List.flatMap_nil, List.append_nil, List.count_append, List.count_cons, List.count_nil, Nat.zero_add]
      omega }

end Go.Proofs.YtnmclolbndohiaaGreatDoor
