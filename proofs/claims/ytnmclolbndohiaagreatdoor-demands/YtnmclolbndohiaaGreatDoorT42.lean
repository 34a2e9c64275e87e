/-
  The map of the facts that are known: its key's law; the walk of 'knows'.
-/
import Derived.Test.YtnmclolbndohiaaGreatDoorT41
import Derived.Maps.OwnSet
import Derived.DeepKeys4
import Derived.BigRegion
import Derived.Test.YtnmclolbndohiaaGreatDoorT09
import Derived.Deep.LoopGhost
import Derived.Test.YtnmclolbndohiaaGreatDoorT20
namespace Go.Proofs.YtnmclolbndohiaaGreatDoor
open Go.RowKit
open Go.Maps
open Ver

set_option maxRecDepth 100000 in
theorem Tryz.laidOut : laidOutB Tryz.prog = true := by kernel_rfl
theorem factRow : (216 : TypeId) < Tryz.prog.types.size := of_decide_eq_true (by kernel_rfl)
set_option maxRecDepth 100000 in
theorem factAt : Tryz.prog.keyTypeAt 3 216 = true := by kernel_rfl
theorem factLaw : Keyed Tryz.prog 216 := Keyed.of_law (deep_law_laid Tryz.laidOut (m := 3) (by omega) factRow factAt (by rw [Tryz.underlying216]))

end Go.Proofs.YtnmclolbndohiaaGreatDoor

/-
  The walk of 'knows'.
-/
namespace Go.Proofs.YtnmclolbndohiaaGreatDoor
open Go.RowKit
open Go.Maps
open Ver

set_option maxHeartbeats 1600000 in
set_option maxRecDepth 100000 in
theorem knows_at (fb mb n : Nat) (D : DataW Unit) (f : Fact) (w : World) (hok : f.okB = true) (hfb : fb < w.heap.size) (hc : w.cell? ⟨fb, 2, none⟩ = some (.map (some mb))) (hown : w.ownsMap Tryz.prog 216 (unitElem (H := Unit)) mb n D) :
    Calls Tryz.prog 100 #[ptrTo fb, f.val] w fun e w' => e = .returned (.bool (Maps.has D f.key)) ∧ Below w.heap.size w w' := by
  have hlook : ∀ w' : World, w'.ownsMap Tryz.prog 216 (unitElem (H := Unit)) mb n D → (Instr.lookup 138 (.map (some mb)) f.val true).run Tryz.prog w' = .ok (.tuple #[.agg #[], .bool (Maps.has D f.key)]) w' := fun w' h => by
    obtain ⟨v, ps, h1, h2⟩ := h.look_ok factLaw Tryz.underlying138 (unitZero w') unitElem_mk (factKey f hok)
    obtain ⟨rfl, _⟩ := unitElem_inv h2
    exact h1
  have hl1 := hlook _ ((hown.alloc (.cells #[.int .i64 f.kind, .int .i64 f.place, .string f.name] 216)).drew)
  have hl2 := fun X => hlook _ (((hown.alloc (.cells #[.int .i64 f.kind, .int .i64 f.place, .string f.name] 216)).alloc X).drew)
  generalize Maps.has D f.key = R at *
  clear hlook hown hok
  unfold Fact.val ptrTo at *
  go_enter Tryz.func100, Tryz.ntmps100
  go_wp2
  go_region
  all_goals (go_wp2; go_ret)
  all_goals exact ⟨rfl, (((Below.refl _ _).alloc (Nat.le_refl _) _).alloc (by simp) _).drew⟩

/-- What a follower has come to: the facts that are known, in the order in which they came; those still to be followed, as the heap has them; something is wrong; beyond what is walked here. -/
structure FSt where
  kn : List Fact
  td : List Fact
  wr : Bool
  bad : Bool
def FSt.knows (s : FSt) (f : Fact) : Bool := (s.kn.map Fact.key).any fun x => x.sameKey f.key
def FSt.mark (s : FSt) : FSt := { s with bad := true }
def FSt.err (s : FSt) : FSt := { s with wr := true }
def FSt.add (s : FSt) (f : Fact) : FSt :=
  if f.okB = false then s.mark
  else if s.knows f = true then s
  else if 100000 ≤ s.kn.length then s.mark
  else { s with kn := s.kn ++ [f], td := upL (s.td.length + 1) (s.td ++ [f]) s.td.length }
theorem FSt.add_bad (s : FSt) (f : Fact) (h : (s.add f).bad = false) : s.bad = false := by
  unfold FSt.add at h
  split at h
  · cases h
  · split at h
    · exact h
    · split at h
      · cases h
      · exact h

def foC (xp cv : Value) (M : Nat) (tv : Value) (wr : Bool) : Nat → Option Value := fun q => [xp, cv, .map (some M), tv, .bool wr][q]?
theorem foC_put3 (xp cv : Value) (M : Nat) (tv tv' : Value) (wr : Bool) : putC (foC xp cv M tv wr) 3 tv' = foC xp cv M tv' wr := by
  funext q
  unfold putC foC
  match q with
  | 0 => rfl
  | 1 => rfl
  | 2 => rfl
  | 3 => rfl
  | 4 => rfl
  | q + 5 => simp
theorem foC_put4 (xp cv : Value) (M : Nat) (tv : Value) (wr b : Bool) : putC (foC xp cv M tv wr) 4 (.bool b) = foC xp cv M tv b := by
  funext q
  unfold putC foC
  match q with
  | 0 => rfl
  | 1 => rfl
  | 2 => rfl
  | 3 => rfl
  | 4 => rfl
  | q + 5 => simp
/-- A follower in memory. Its map lies at the first block behind w0, the follower itself at the next. -/
structure FoAt (w0 : World) (xp cv : Value) (s : FSt) (rs : List Hold) (rc : Nat) (ra : Option Addr) (w : World) : Prop where
  td : TdV (w0.heap.size + 1) (w0.heap.size + 1) 3 s.td.length rc ra s.td rs (foC xp cv w0.heap.size (.slice ra s.td.length rc) s.wr) w
  kn : w.ownsMap Tryz.prog 216 (unitElem (H := Unit)) w0.heap.size s.kn.length (setOf (.agg []) (s.kn.map Fact.key))
  few : s.td.length ≤ s.kn.length
  lim : s.kn.length ≤ 100000
  below : Below w0.heap.size w0 w
def FoSt (w0 : World) (xp cv : Value) (s : FSt) (rs : List Hold) (w : World) : Prop := ∃ rc ra, FoAt w0 xp cv s rs rc ra w

theorem ownsMap_on {P : Program} {k : TypeId} {R : Value → Option (DataW Unit × List MemPlace)} {b n B : Nat} {D : DataW Unit} {w w' : World} (h : w.ownsMap P k R b n D) (hb : Below B w w') (hB : b < B) : w'.ownsMap P k R b n D := by
  obtain ⟨es, clock, h1, h2⟩ := h
  exact ⟨es, clock, (hb.block b hB).trans h1, h2⟩
theorem TdV.on {B tb o n rc : Nat} {ra : Option Addr} {fs : List Fact} {rs : List Hold} {c : Nat → Option Value} {w w' : World} (h : TdV B tb o n rc ra fs rs c w) (hb : Below w.heap.size w w') : TdV B tb o n rc ra fs rs c w' :=
  ⟨h.forest.on hb, h.len, h.is, Nat.lt_of_lt_of_le h.lt hb.size, h.ge, h.ne, h.out, fun q => (hb.cell (p := ⟨tb, q, none⟩) h.lt).trans (h.cells q), fun q => (hb.frozen (p := ⟨tb, q, none⟩) h.lt).trans (h.frz q)⟩
theorem FoAt.on {w0 : World} {xp cv : Value} {s : FSt} {rs : List Hold} {rc : Nat} {ra : Option Addr} {w w' : World} (h : FoAt w0 xp cv s rs rc ra w) (hb : Below w.heap.size w w') : FoAt w0 xp cv s rs rc ra w' :=
  ⟨h.td.on hb, ownsMap_on h.kn hb h.kn.lt, h.few, h.lim, h.below.trans (hb.mono h.below.size)⟩
theorem FoSt.on {w0 : World} {xp cv : Value} {s : FSt} {rs : List Hold} {w w' : World} (h : FoSt w0 xp cv s rs w) (hb : Below w.heap.size w w') : FoSt w0 xp cv s rs w' := by
  obtain ⟨rc, ra, h⟩ := h
  exact ⟨rc, ra, h.on hb⟩
theorem keys_str (l : List Fact) : ∀ x ∈ l.map Fact.key, WideAt.IsKeyLit x := by
  intro x hx
  obtain ⟨f, _, rfl⟩ := List.mem_map.1 hx
  exact trivial
theorem FoAt.has {w0 : World} {xp cv : Value} {s : FSt} {rs : List Hold} {rc : Nat} {ra : Option Addr} {w : World} (_ : FoAt w0 xp cv s rs rc ra w) (f : Fact) : Maps.has (setOf (.agg [] : DataW Unit) (s.kn.map Fact.key)) f.key = s.knows f :=
  has_setOf _ _ _ (keys_str _)
theorem FoAt.cell {w0 : World} {xp cv : Value} {s : FSt} {rs : List Hold} {rc : Nat} {ra : Option Addr} {w : World} (h : FoAt w0 xp cv s rs rc ra w) (q : Nat) : w.cell? ⟨w0.heap.size + 1, q, none⟩ = foC xp cv w0.heap.size (.slice ra s.td.length rc) s.wr q := h.td.cells q

theorem fknows_any (w0 : World) (xp cv : Value) (s : FSt) (rs : List Hold) (f : Fact) (w : World) (h : FoSt w0 xp cv s rs w) (hok : f.okB = true) :
    Calls Tryz.prog 100 #[ptrTo (w0.heap.size + 1), f.val] w fun e w' => e = .returned (.bool (s.knows f)) ∧ Below w.heap.size w w' := by
  obtain ⟨rc, ra, h⟩ := h
  have := knows_at (w0.heap.size + 1) w0.heap.size s.kn.length _ f w hok h.td.lt (h.cell 2) h.kn
  rw [h.has] at this
  exact this

/-- 'wrong' is set. -/
theorem FoSt.err {w0 : World} {xp cv : Value} {s : FSt} {rs : List Hold} {w : World} (h : FoSt w0 xp cv s rs w) : FoSt w0 xp cv s.err rs (w.setCell ⟨w0.heap.size + 1, 4, none⟩ (.bool true)) := by
  obtain ⟨rc, ra, h⟩ := h
  refine ⟨rc, ra, ?_, h.kn.setCell (by simp) _, h.few, h.lim, h.below.setCell (p := ⟨w0.heap.size + 1, 4, none⟩) (by simp) _⟩
  have hfar : (⟨w0.heap.size + 1, 4, none⟩ : Addr).block ∉ blocksOf ((⟨216, 3, .slice ra s.td.length rc, s.td.length, s.td.flatMap Fact.cells⟩ : Hold) :: rs) := by
    have := h.td.ne
    rw [blocks_cons]
    simp only [List.mem_append, Option.mem_toList, not_or]
    exact ⟨fun e => this e, h.td.out⟩
  have hcells : ∀ q, (w.setCell ⟨w0.heap.size + 1, 4, none⟩ (.bool true)).cell? ⟨w0.heap.size + 1, q, none⟩ = putC (foC xp cv w0.heap.size (.slice ra s.td.length rc) s.wr) 4 (.bool true) q := fun q => by
    unfold putC
    by_cases e : q = 4
    · subst e
      rw [if_pos rfl]
      exact World.cell?_setCell_same w ⟨w0.heap.size + 1, 4, none⟩ _ (h.cell 4)
    · rw [if_neg e, World.cell?_setCell_other _ _ _ _ (fun e' => e (by simpa using (congrArg Addr.off e').symm))]
      exact h.cell q
  refine ⟨h.td.forest.far hfar _, h.td.len, rfl, ?_, h.td.ge, h.td.ne, h.td.out, fun q => ?_, fun q => ?_⟩
  · rw [World.size_setCell]; exact h.td.lt
  · rw [hcells, foC_put4]; rfl
  · rw [World.frozen?_setCell]; exact h.td.frz q

/-- A box of one's own beside it; and struck again. -/
theorem FoSt.box {w0 : World} {xp cv : Value} {s : FSt} {rs : List Hold} {w : World} (h : FoSt w0 xp cv s rs w) (t : TypeId) (cs : Array Value) (sz : Nat) (hs : cs.size = sz) : FoSt w0 xp cv s (boxed t sz w.heap.size cs.toList :: rs) (w.alloc (.cells cs t)) := by
  obtain ⟨rc, ra, h⟩ := h
  have hB : w0.heap.size + 1 ≤ w.heap.size := Nat.le_trans h.td.ge (Nat.le_of_lt h.td.lt)
  have hf := h.td.forest.alloc (.cells cs t)
  have hrow := hf.own _ (List.mem_cons_self ..)
  have hltk : ∀ k, k ∈ blocksOf ((⟨216, 3, .slice ra s.td.length rc, s.td.length, s.td.flatMap Fact.cells⟩ : Hold) :: rs) → k < w.heap.size := fun k hk => (h.td.forest.lt hk).2
  have h1 : Forest (w0.heap.size + 1) (w.alloc (.cells cs t)) (boxed t sz w.heap.size cs.toList :: rs) := hf.tail.cons (boxed_new hs hB) (fun k hk hm => by
    have e : w.heap.size = k := by simpa [boxed, Value.ownBlock] using hk
    have := hltk k (by rw [blocks_cons]; exact List.mem_append_right _ hm)
    omega)
  have h2 : Forest (w0.heap.size + 1) (w.alloc (.cells cs t)) ((⟨216, 3, .slice ra s.td.length rc, s.td.length, s.td.flatMap Fact.cells⟩ : Hold) :: boxed t sz w.heap.size cs.toList :: rs) := h1.cons hrow (fun k hk hm => by
    rw [blocks_cons] at hm
    rcases List.mem_append.1 hm with hm | hm
    · have e : k = w.heap.size := by simpa [boxed, Value.ownBlock] using hm
      have := hltk k (by rw [blocks_cons]; exact List.mem_append_left _ (by simpa using hk))
      omega
    · exact h.td.forest.alone hk hm)
  refine ⟨rc, ra, ⟨h2, h.td.len, h.td.is, by rw [World.size_alloc]; have := h.td.lt; omega, h.td.ge, h.td.ne, ?_, fun q => ?_, fun q => ?_⟩, h.kn.alloc _, h.few, h.lim, h.below.alloc h.below.size _⟩
  · rw [blocks_cons]
    intro hm
    rcases List.mem_append.1 hm with hm | hm
    · have e : w0.heap.size + 1 = w.heap.size := by simpa [boxed, Value.ownBlock] using hm
      have := h.td.lt; omega
    · exact h.td.out hm
  · rw [World.cell?_alloc_past _ _ _ h.td.lt]; exact h.td.cells q
  · rw [World.frozen?_alloc_past _ _ _ h.td.lt]; exact h.td.frz q
theorem FoSt.unbox {w0 : World} {xp cv : Value} {s : FSt} {r : Hold} {rs : List Hold} {w : World} (h : FoSt w0 xp cv s (r :: rs) w) : FoSt w0 xp cv s rs w := by
  obtain ⟨rc, ra, h⟩ := h
  have h0 := h.td.forest
  have hf : Forest (w0.heap.size + 1) w ((⟨216, 3, .slice ra s.td.length rc, s.td.length, s.td.flatMap Fact.cells⟩ : Hold) :: rs) := h0.tail.tail.cons (h0.own _ (List.mem_cons_self ..)) (fun k hk hm => h0.alone hk (by rw [blocks_cons]; exact List.mem_append_right _ hm))
  exact ⟨rc, ra, ⟨hf, h.td.len, h.td.is, h.td.lt, h.td.ge, h.td.ne, fun hm => h.td.out (by rw [blocks_cons]; exact List.mem_append_right _ hm), h.td.cells, h.td.frz⟩, h.kn, h.few, h.lim, h.below⟩
theorem FoSt.own {w0 : World} {xp cv : Value} {s : FSt} {r : Hold} {rs : List Hold} {w : World} (h : FoSt w0 xp cv s (r :: rs) w) : r.own (w0.heap.size + 1) w := by
  obtain ⟨rc, ra, h⟩ := h
  exact h.td.forest.own _ (List.mem_cons_of_mem _ (List.mem_cons_self ..))
theorem FoSt.boxCell {w0 : World} {xp cv : Value} {s : FSt} {t : TypeId} {sz b : Nat} {xs : List Value} {rs : List Hold} {w : World} (h : FoSt w0 xp cv s (boxed t sz b xs :: rs) w) (o : Nat) (ho : o < sz) : w.cell? ⟨b, o, none⟩ = xs[o]? := boxed_cell h.own o ho
theorem FoSt.below {w0 : World} {xp cv : Value} {s : FSt} {rs : List Hold} {w : World} (h : FoSt w0 xp cv s rs w) : Below w0.heap.size w0 w := by
  obtain ⟨rc, ra, h⟩ := h
  exact h.below
theorem FoSt.drew {w0 : World} {xp cv : Value} {s : FSt} {rs : List Hold} {w : World} (h : FoSt w0 xp cv s rs w) : FoSt w0 xp cv s rs w.drew := h.on ((Below.refl _ _).drew)
theorem FoSt.lt {w0 : World} {xp cv : Value} {s : FSt} {rs : List Hold} {w : World} (h : FoSt w0 xp cv s rs w) : w0.heap.size + 1 < w.heap.size := by
  obtain ⟨rc, ra, h⟩ := h
  exact h.td.lt

end Go.Proofs.YtnmclolbndohiaaGreatDoor

/-
  The walk of 'add'.
-/
namespace Go.Proofs.YtnmclolbndohiaaGreatDoor
open Go.RowKit
open Go.Maps
open Ver

theorem Forest.grownLow {B k : Nat} {w w' : World} {rs : List Hold} (h : Forest B w rs) (hg : w.grownBy w' (some k)) (hk : k < B) : Forest B w' rs where
  own := fun x hx => World.ownsRow.kept (h.own x hx) hg (by
    cases e : x.v.ownBlock with
    | none => exact Or.inl rfl
    | some j => exact Or.inr (fun e' => by have := (h.lt (mem_blocks.2 ⟨x, hx, e⟩)).1; cases e'; omega))
  apart := h.apart
theorem TdAt.toV {B tb o g n cap : Nat} {fs : List Fact} {rs : List Hold} {c : Nat → Option Value} {w : World} (h : TdAt B tb o g n cap fs rs c w) (hc : c o = some (.slice (some ⟨g, 0, none⟩) n cap)) (hB : B ≤ tb) (hout : tb ∉ blocksOf rs) : TdV B tb o n cap (some ⟨g, 0, none⟩) fs rs c w :=
  ⟨h.forest, h.len, hc, h.lt, hB, fun e => h.ne (by simpa [Value.ownBlock] using e.symm), hout, h.cells, h.frz⟩
/-- Behind the map's store. -/
theorem FoSt.stored {w0 : World} {xp cv : Value} {s : FSt} {rs : List Hold} {w w' : World} {f : Fact} {rc : Nat} {ra : Option Addr} (h : FoAt w0 xp cv s rs rc ra w) (hm : w'.ownsMap Tryz.prog 216 (unitElem (H := Unit)) w0.heap.size (s.kn.length + 1) ((setOf (.agg []) (s.kn.map Fact.key)).put f.key (.agg []))) (hg : w.grownBy w' (some w0.heap.size)) (hl : s.kn.length + 1 ≤ 100000) :
    FoAt w0 xp cv { s with kn := s.kn ++ [f] } rs rc ra w' := by
  have hcell : ∀ (b q : Nat), b < w.heap.size → b ≠ w0.heap.size → w'.cell? ⟨b, q, none⟩ = w.cell? ⟨b, q, none⟩ := fun b q hb hne => hg.cell_far ⟨b, q, none⟩ hb (fun e => hne (Option.some.inj e))
  have hlt := h.td.lt
  refine ⟨⟨?_, h.td.len, h.td.is, Nat.lt_of_lt_of_le hlt hg.size, h.td.ge, h.td.ne, h.td.out, fun q => ?_, fun q => ?_⟩, ?_, ?_, ?_, ?_⟩
  · exact h.td.forest.grownLow hg (by simp)
  · rw [hcell _ _ hlt (by omega)]; exact h.td.cells q
  · exact (hg.frozen_far ⟨w0.heap.size + 1, q, none⟩ hlt (by simp)).trans (h.td.frz q)
  · simp only [List.length_append, List.length_singleton, List.map_append, List.map_singleton]
    rw [setOf_snoc]; exact hm
  · have := h.few; simp; omega
  · simpa using hl
  · exact h.below.grown hg h.below.size (fun j hj => by cases hj; exact Nat.le_refl _)

set_option maxHeartbeats 1600000 in
set_option maxRecDepth 100000 in
theorem fadd_any (w0 : World) (xp cv : Value) (s : FSt) (rs : List Hold) (f : Fact) (w : World) (h : FoSt w0 xp cv s rs w) (hbad : (s.add f).bad = false) :
    Calls Tryz.prog 137 #[ptrTo (w0.heap.size + 1), f.val] w fun e w' => e = .returned (.tuple #[]) ∧ FoSt w0 xp cv (s.add f) rs w' := by
  have hok : f.okB = true := by
    cases e : f.okB with
    | true => rfl
    | false => unfold FSt.add at hbad; rw [if_pos e] at hbad; cases hbad
  have hsp : (s.knows f = true ∧ Hid (s.add f = s)) ∨ (s.knows f = false ∧ Hid (s.kn.length + 1 ≤ 100000 ∧ s.add f = { s with kn := s.kn ++ [f], td := upL (s.td.length + 1) (s.td ++ [f]) s.td.length })) := by
    cases e : s.knows f with
    | true => exact Or.inl ⟨rfl, by show _ = _; unfold FSt.add; rw [if_neg (by rw [hok]; decide), if_pos e]⟩
    | false =>
      have hl : ¬ 100000 ≤ s.kn.length := fun hl => by
        unfold FSt.add at hbad; rw [if_neg (by rw [hok]; decide), if_neg (by rw [e]; decide), if_pos hl] at hbad; cases hbad
      refine Or.inr ⟨rfl, (by omega : s.kn.length + 1 ≤ 100000), ?_⟩
      unfold FSt.add; rw [if_neg (by rw [hok]; decide), if_neg (by rw [e]; decide), if_neg hl]
  have h1 : FoSt w0 xp cv s (boxed 216 3 w.heap.size [.int .i64 f.kind, .int .i64 f.place, .string f.name] :: rs) (w.alloc (.cells #[.int .i64 f.kind, .int .i64 f.place, .string f.name] 216)) := h.box _ #[.int .i64 f.kind, .int .i64 f.place, .string f.name] 3 rfl
  have H1 : Hid (FoSt w0 xp cv s (boxed 216 3 w.heap.size [.int .i64 f.kind, .int .i64 f.place, .string f.name] :: rs) (w.alloc (.cells #[.int .i64 f.kind, .int .i64 f.place, .string f.name] 216))) := h1
  have HK : Hid (Calls Tryz.prog 100 #[ptrTo (w0.heap.size + 1), f.val] (w.alloc (.cells #[.int .i64 f.kind, .int .i64 f.place, .string f.name] 216)) fun e w' => e = .returned (.bool (s.knows f)) ∧ Below (w.alloc (.cells #[.int .i64 f.kind, .int .i64 f.place, .string f.name] 216)).heap.size (w.alloc (.cells #[.int .i64 f.kind, .int .i64 f.place, .string f.name] 216)) w') := fknows_any w0 xp cv s _ f _ h1 hok
  clear h h1
  rcases hsp with ⟨hk, HS⟩ | ⟨hk, HS⟩
  · rw [hk] at HK
    clear hk hbad hok
    generalize s.add f = s' at *
    unfold Fact.val ptrTo at *
    go_enter Tryz.func137, Tryz.ntmps137
    go_wp2_with fail
    refine Calls.mono HK.out ?_
    rintro e w2 ⟨rfl, hb2⟩
    have H2 : Hid (FoSt w0 xp cv s rs w2) := (H1.out.on hb2).unbox
    clear hb2 HK H1
    go_wp2
    exact bodyPost_ret (v := .tuple #[]) (by simp [results, Tryz.results137, go_sem]) rfl ⟨rfl, by rw [HS.out]; exact H2.out⟩
  · rw [hk] at HK
    clear hk hbad
    have HOK : Hid (f.okB = true) := hok
    generalize s.add f = s' at *
    unfold Fact.val ptrTo at *
    go_enter Tryz.func137, Tryz.ntmps137
    go_wp2_with fail
    refine Calls.mono HK.out ?_
    rintro e w2 ⟨rfl, hb2⟩
    obtain ⟨rc, ra, h2⟩ := H1.out.on hb2
    have hb0 : w2.cell? ⟨w.heap.size, 0, none⟩ = some (.int .i64 f.kind) := (FoSt.boxCell ⟨rc, ra, h2⟩ 0 (by omega))
    have hb1 : w2.cell? ⟨w.heap.size, 1, none⟩ = some (.int .i64 f.place) := (FoSt.boxCell ⟨rc, ra, h2⟩ 1 (by omega))
    have hb3 : w2.cell? ⟨w.heap.size, 2, none⟩ = some (.string f.name) := (FoSt.boxCell ⟨rc, ra, h2⟩ 2 (by omega))
    have hlb : w.heap.size < w2.heap.size := by have := hb2.size; simp at this; omega
    have hlf := h2.td.lt
    have HF : Hid (s.td.length ≤ s.kn.length) := h2.few
    have hcm : w2.cell? ⟨w0.heap.size + 1, 2, none⟩ = some (.map (some w0.heap.size)) := h2.cell 2
    obtain ⟨w3, hrun, hm3, hg3⟩ := h2.kn.drew.update factLaw Tryz.underlying138 (by have := h2.lim; unfold maxLen; omega) (factKey f hok) unitElem_mk
    have H3 : Hid (FoAt w0 xp cv { s with kn := s.kn ++ [f] } (boxed 216 3 w.heap.size [.int .i64 f.kind, .int .i64 f.place, .string f.name] :: rs) rc ra w3) := FoSt.stored (h2.on ((Below.refl _ _).drew)) hm3 hg3 HS.out.1
    unfold Fact.val at hrun
    clear h2 hb2 HK H1 hok hm3 hg3
    go_wp2
    go_region
    have c3 : ∀ q, w3.cell? ⟨w0.heap.size + 1, q, none⟩ = foC xp cv w0.heap.size (.slice ra s.td.length rc) s.wr q := H3.out.cell
    have e0 : w3.cell? ⟨w.heap.size, 0, none⟩ = some (.int .i64 f.kind) := FoSt.boxCell ⟨rc, ra, H3.out⟩ 0 (by omega)
    have e1 : w3.cell? ⟨w.heap.size, 1, none⟩ = some (.int .i64 f.place) := FoSt.boxCell ⟨rc, ra, H3.out⟩ 1 (by omega)
    have e2 : w3.cell? ⟨w.heap.size, 2, none⟩ = some (.string f.name) := FoSt.boxCell ⟨rc, ra, H3.out⟩ 2 (by omega)
    have hlf3 := H3.out.td.lt
    have hlb3 : w.heap.size < w3.heap.size := (boxed_lt (FoSt.own ⟨rc, ra, H3.out⟩)).2
    have HP : Hid (Calls Tryz.prog 165 #[.iface 218 (.pointer (some ⟨w0.heap.size + 1, 3, none⟩)), .iface 216 f.val] w3.drew fun e w' => e = .returned (.tuple #[]) ∧ FoSt w0 xp cv s' rs w') := by
      have h3 := H3.out.on ((Below.refl _ _).drew)
      refine (hpush_any _ _ 3 s.td.length rc ra s.td _ _ f w3.drew h3.td (by have := h3.few; have := h3.lim; simp at *; omega) (Nat.le_trans h3.td.ge (Nat.le_of_lt h3.td.lt))).mono ?_
      rintro e w' ⟨rfl, gg, cq, hat, hb⟩
      refine ⟨rfl, FoSt.unbox (r := boxed 216 3 w.heap.size [.int .i64 f.kind, .int .i64 f.place, .string f.name]) ⟨cq, some ⟨gg, 0, none⟩, ?_⟩⟩
      rw [HS.out.2]
      have hl := hat.len
      have hv := hat.toV (by unfold putC; rw [if_pos rfl]) h3.td.ge h3.td.out
      rw [foC_put3] at hv
      refine ⟨?_, ownsMap_on h3.kn hb (by omega), ?_, h3.lim, h3.below.trans (hb.mono (by omega))⟩
      · show TdV _ _ 3 (upL _ _ _).length _ _ _ _ (foC _ _ _ (.slice _ (upL _ _ _).length _) _) _
        rw [hl]; exact hv
      · show (upL _ _ _).length ≤ _
        rw [hl]
        have := HF.out
        simp only [List.length_append, List.length_singleton]
        omega
    clear hrun hb0 hb1 hb3 hlb hlf hcm H3 HS HOK
    unfold Fact.val at HP
    go_wp2
    go_region_with (go_at_call 165; refine Calls.mono HP.out ?_; rintro e w4 ⟨rfl, h4⟩)
    all_goals (have H4 : Hid (FoSt w0 xp cv s' rs w4) := h4; clear h4 HP; go_wp2; go_end0; exact ⟨rfl, H4.out⟩)

end Go.Proofs.YtnmclolbndohiaaGreatDoor

/-
  A choice in memory, and in plain; the walks of 'isOpen', 'has', 'turnOn'.
-/
namespace Go.Proofs.YtnmclolbndohiaaGreatDoor
open Go.RowKit
open Go.Maps
open Ver

/-- What is asked of a package. -/
structure DAsk where
  name : ByteArray
  st : Int
  a : Int
  b : Int
  c : Int
  bare : Bool
  feats : List ByteArray
def CNeed.ask (n : CNeed) : DAsk := ⟨n.name, n.st, n.a, n.b, n.c, n.bare, n.feats⟩
def CAsk.ask (n : CAsk) : DAsk := ⟨n.name, n.st, n.a, n.b, n.c, n.bare, n.feats⟩
/-- An entry without its blocks. -/
structure DEnt where
  v0 : Int
  v1 : Int
  v2 : Int
  needs : List (DAsk × Bool)
  feats : List (ByteArray × List CItem)
def CEnt.abs (e : CEnt) : DEnt := ⟨e.v0, e.v1, e.v2, e.needs.map fun n => (n.ask, n.opt), e.feats.map fun f => (f.name, f.items)⟩
def chD (ch : List (Option CEnt)) : List (Option DEnt) := ch.map (Option.map CEnt.abs)

structure EntAt (w : World) (e : CEnt) : Prop where
  lt : e.b < w.heap.size
  cells : ∀ o, o < 5 → w.cell? ⟨e.b, o, none⟩ = e.cells[o]?
  needs : RowR w e.nv e.needs.length 8 (e.needs.flatMap CNeed.cells)
  feats : RowR w e.fv e.feats.length 2 (e.feats.flatMap CFeat.cells)
  nf : ∀ n ∈ e.needs, RowR w n.fv n.feats.length 1 (n.feats.map Value.string)
  fi : ∀ f ∈ e.feats, RowR w f.iv f.items.length 3 (f.items.flatMap CItem.cells)
  many : e.needs.length ≤ 1000 ∧ e.feats.length ≤ 1000
  many2 : (∀ n ∈ e.needs, n.feats.length ≤ 1000) ∧ ∀ f ∈ e.feats, f.items.length ≤ 1000
  dem : ∀ n ∈ e.needs, n.st = 0 ∨ n.st = 1 ∨ n.st = 2 ∨ n.st = 3 ∨ n.st = 4
theorem EntAt.on {w w' : World} {e : CEnt} (h : EntAt w e) (hb : Below w.heap.size w w') : EntAt w' e :=
  ⟨Nat.lt_of_lt_of_le h.lt hb.size, fun o ho => (hb.cell (p := ⟨e.b, o, none⟩) h.lt).trans (h.cells o ho), h.needs.on hb, h.feats.on hb, fun n hn => (h.nf n hn).on hb, fun n hn => (h.fi n hn).on hb, h.many, h.many2, h.dem⟩
theorem RowR.slice {w : World} {v : Value} {n sz : Nat} {xs : List Value} (h : RowR w v n sz xs) : ∃ a k c, v = .slice a k c := by
  rcases h.2 with ⟨h, _⟩ | ⟨g, cap, h, _⟩
  · exact ⟨_, _, _, h⟩
  · exact ⟨_, _, _, h⟩

def entV : Option CEnt → Value
  | none => .pointer none
  | some e => ptrTo e.b
/-- The index and the choice, as they lie in memory. -/
structure ChAt (w : World) (ib : Nat) (pv : Value) (packs : List CPack) (cb : Nat) (ch : List (Option CEnt)) : Prop where
  ilt : ib < w.heap.size
  icell : w.cell? ⟨ib, 0, none⟩ = some pv
  irow : RowR w pv packs.length 1 (packs.map fun p => ptrTo p.b)
  inames : ∀ p ∈ packs, p.b < w.heap.size ∧ w.cell? ⟨p.b, 0, none⟩ = some (.string p.name)
  ifew : packs.length ≤ 1000
  clt : cb < w.heap.size
  cells : ∀ (i : Nat) (e : Option CEnt), ch[i]? = some e → w.cell? ⟨cb, i, none⟩ = some (entV e)
  ents : ∀ e, some e ∈ ch → EntAt w e
  few : ch.length ≤ 1000
theorem ChAt.on {w w' : World} {ib : Nat} {pv : Value} {packs : List CPack} {cb : Nat} {ch : List (Option CEnt)} (h : ChAt w ib pv packs cb ch) (hb : Below w.heap.size w w') : ChAt w' ib pv packs cb ch :=
  ⟨Nat.lt_of_lt_of_le h.ilt hb.size, (hb.cell (p := ⟨ib, 0, none⟩) h.ilt).trans h.icell, h.irow.on hb, fun p hp => ⟨Nat.lt_of_lt_of_le (h.inames p hp).1 hb.size, (hb.cell (p := ⟨p.b, 0, none⟩) (h.inames p hp).1).trans (h.inames p hp).2⟩, h.ifew, Nat.lt_of_lt_of_le h.clt hb.size, fun i e he => (hb.cell (p := ⟨cb, i, none⟩) h.clt).trans (h.cells i e he), fun e he => (h.ents e he).on hb, h.few⟩
def chV (cb cap : Nat) (ch : List (Option CEnt)) : Value := .slice (some ⟨cb, 0, none⟩) ch.length cap

def hasD (ch : List (Option DEnt)) (place : Int) (name : ByteArray) : Bool :=
  match ch[place.toNat]? with
  | some (some e) => decide (0 ≤ idxL (e.feats.map fun f => f.1.data.toList) name.data.toList)
  | _ => false
def turnOnP (ch : List (Option DEnt)) (s : FSt) (place : Int) (name : ByteArray) : FSt :=
  if (ch.length : Int) ≤ place then s
  else if place < 0 then s.mark
  else if hasD ch place name = true then s.add ⟨2, place, name⟩ else s.err
theorem turnOnP_bad (ch : List (Option DEnt)) (s : FSt) (place : Int) (name : ByteArray) (h : (turnOnP ch s place name).bad = false) : s.bad = false := by
  unfold turnOnP at h
  split at h
  · exact h
  · split at h
    · cases h
    · split at h
      · exact FSt.add_bad _ _ h
      · exact h

set_option maxHeartbeats 400000 in
theorem fopen_any (w0 : World) (xp : Value) (cb cap : Nat) (ch : List (Option CEnt)) (s : FSt) (rs : List Hold) (place : Int) (w : World) (h : FoSt w0 xp (chV cb cap ch) s rs w) :
    Calls Tryz.prog 136 #[ptrTo (w0.heap.size + 1), .int .i64 place] w fun e w' => e = .returned (.bool (decide ((ch.length : Int) ≤ place))) ∧ w' = w := by
  obtain ⟨rc, ra, h⟩ := h
  have c1 : w.cell? ⟨w0.heap.size + 1, 1, none⟩ = some (.slice (some ⟨cb, 0, none⟩) ch.length cap) := h.cell 1
  have hl := h.td.lt
  clear h
  unfold ptrTo
  go_enter Tryz.func136, Tryz.ntmps136
  go_wp2
  go_ret
  exact ⟨by simp, rfl⟩

set_option maxHeartbeats 1600000 in
set_option maxRecDepth 100000 in
theorem fhas_any (w0 : World) (xp : Value) (ib : Nat) (pv : Value) (packs : List CPack) (cb cap : Nat) (ch : List (Option CEnt)) (s : FSt) (rs : List Hold) (place : Nat) (name : ByteArray) (w : World) (h : FoSt w0 xp (chV cb cap ch) s rs w) (hC : ChAt w0 ib pv packs cb ch) (hp : place < ch.length) :
    Calls Tryz.prog 139 #[ptrTo (w0.heap.size + 1), .int .i64 place, .string name] w fun e w' => e = .returned (.bool (hasD (chD ch) place name)) ∧ Below w.heap.size w w' := by
  have hC' := hC.on h.below
  obtain ⟨rc, ra, h⟩ := h
  have c1 : w.cell? ⟨w0.heap.size + 1, 1, none⟩ = some (.slice (some ⟨cb, 0, none⟩) ch.length cap) := h.cell 1
  have hl := h.td.lt
  have hcl := hC'.clt
  have hch : ch.length ≤ 1000 := hC.few
  clear h
  obtain ⟨x, hx⟩ : ∃ x, ch[place]? = some x := ⟨_, List.getElem?_eq_getElem hp⟩
  have hD : (chD ch)[place]? = some (x.map CEnt.abs) := by unfold chD; rw [List.getElem?_map, hx]; rfl
  have cx := hC'.cells place x hx
  have k1 : (place : Int) < (ch.length : Int) := by omega
  cases x with
  | none =>
    have HR : Hid (hasD (chD ch) place name = false) := by show _ = _; unfold hasD; rw [Int.toNat_natCast, hD]; rfl
    generalize hasD (chD ch) place name = R at *
    clear hC hC' hx hD
    simp only [entV] at cx
    unfold ptrTo
    go_enter Tryz.func139, Tryz.ntmps139
    go_wp2
    go_ret
    exact ⟨by rw [HR.out]; rfl, Below.refl _ _⟩
  | some e =>
    have hE := hC'.ents e (List.mem_of_getElem? hx)
    have HR : Hid (hasD (chD ch) place name = decide (0 ≤ idxL (e.feats.map fun f => f.name.data.toList) name.data.toList)) := by
      show _ = _; unfold hasD; rw [Int.toNat_natCast, hD]
      simp [CEnt.abs, Function.comp_def]
    have HF : Hid (Calls Tryz.prog 143 #[ptrTo e.b, .string name] w fun r w' => (∃ n : CFeat, r = .returned (.tuple #[n.val, .bool (decide (0 ≤ idxL (e.feats.map fun p => p.name.data.toList) name.data.toList))]) ∧ (0 ≤ idxL (e.feats.map fun p => p.name.data.toList) name.data.toList → e.feats[(idxL (e.feats.map fun p => p.name.data.toList) name.data.toList).toNat]? = some n) ∧ ∃ a k c, n.iv = .slice a k c) ∧ Below w.heap.size w w') := featM_any e.b e.fv e.feats name w (by have := hE.many.2; omega) hE.lt (hE.cells 4 (by omega)) hE.feats (fun n hn => (hE.fi n hn).slice)
    generalize hasD (chD ch) place name = R at *
    generalize hI : idxL (e.feats.map fun p => p.name.data.toList) name.data.toList = I at *
    clear hC hC' hx hD hE hI
    simp only [entV] at cx
    unfold ptrTo at *
    go_enter Tryz.func139, Tryz.ntmps139
    go_wp2_with fail
    refine Calls.mono HF.out ?_
    rintro r w1 ⟨⟨⟨nnm, niv, nit⟩, rfl, _, xa, xk, xc, hfi⟩, hb1⟩
    simp only at hfi
    subst hfi
    have HB1 : Hid (Below w.heap.size w w1) := hb1
    have hs1 := hb1.size
    clear hb1 HF
    unfold CFeat.val
    simp only
    go_wp2
    go_ret
    exact ⟨by rw [HR.out]; rfl, HB1.out.alloc hs1 _⟩

set_option maxHeartbeats 1600000 in
set_option maxRecDepth 100000 in
theorem fturn_any (w0 : World) (xp : Value) (ib : Nat) (pv : Value) (packs : List CPack) (cb cap : Nat) (ch : List (Option CEnt)) (s : FSt) (rs : List Hold) (place : Int) (name : ByteArray) (w : World) (h : FoSt w0 xp (chV cb cap ch) s rs w) (hC : ChAt w0 ib pv packs cb ch) (hbad : (turnOnP (chD ch) s place name).bad = false) :
    Calls Tryz.prog 138 #[ptrTo (w0.heap.size + 1), .int .i64 place, .string name] w fun e w' => e = .returned (.tuple #[]) ∧ FoSt w0 xp (chV cb cap ch) (turnOnP (chD ch) s place name) rs w' := by
  have hlen : (chD ch).length = ch.length := by unfold chD; simp
  have HO : Hid (∀ w, FoSt w0 xp (chV cb cap ch) s rs w → Calls Tryz.prog 136 #[ptrTo (w0.heap.size + 1), .int .i64 place] w fun e w' => e = .returned (.bool (decide ((ch.length : Int) ≤ place))) ∧ w' = w) := fun w h => fopen_any w0 xp cb cap ch s rs place w h
  have H : Hid (FoSt w0 xp (chV cb cap ch) s rs w) := h
  by_cases h1 : (ch.length : Int) ≤ place
  · have HE : Hid (turnOnP (chD ch) s place name = s) := by show _ = _; unfold turnOnP; rw [if_pos (by rw [hlen]; exact h1)]
    have HO' : Hid (Calls Tryz.prog 136 #[ptrTo (w0.heap.size + 1), .int .i64 place] w fun e w' => e = .returned (.bool true) ∧ w' = w) := by
      have := HO.out w h; rw [decide_eq_true h1] at this; exact this
    generalize turnOnP (chD ch) s place name = s' at *
    clear h HO hbad hC
    unfold ptrTo at *
    go_enter Tryz.func138, Tryz.ntmps138
    go_wp2_with fail
    refine Calls.mono HO'.out ?_
    rintro e w1 ⟨rfl, hw1⟩
    obtain rfl : w = w1 := hw1.symm
    clear HO'
    go_wp2
    exact bodyPost_ret (v := .tuple #[]) (by simp [results, Tryz.results138, go_sem]) rfl ⟨rfl, by rw [HE.out]; exact H.out⟩
  · have h2 : ¬ place < 0 := fun h2 => by unfold turnOnP at hbad; rw [if_neg (by rw [hlen]; exact h1), if_pos h2] at hbad; cases hbad
    obtain ⟨p, rfl⟩ : ∃ p : Nat, place = (p : Int) := ⟨place.toNat, by omega⟩
    have hp : p < ch.length := by omega
    have HO' : Hid (Calls Tryz.prog 136 #[ptrTo (w0.heap.size + 1), .int .i64 p] w fun e w' => e = .returned (.bool false) ∧ w' = w) := by
      have := HO.out w h; rw [decide_eq_false h1] at this; exact this
    have HH : Hid (Calls Tryz.prog 139 #[ptrTo (w0.heap.size + 1), .int .i64 p, .string name] w fun e w' => e = .returned (.bool (hasD (chD ch) p name)) ∧ Below w.heap.size w w') := fhas_any w0 xp ib pv packs cb cap ch s rs p name w h hC hp
    cases hh : hasD (chD ch) p name with
    | false =>
      have HE : Hid (turnOnP (chD ch) s p name = s.err) := by show _ = _; unfold turnOnP; rw [if_neg (by rw [hlen]; exact h1), if_neg h2, if_neg (by rw [hh]; decide)]
      generalize turnOnP (chD ch) s p name = s' at *
      rw [hh] at HH
      clear h HO hbad hC hh
      unfold ptrTo at *
      go_enter Tryz.func138, Tryz.ntmps138
      go_wp2_with fail
      refine Calls.mono HO'.out ?_
      rintro e w1 ⟨rfl, hw1⟩
      obtain rfl : w = w1 := hw1.symm
      clear HO'
      go_wp2_with fail
      refine Calls.mono HH.out ?_
      rintro e w2 ⟨rfl, hb2⟩
      have H2 : Hid (FoSt w0 xp (chV cb cap ch) s rs w2) := H.out.on hb2
      obtain ⟨b, hc4, hf4, hl4⟩ : ∃ b, w2.cell? ⟨w0.heap.size + 1, 4, none⟩ = some (.bool b) ∧ w2.frozen? ⟨w0.heap.size + 1, 4, none⟩ = false ∧ w0.heap.size + 1 < w2.heap.size := by
        obtain ⟨rc, ra, h⟩ := H2.out
        exact ⟨s.wr, h.cell 4, h.td.frz 4, h.td.lt⟩
      clear HH H hb2
      go_wp2
      exact bodyPost_ret (v := .tuple #[]) (by simp [results, Tryz.results138, go_sem]) rfl ⟨rfl, by rw [HE.out]; exact H2.out.err⟩
    | true =>
      have HE : Hid (turnOnP (chD ch) s p name = s.add ⟨2, p, name⟩) := by show _ = _; unfold turnOnP; rw [if_neg (by rw [hlen]; exact h1), if_neg h2, if_pos hh]
      have HA : Hid (∀ w, FoSt w0 xp (chV cb cap ch) s rs w → Calls Tryz.prog 137 #[ptrTo (w0.heap.size + 1), (⟨2, p, name⟩ : Fact).val] w fun e w' => e = .returned (.tuple #[]) ∧ FoSt w0 xp (chV cb cap ch) (s.add ⟨2, p, name⟩) rs w') := fun w h => fadd_any w0 xp _ s rs _ w h (by rw [← HE.out]; exact hbad)
      generalize turnOnP (chD ch) s p name = s' at *
      rw [hh] at HH
      clear h HO hbad hC hh
      unfold ptrTo Fact.val at *
      go_enter Tryz.func138, Tryz.ntmps138
      go_wp2_with fail
      refine Calls.mono HO'.out ?_
      rintro e w1 ⟨rfl, hw1⟩
      obtain rfl : w = w1 := hw1.symm
      clear HO'
      go_wp2_with fail
      refine Calls.mono HH.out ?_
      rintro e w2 ⟨rfl, hb2⟩
      have H2 : Hid (FoSt w0 xp (chV cb cap ch) s rs w2) := H.out.on hb2
      clear HH H hb2
      go_wp2_with fail
      refine Calls.mono (HA.out _ H2.out) ?_
      rintro e w3 ⟨rfl, h3⟩
      have H3 : Hid (FoSt w0 xp (chV cb cap ch) s' rs w3) := by show FoSt _ _ _ _ _ _; rw [HE.out]; exact h3
      clear h3 HA H2
      go_wp2
      go_end0
      exact ⟨rfl, H3.out⟩

end Go.Proofs.YtnmclolbndohiaaGreatDoor

/-
  The walk of 'ask'.
-/
namespace Go.Proofs.YtnmclolbndohiaaGreatDoor
open Go.RowKit
open Go.Maps
open Ver

def defB : ByteArray := ⟨#[100, 101, 102, 97, 117, 108, 116]⟩
def turnAll (ch : List (Option DEnt)) (place : Int) (l : List ByteArray) (s : FSt) : FSt := l.foldl (fun s n => turnOnP ch s place n) s
theorem turnAll_bad (ch : List (Option DEnt)) (place : Int) : ∀ (l : List ByteArray) (s : FSt), (turnAll ch place l s).bad = false → s.bad = false
  | [], _, h => h
  | n :: r, s, h => turnOnP_bad _ _ _ _ (turnAll_bad ch place r (turnOnP ch s place n) h)
theorem turnAll_append (ch : List (Option DEnt)) (place : Int) (l m : List ByteArray) (s : FSt) : turnAll ch place (l ++ m) s = turnAll ch place m (turnAll ch place l s) := by unfold turnAll; rw [List.foldl_append]
/-- Behind the features: 'default'. -/
def askEnd (ch : List (Option DEnt)) (place : Int) (bare : Bool) (s : FSt) : FSt := if bare = false ∧ hasD ch place defB = true then turnOnP ch s place defB else s
theorem askEnd_bad (ch : List (Option DEnt)) (place : Int) (bare : Bool) (s : FSt) (h : (askEnd ch place bare s).bad = false) : s.bad = false := by
  unfold askEnd at h
  split at h
  · exact turnOnP_bad _ _ _ _ h
  · exact h
def askF (names : List (List UInt8)) (ch : List (Option DEnt)) (s : FSt) (q : DAsk) : FSt :=
  if (ch.length : Int) ≤ idxL names q.name.data.toList then s
  else if idxL names q.name.data.toList < 0 then s.mark
  else match ch[(idxL names q.name.data.toList).toNat]? with
    | some (some e) => if fitC q.st q.a q.b q.c e.v0 e.v1 e.v2 = true then askEnd ch (idxL names q.name.data.toList) q.bare (turnAll ch (idxL names q.name.data.toList) q.feats (s.add ⟨0, idxL names q.name.data.toList, ⟨#[]⟩⟩)) else s.err
    | _ => s.err
theorem askF_bad (names : List (List UInt8)) (ch : List (Option DEnt)) (s : FSt) (q : DAsk) (h : (askF names ch s q).bad = false) : s.bad = false := by
  unfold askF at h
  split at h
  · exact h
  · split at h
    · cases h
    · split at h
      · split at h
        · exact FSt.add_bad _ _ (turnAll_bad _ _ _ _ (askEnd_bad _ _ _ _ h))
        · exact h
      · exact h

set_option maxHeartbeats 3200000 in
set_option maxRecDepth 100000 in
theorem fask_any (w0 : World) (ib : Nat) (pv : Value) (packs : List CPack) (cb cap : Nat) (ch : List (Option CEnt)) (s : FSt) (rs : List Hold) (q : CAsk) (w : World) (h : FoSt w0 (ptrTo ib) (chV cb cap ch) s rs w) (hC : ChAt w0 ib pv packs cb ch)
    (hq : RowR w0 q.fv q.feats.length 1 (q.feats.map Value.string)) (hqn : q.feats.length ≤ 1000) (hst : q.st = 0 ∨ q.st = 1 ∨ q.st = 2 ∨ q.st = 3 ∨ q.st = 4) (hbad : (askF (packs.map fun p => p.name.data.toList) (chD ch) s q.ask).bad = false) :
    Calls Tryz.prog 96 #[ptrTo (w0.heap.size + 1), q.val] w fun e w' => e = .returned (.tuple #[]) ∧ FoSt w0 (ptrTo ib) (chV cb cap ch) (askF (packs.map fun p => p.name.data.toList) (chD ch) s q.ask) rs w' := by
  obtain ⟨qn, st, qa, qb, qc, bare, fv, feats⟩ := q
  simp only [CAsk.ask, CAsk.val] at *
  have hlen : (chD ch).length = ch.length := by unfold chD; simp
  have hch : ch.length ≤ 1000 := hC.few
  have h1 := h.box 103 #[.string qn, .int .i64 st, .int .i64 qa, .int .i64 qb, .int .i64 qc, .bool bare, fv] 7 rfl
  have H1 : Hid (FoSt w0 (ptrTo ib) (chV cb cap ch) s (boxed 103 7 w.heap.size [.string qn, .int .i64 st, .int .i64 qa, .int .i64 qb, .int .i64 qc, .bool bare, fv] :: rs) (w.alloc (.cells #[.string qn, .int .i64 st, .int .i64 qa, .int .i64 qb, .int .i64 qc, .bool bare, fv] 103))) := h1
  generalize hw1 : w.alloc (.cells #[.string qn, .int .i64 st, .int .i64 qa, .int .i64 qb, .int .i64 qc, .bool bare, fv] 103) = w1 at *
  have HP : Hid (∀ w', Below w1.heap.size w1 w' → Calls Tryz.prog 53 #[ptrTo ib, .string qn] w' fun e w2 => e = .returned (.int .i64 (idxL (packs.map fun p => p.name.data.toList) qn.data.toList)) ∧ Below w'.heap.size w' w2) := fun w' hb => by
    have hC' := hC.on ((h1.below).trans (hb.mono h1.below.size))
    exact place_any ib pv packs qn w' (by have := hC.ifew; omega) hC'.ilt hC'.icell hC'.irow hC'.inames
  generalize hR : askF (packs.map fun p => p.name.data.toList) (chD ch) s ⟨qn, st, qa, qb, qc, bare, feats⟩ = s' at *
  have HC : Hid (ChAt w0 ib pv packs cb ch) := hC
  have HQ : Hid (RowR w0 fv feats.length 1 (feats.map Value.string)) := hq
  unfold askF at hR
  simp only at hR
  generalize hK : idxL (packs.map fun p => p.name.data.toList) qn.data.toList = K at *
  -- the first region
  have x0 : ∀ w', Below w1.heap.size w1 w' → w'.cell? ⟨w0.heap.size + 1, 0, none⟩ = some (ptrTo ib) := fun w' hb => by
    obtain ⟨rc, ra, h2⟩ := h1.on hb
    exact h2.cell 0
  have x1 : ∀ w', Below w1.heap.size w1 w' → w'.cell? ⟨w.heap.size, 0, none⟩ = some (.string qn) := fun w' hb => (h1.on hb).boxCell 0 (by omega)
  have hsp : ((ch.length : Int) ≤ K ∧ Hid (s' = s)) ∨ ∃ p : Nat, K = p ∧ p < ch.length ∧ ((ch[p]? = some none ∧ Hid (s' = s.err)) ∨ ∃ e, ch[p]? = some (some e) ∧ ((fitC st qa qb qc e.v0 e.v1 e.v2 = false ∧ Hid (s' = s.err)) ∨ (fitC st qa qb qc e.v0 e.v1 e.v2 = true ∧ Hid (s' = askEnd (chD ch) p bare (turnAll (chD ch) p feats (s.add ⟨0, p, ⟨#[]⟩⟩)))))) := by
    rw [hlen] at hR
    by_cases g1 : (ch.length : Int) ≤ K
    · rw [if_pos g1] at hR; exact Or.inl ⟨g1, hR.symm⟩
    · rw [if_neg g1] at hR
      by_cases g2 : K < 0
      · rw [if_pos g2] at hR; rw [← hR] at hbad; cases hbad
      · rw [if_neg g2] at hR
        obtain ⟨p, rfl⟩ : ∃ p : Nat, K = (p : Int) := ⟨K.toNat, by omega⟩
        have hp : p < ch.length := by omega
        rw [Int.toNat_natCast] at hR
        obtain ⟨x, hx⟩ : ∃ x, ch[p]? = some x := ⟨_, List.getElem?_eq_getElem hp⟩
        have hD : (chD ch)[p]? = some (x.map CEnt.abs) := by unfold chD; rw [List.getElem?_map, hx]; rfl
        rw [hD] at hR
        refine Or.inr ⟨p, rfl, hp, ?_⟩
        cases x with
        | none => exact Or.inl ⟨hx, hR.symm⟩
        | some e =>
          refine Or.inr ⟨e, hx, ?_⟩
          simp only [Option.map_some, CEnt.abs] at hR
          cases hf : fitC st qa qb qc e.v0 e.v1 e.v2 with
          | false => rw [if_neg (by rw [hf]; decide)] at hR; exact Or.inl ⟨rfl, hR.symm⟩
          | true => rw [if_pos hf] at hR; exact Or.inr ⟨rfl, hR.symm⟩
  have hlt1 : w.heap.size < w1.heap.size := by rw [← hw1]; simp
  have hlf := h1.lt
  have HO : Hid (∀ w, FoSt w0 (ptrTo ib) (chV cb cap ch) s (boxed 103 7 w.heap.size [.string qn, .int .i64 st, .int .i64 qa, .int .i64 qb, .int .i64 qc, .bool bare, fv] :: rs) w → True) := fun _ _ => trivial
  clear hR hq hC h h1 HO
  rcases hsp with ⟨hK1, HE⟩ | ⟨p, rfl, hp, hsp⟩
  · have HOP : Hid (∀ w2, Below w1.heap.size w1 w2 → Calls Tryz.prog 136 #[ptrTo (w0.heap.size + 1), .int .i64 K] w2 fun e w' => e = .returned (.bool true) ∧ w' = w2) := fun w2 hb => by
      have := fopen_any w0 _ cb cap ch s _ K w2 (H1.out.on hb)
      rw [decide_eq_true hK1] at this; exact this
    unfold ptrTo at *
    go_enter Tryz.func96, Tryz.ntmps96
    go_wp2
    clear hw1
    refine wp_region_below (by kernel_rfl) (by kernel_rfl) ?_
    repeat (
      refine wpQuiet_step (fun K hK => ?_)
      go_simp
      first
        | (refine hK _ ?_; clear hK K)
        | (refine ⟨_, fun w' hw' => rfl, hK _ ?_⟩; clear hK K)
        | (apply Exists.intro
           refine ⟨fun w' hw' => ?_, hK _ ?_⟩
           (exact calls_below hw' (HP.out w' hw'))
           clear hK K)
        | (apply Exists.intro
           refine ⟨fun w' hw' => ?_, hK _ ?_⟩
           (go_simp; rfl)
           clear hK K))
    refine wpQuiet_nil ?_
    intro w2 hb2
    have HB2 : Hid (Below w1.heap.size w1 w2) := hb2
    clear hb2 HP x0 x1
    go_wp2_with fail
    refine Calls.mono (HOP.out _ HB2.out) ?_
    rintro e w3 ⟨rfl, hw3⟩
    obtain rfl : w2 = w3 := hw3.symm
    clear HOP
    go_wp2
    exact bodyPost_ret (v := .tuple #[]) (by simp [results, Tryz.results96, go_sem]) rfl ⟨rfl, by rw [HE.out]; exact (H1.out.on HB2.out).unbox⟩
  · have HOP : Hid (∀ w2, Below w1.heap.size w1 w2 → Calls Tryz.prog 136 #[ptrTo (w0.heap.size + 1), .int .i64 p] w2 fun e w' => e = .returned (.bool false) ∧ w' = w2) := fun w2 hb => by
      have := fopen_any w0 _ cb cap ch s _ p w2 (H1.out.on hb)
      rw [decide_eq_false (by omega)] at this; exact this
    have k1 : (p : Int) < (ch.length : Int) := by omega
    rcases hsp with ⟨hx, HE⟩ | ⟨⟨eb, ev0, ev1, ev2, env, ens, efv, efs⟩, hx, hsp⟩
    · unfold ptrTo at *
      go_enter Tryz.func96, Tryz.ntmps96
      go_wp2
      clear hw1
      refine wp_region_below (by kernel_rfl) (by kernel_rfl) ?_
      repeat (
        refine wpQuiet_step (fun K hK => ?_)
        go_simp
        first
          | (refine hK _ ?_; clear hK K)
          | (refine ⟨_, fun w' hw' => rfl, hK _ ?_⟩; clear hK K)
          | (apply Exists.intro
             refine ⟨fun w' hw' => ?_, hK _ ?_⟩
             (exact calls_below hw' (HP.out w' hw'))
             clear hK K)
          | (apply Exists.intro
             refine ⟨fun w' hw' => ?_, hK _ ?_⟩
             (go_simp; rfl)
             clear hK K))
      refine wpQuiet_nil ?_
      intro w2 hb2
      have HB2 : Hid (Below w1.heap.size w1 w2) := hb2
      clear hb2 HP x0 x1
      go_wp2_with fail
      refine Calls.mono (HOP.out _ HB2.out) ?_
      rintro e w3 ⟨rfl, hw3⟩
      obtain rfl : w2 = w3 := hw3.symm
      have H2 : Hid (FoSt w0 (.pointer (some ⟨ib, 0, none⟩)) (chV cb cap ch) s rs w2) := (H1.out.on HB2.out).unbox
      obtain ⟨b, c1, hc4, hf4, hl4⟩ : ∃ b, w2.cell? ⟨w0.heap.size + 1, 1, none⟩ = some (.slice (some ⟨cb, 0, none⟩) ch.length cap) ∧ w2.cell? ⟨w0.heap.size + 1, 4, none⟩ = some (.bool b) ∧ w2.frozen? ⟨w0.heap.size + 1, 4, none⟩ = false ∧ w0.heap.size + 1 < w2.heap.size := by
        obtain ⟨rc, ra, h⟩ := H2.out
        exact ⟨s.wr, h.cell 1, h.cell 4, h.td.frz 4, h.td.lt⟩
      have cx : w2.cell? ⟨cb, p, none⟩ = some (.pointer none) := (HC.out.on H2.out.below).cells p _ hx
      have hcl := (HC.out.on H2.out.below).clt
      clear HOP H1 HC HQ
      go_wp2
      go_quiet (fail)
      go_wp2
      exact bodyPost_ret (v := .tuple #[]) (by simp [results, Tryz.results96, go_sem]) rfl ⟨rfl, by rw [HE.out]; exact (H2.out.on (below_drewN _ _)).err⟩
    · have HFT : Hid (∀ w2 w', Below w2.heap.size w2 w' → Calls Tryz.prog 28 #[.agg #[.int .i64 st, .int .i64 qa, .int .i64 qb, .int .i64 qc], .agg #[.int .i64 ev0, .int .i64 ev1, .int .i64 ev2]] w' fun e w3 => e = .returned (.bool (fitC st qa qb qc ev0 ev1 ev2)) ∧ Below w2.heap.size w2 w3) := fun w2 w' hb => calls_below hb (fits_any st qa qb qc ev0 ev1 ev2 hst w')
      have hEb : EntAt w0 ⟨eb, ev0, ev1, ev2, env, ens, efv, efs⟩ := HC.out.ents _ (List.mem_of_getElem? hx)
      have HEB : Hid (EntAt w0 ⟨eb, ev0, ev1, ev2, env, ens, efv, efs⟩) := hEb
      clear hEb
      simp only at hsp
      rcases hsp with ⟨hf, HE⟩ | ⟨hf, HE⟩
      · rw [hf] at HFT
        unfold ptrTo at *
        go_enter Tryz.func96, Tryz.ntmps96
        go_wp2
        clear hw1
        refine wp_region_below (by kernel_rfl) (by kernel_rfl) ?_
        repeat (
          refine wpQuiet_step (fun K hK => ?_)
          go_simp
          first
            | (refine hK _ ?_; clear hK K)
            | (refine ⟨_, fun w' hw' => rfl, hK _ ?_⟩; clear hK K)
            | (apply Exists.intro
               refine ⟨fun w' hw' => ?_, hK _ ?_⟩
               (exact calls_below hw' (HP.out w' hw'))
               clear hK K)
            | (apply Exists.intro
               refine ⟨fun w' hw' => ?_, hK _ ?_⟩
               (go_simp; rfl)
               clear hK K))
        refine wpQuiet_nil ?_
        intro w2 hb2
        have HB2 : Hid (Below w1.heap.size w1 w2) := hb2
        clear hb2 HP x0 x1
        go_wp2_with fail
        refine Calls.mono (HOP.out _ HB2.out) ?_
        rintro e w3 ⟨rfl, hw3⟩
        obtain rfl : w2 = w3 := hw3.symm
        have H2 : Hid (FoSt w0 (.pointer (some ⟨ib, 0, none⟩)) (chV cb cap ch) s (boxed 103 7 w.heap.size [.string qn, .int .i64 st, .int .i64 qa, .int .i64 qb, .int .i64 qc, .bool bare, fv] :: rs) w2) := H1.out.on HB2.out
        have c1 : w2.cell? ⟨w0.heap.size + 1, 1, none⟩ = some (.slice (some ⟨cb, 0, none⟩) ch.length cap) := (by
          obtain ⟨rc, ra, h⟩ := H2.out
          exact h.cell 1)
        have hl4 := H2.out.lt
        have cx : w2.cell? ⟨cb, p, none⟩ = some (.pointer (some ⟨eb, 0, none⟩)) := (HC.out.on H2.out.below).cells p _ hx
        have hcl := (HC.out.on H2.out.below).clt
        have hlt2 : w.heap.size < w2.heap.size := (boxed_lt H2.out.own).2
        clear HOP H1
        go_wp2
        have y1 : ∀ w', Below w2.heap.size w2 w' → w'.cell? ⟨w.heap.size, 1, none⟩ = some (.int .i64 st) := fun w' hb => (H2.out.on hb).boxCell 1 (by omega)
        have y2 : ∀ w', Below w2.heap.size w2 w' → w'.cell? ⟨w.heap.size, 2, none⟩ = some (.int .i64 qa) := fun w' hb => (H2.out.on hb).boxCell 2 (by omega)
        have y3 : ∀ w', Below w2.heap.size w2 w' → w'.cell? ⟨w.heap.size, 3, none⟩ = some (.int .i64 qb) := fun w' hb => (H2.out.on hb).boxCell 3 (by omega)
        have y4 : ∀ w', Below w2.heap.size w2 w' → w'.cell? ⟨w.heap.size, 4, none⟩ = some (.int .i64 qc) := fun w' hb => (H2.out.on hb).boxCell 4 (by omega)
        have z0 : ∀ w', Below w2.heap.size w2 w' → w'.cell? ⟨eb, 0, none⟩ = some (.int .i64 ev0) := fun w' hb => (HEB.out.on (H2.out.on hb).below).cells 0 (by omega)
        have z1 : ∀ w', Below w2.heap.size w2 w' → w'.cell? ⟨eb, 1, none⟩ = some (.int .i64 ev1) := fun w' hb => (HEB.out.on (H2.out.on hb).below).cells 1 (by omega)
        have z2 : ∀ w', Below w2.heap.size w2 w' → w'.cell? ⟨eb, 2, none⟩ = some (.int .i64 ev2) := fun w' hb => (HEB.out.on (H2.out.on hb).below).cells 2 (by omega)
        refine wp_region_below (by kernel_rfl) (by kernel_rfl) ?_
        repeat (
          refine wpQuiet_step (fun K hK => ?_)
          go_simp
          first
            | (refine hK _ ?_; clear hK K)
            | (refine ⟨_, fun w' hw' => rfl, hK _ ?_⟩; clear hK K)
            | (apply Exists.intro
               refine ⟨fun w' hw' => ?_, hK _ ?_⟩
               (exact HFT.out _ w' hw')
               clear hK K)
            | (apply Exists.intro
               refine ⟨fun w' hw' => ?_, hK _ ?_⟩
               (go_simp; rfl)
               clear hK K))
        refine wpQuiet_nil ?_
        intro w3 hb3
        have H3 : Hid (FoSt w0 (.pointer (some ⟨ib, 0, none⟩)) (chV cb cap ch) s (boxed 103 7 w.heap.size [.string qn, .int .i64 st, .int .i64 qa, .int .i64 qb, .int .i64 qc, .bool bare, fv] :: rs) w3) := H2.out.on hb3
        clear hb3 y1 y2 y3 y4 z0 z1 z2 H2 c1 cx hcl HFT
        obtain ⟨b, hc4, hf4, hl5⟩ : ∃ b, w3.cell? ⟨w0.heap.size + 1, 4, none⟩ = some (.bool b) ∧ w3.frozen? ⟨w0.heap.size + 1, 4, none⟩ = false ∧ w0.heap.size + 1 < w3.heap.size := by
          obtain ⟨rc, ra, h⟩ := H3.out
          exact ⟨s.wr, h.cell 4, h.td.frz 4, h.td.lt⟩
        go_wp2
        exact bodyPost_ret (v := .tuple #[]) (by simp [results, Tryz.results96, go_sem]) rfl ⟨rfl, by rw [HE.out]; exact H3.out.unbox.err⟩
      · rw [hf] at HFT
        have hT : turnAll (chD ch) p feats (s.add ⟨0, p, ⟨#[]⟩⟩) = turnAll (chD ch) p (feats.drop 0) (turnAll (chD ch) p (feats.take 0) (s.add ⟨0, p, ⟨#[]⟩⟩)) := by simp [turnAll]
        have hb2' : (turnAll (chD ch) p feats (s.add ⟨0, p, ⟨#[]⟩⟩)).bad = false := askEnd_bad _ _ _ _ (by rw [← HE.out]; exact hbad)
        have HBT : Hid (∀ k (h : k < feats.length), (turnOnP (chD ch) (turnAll (chD ch) p (feats.take k) (s.add ⟨0, p, ⟨#[]⟩⟩)) p feats[k]).bad = false) := fun k hk => by
          have e : feats = feats.take k ++ (feats[k] :: feats.drop (k + 1)) := by rw [← List.drop_eq_getElem_cons hk, List.take_append_drop]
          rw [e, turnAll_append] at hb2'
          exact turnAll_bad _ _ _ _ hb2'
        have HST : Hid (∀ k (h : k < feats.length), turnAll (chD ch) p (feats.take (k + 1)) (s.add ⟨0, p, ⟨#[]⟩⟩) = turnOnP (chD ch) (turnAll (chD ch) p (feats.take k) (s.add ⟨0, p, ⟨#[]⟩⟩)) p feats[k]) := fun k hk => by
          show _ = _
          rw [List.take_succ_eq_append_getElem hk, turnAll_append]; rfl
        have HAD : Hid (∀ w rs, FoSt w0 (ptrTo ib) (chV cb cap ch) s rs w → Calls Tryz.prog 137 #[ptrTo (w0.heap.size + 1), (⟨0, p, ⟨#[]⟩⟩ : Fact).val] w fun e w' => e = .returned (.tuple #[]) ∧ FoSt w0 (ptrTo ib) (chV cb cap ch) (turnAll (chD ch) p (feats.take 0) (s.add ⟨0, p, ⟨#[]⟩⟩)) rs w') := fun w rs h => fadd_any w0 _ _ s rs _ w h (turnAll_bad _ _ _ _ hb2')
        have HTN : Hid (∀ k (h : k < feats.length) w rs, FoSt w0 (ptrTo ib) (chV cb cap ch) (turnAll (chD ch) p (feats.take k) (s.add ⟨0, p, ⟨#[]⟩⟩)) rs w → Calls Tryz.prog 138 #[ptrTo (w0.heap.size + 1), .int .i64 p, .string feats[k]] w fun e w' => e = .returned (.tuple #[]) ∧ FoSt w0 (ptrTo ib) (chV cb cap ch) (turnAll (chD ch) p (feats.take (k + 1)) (s.add ⟨0, p, ⟨#[]⟩⟩)) rs w') := fun k hk w rs h => by
          rw [HST.out k hk]
          exact fturn_any w0 _ ib pv packs cb cap ch _ rs p _ w h HC.out (HBT.out k hk)
        have HLAST : Hid (turnAll (chD ch) p (feats.take feats.length) (s.add ⟨0, p, ⟨#[]⟩⟩) = turnAll (chD ch) p feats (s.add ⟨0, p, ⟨#[]⟩⟩)) := by show _ = _; rw [List.take_length]
        have HHS : Hid (∀ w rs, FoSt w0 (ptrTo ib) (chV cb cap ch) (turnAll (chD ch) p feats (s.add ⟨0, p, ⟨#[]⟩⟩)) rs w → Calls Tryz.prog 139 #[ptrTo (w0.heap.size + 1), .int .i64 p, .string defB] w fun e w' => e = .returned (.bool (hasD (chD ch) p defB)) ∧ Below w.heap.size w w') := fun w rs h => fhas_any w0 _ ib pv packs cb cap ch _ rs p defB w h HC.out hp
        have HTL : Hid (bare = false → hasD (chD ch) p defB = true → ∀ w rs, FoSt w0 (ptrTo ib) (chV cb cap ch) (turnAll (chD ch) p feats (s.add ⟨0, p, ⟨#[]⟩⟩)) rs w → Calls Tryz.prog 138 #[ptrTo (w0.heap.size + 1), .int .i64 p, .string defB] w fun e w' => e = .returned (.tuple #[]) ∧ FoSt w0 (ptrTo ib) (chV cb cap ch) s' rs w') := fun hb hd w rs h => by
          have e : s' = turnOnP (chD ch) (turnAll (chD ch) p feats (s.add ⟨0, p, ⟨#[]⟩⟩)) p defB := by rw [HE.out]; unfold askEnd; rw [if_pos ⟨hb, hd⟩]
          rw [e]
          exact fturn_any w0 _ ib pv packs cb cap ch _ rs p _ w h HC.out (by rw [← e]; exact hbad)
        have HNO : Hid (¬ (bare = false ∧ hasD (chD ch) p defB = true) → s' = turnAll (chD ch) p feats (s.add ⟨0, p, ⟨#[]⟩⟩)) := fun hn => by rw [HE.out]; unfold askEnd; rw [if_neg hn]
        clear HE HST HBT hb2' hT
        generalize hSS : (fun k : Nat => turnAll (chD ch) p (feats.take k) (s.add ⟨0, p, ⟨#[]⟩⟩)) = SS at *
        generalize hFT : turnAll (chD ch) p feats (s.add ⟨0, p, ⟨#[]⟩⟩) = ST at *
        have e0 : ∀ k, turnAll (chD ch) p (feats.take k) (s.add ⟨0, p, ⟨#[]⟩⟩) = SS k := fun k => by rw [← hSS]
        simp only [e0] at *
        clear e0 hSS hFT
        generalize hasD (chD ch) p defB = DD at *
        unfold ptrTo defB Fact.val at *
        go_enter Tryz.func96, Tryz.ntmps96
        go_wp2
        clear hw1
        refine wp_region_below (by kernel_rfl) (by kernel_rfl) ?_
        repeat (
          refine wpQuiet_step (fun K hK => ?_)
          go_simp
          first
            | (refine hK _ ?_; clear hK K)
            | (refine ⟨_, fun w' hw' => rfl, hK _ ?_⟩; clear hK K)
            | (apply Exists.intro
               refine ⟨fun w' hw' => ?_, hK _ ?_⟩
               (exact calls_below hw' (HP.out w' hw'))
               clear hK K)
            | (apply Exists.intro
               refine ⟨fun w' hw' => ?_, hK _ ?_⟩
               (go_simp; rfl)
               clear hK K))
        refine wpQuiet_nil ?_
        intro w2 hb2
        have HB2 : Hid (Below w1.heap.size w1 w2) := hb2
        clear hb2 HP x0 x1
        go_wp2_with fail
        refine Calls.mono (HOP.out _ HB2.out) ?_
        rintro e w3 ⟨rfl, hw3⟩
        obtain rfl : w2 = w3 := hw3.symm
        have H2 : Hid (FoSt w0 (.pointer (some ⟨ib, 0, none⟩)) (chV cb cap ch) s (boxed 103 7 w.heap.size [.string qn, .int .i64 st, .int .i64 qa, .int .i64 qb, .int .i64 qc, .bool bare, fv] :: rs) w2) := H1.out.on HB2.out
        have c1 : w2.cell? ⟨w0.heap.size + 1, 1, none⟩ = some (.slice (some ⟨cb, 0, none⟩) ch.length cap) := (by
          obtain ⟨rc, ra, h⟩ := H2.out
          exact h.cell 1)
        have hl4 := H2.out.lt
        have cx : w2.cell? ⟨cb, p, none⟩ = some (.pointer (some ⟨eb, 0, none⟩)) := (HC.out.on H2.out.below).cells p _ hx
        have hcl := (HC.out.on H2.out.below).clt
        have hlt2 : w.heap.size < w2.heap.size := (boxed_lt H2.out.own).2
        clear HOP H1
        go_wp2
        have y1 : ∀ w', Below w2.heap.size w2 w' → w'.cell? ⟨w.heap.size, 1, none⟩ = some (.int .i64 st) := fun w' hb => (H2.out.on hb).boxCell 1 (by omega)
        have y2 : ∀ w', Below w2.heap.size w2 w' → w'.cell? ⟨w.heap.size, 2, none⟩ = some (.int .i64 qa) := fun w' hb => (H2.out.on hb).boxCell 2 (by omega)
        have y3 : ∀ w', Below w2.heap.size w2 w' → w'.cell? ⟨w.heap.size, 3, none⟩ = some (.int .i64 qb) := fun w' hb => (H2.out.on hb).boxCell 3 (by omega)
        have y4 : ∀ w', Below w2.heap.size w2 w' → w'.cell? ⟨w.heap.size, 4, none⟩ = some (.int .i64 qc) := fun w' hb => (H2.out.on hb).boxCell 4 (by omega)
        have z0 : ∀ w', Below w2.heap.size w2 w' → w'.cell? ⟨eb, 0, none⟩ = some (.int .i64 ev0) := fun w' hb => (HEB.out.on (H2.out.on hb).below).cells 0 (by omega)
        have z1 : ∀ w', Below w2.heap.size w2 w' → w'.cell? ⟨eb, 1, none⟩ = some (.int .i64 ev1) := fun w' hb => (HEB.out.on (H2.out.on hb).below).cells 1 (by omega)
        have z2 : ∀ w', Below w2.heap.size w2 w' → w'.cell? ⟨eb, 2, none⟩ = some (.int .i64 ev2) := fun w' hb => (HEB.out.on (H2.out.on hb).below).cells 2 (by omega)
        refine wp_region_below (by kernel_rfl) (by kernel_rfl) ?_
        repeat (
          refine wpQuiet_step (fun K hK => ?_)
          go_simp
          first
            | (refine hK _ ?_; clear hK K)
            | (refine ⟨_, fun w' hw' => rfl, hK _ ?_⟩; clear hK K)
            | (apply Exists.intro
               refine ⟨fun w' hw' => ?_, hK _ ?_⟩
               (exact HFT.out _ w' hw')
               clear hK K)
            | (apply Exists.intro
               refine ⟨fun w' hw' => ?_, hK _ ?_⟩
               (go_simp; rfl)
               clear hK K))
        refine wpQuiet_nil ?_
        intro w3 hb3
        have H3 : Hid (FoSt w0 (.pointer (some ⟨ib, 0, none⟩)) (chV cb cap ch) s (boxed 103 7 w.heap.size [.string qn, .int .i64 st, .int .i64 qa, .int .i64 qb, .int .i64 qc, .bool bare, fv] :: rs) w3) := H2.out.on hb3
        clear hb3 y1 y2 y3 y4 z0 z1 z2 H2 c1 cx hcl HFT
        go_wp2_with fail
        refine Calls.mono (HAD.out _ _ H3.out) ?_
        rintro e w4 ⟨rfl, h4⟩
        have H4 : Hid (FoSt w0 (.pointer (some ⟨ib, 0, none⟩)) (chV cb cap ch) (SS 0) (boxed 103 7 w.heap.size [.string qn, .int .i64 st, .int .i64 qa, .int .i64 qb, .int .i64 qc, .bool bare, fv] :: rs) w4) := h4
        have b6 : w4.cell? ⟨w.heap.size, 6, none⟩ = some fv := h4.boxCell 6 (by omega)
        have hl6 : w.heap.size < w4.heap.size := (boxed_lt h4.own).2
        clear h4 HAD H3
        obtain ⟨fa, fc, hfv⟩ : ∃ fa fc, fv = .slice fa feats.length fc := by
          rcases HQ.out.2 with ⟨e1, e2⟩ | ⟨g, cap, e1, _⟩
          · exact ⟨none, 0, by rw [e1, e2]⟩
          · exact ⟨_, _, e1⟩
        subst hfv
        go_wp2
        go_loopw [47] (fun i wr => ∃ k : Nat, k ≤ feats.length ∧ i = .int .i64 k ∧ FoSt w0 (.pointer (some ⟨ib, 0, none⟩)) (chV cb cap ch) (SS k) (boxed 103 7 w.heap.size [.string qn, .int .i64 st, .int .i64 qa, .int .i64 qb, .int .i64 qc, .bool bare, .slice fa feats.length fc] :: rs) wr) (fun i _ => feats.length - (intOf i).toNat)
        case atStart => exact ⟨0, by omega, rfl, H4.out⟩
        case round =>
          obtain ⟨k, hk, rfl, hfo⟩ := hrel
          have HF : Hid (FoSt w0 (.pointer (some ⟨ib, 0, none⟩)) (chV cb cap ch) (SS k) (boxed 103 7 w.heap.size [.string qn, .int .i64 st, .int .i64 qa, .int .i64 qb, .int .i64 qc, .bool bare, .slice fa feats.length fc] :: rs) wr) := hfo
          clear hfo
          by_cases hlt : k < feats.length
          · obtain ⟨g, rfl, hck, hgl⟩ : ∃ g, fa = some ⟨g, 0, none⟩ ∧ wr.cell? ⟨g, k, none⟩ = some (.string feats[k]) ∧ g < wr.heap.size := by
              rcases (HQ.out.on HF.out.below).2 with ⟨e1, e2⟩ | ⟨g, cap, e1, hg, hcs⟩
              · omega
              · refine ⟨g, by simpa using congrArg (fun v => match v with | Value.slice a _ _ => a | _ => none) e1, ?_, hg⟩
                rw [hcs k (by omega)]; simp [hlt]
            have HT := HTN.out k hlt _ _ HF.out
            have HT' : Hid _ := HT
            clear HT
            generalize feats[k] = nm at *
            go_wp2_with fail
            refine Calls.mono HT'.out ?_
            rintro e w5 ⟨rfl, h5⟩
            have H5 : Hid (FoSt w0 (.pointer (some ⟨ib, 0, none⟩)) (chV cb cap ch) (SS (k + 1)) (boxed 103 7 w.heap.size [.string qn, .int .i64 st, .int .i64 qa, .int .i64 qb, .int .i64 qc, .bool bare, .slice (some ⟨g, 0, none⟩) feats.length fc] :: rs) w5) := h5
            clear h5 HT' HF hck
            go_wp2
            go_roundw
            case rel => exact ⟨k + 1, by omega, by go_num, H5.out⟩
            case measure => simp [intOf]; omega
          · have e : k = feats.length := by omega
            subst e
            have HF' : Hid (FoSt w0 (.pointer (some ⟨ib, 0, none⟩)) (chV cb cap ch) ST (boxed 103 7 w.heap.size [.string qn, .int .i64 st, .int .i64 qa, .int .i64 qb, .int .i64 qc, .bool bare, .slice fa feats.length fc] :: rs) wr) := by
              show FoSt _ _ _ _ _ _; rw [← HLAST.out]; exact HF.out
            have b5 : wr.cell? ⟨w.heap.size, 5, none⟩ = some (.bool bare) := HF'.out.boxCell 5 (by omega)
            have hl7 : w.heap.size < wr.heap.size := (boxed_lt HF'.out.own).2
            clear HF HTN HLAST
            cases bare with
            | true =>
              go_wp2
              go_end0
              exact ⟨rfl, by rw [HNO.out (by simp)]; exact HF'.out.unbox⟩
            | false =>
              go_wp2_with fail
              refine Calls.mono (HHS.out _ _ HF'.out) ?_
              rintro e w6 ⟨rfl, hb6⟩
              have H6 : Hid (FoSt w0 (.pointer (some ⟨ib, 0, none⟩)) (chV cb cap ch) ST (boxed 103 7 w.heap.size [.string qn, .int .i64 st, .int .i64 qa, .int .i64 qb, .int .i64 qc, .bool false, .slice fa feats.length fc] :: rs) w6) := HF'.out.on hb6
              clear hb6 HF' b5 HHS
              cases DD with
              | false =>
                go_wp2
                go_end0
                exact ⟨rfl, by rw [HNO.out (by simp)]; exact H6.out.unbox⟩
              | true =>
                go_wp2_with fail
                refine Calls.mono (HTL.out (by simp) (by simp) _ _ H6.out) ?_
                rintro e w7 ⟨rfl, h7⟩
                have H7 : Hid (FoSt w0 (.pointer (some ⟨ib, 0, none⟩)) (chV cb cap ch) s' (boxed 103 7 w.heap.size [.string qn, .int .i64 st, .int .i64 qa, .int .i64 qb, .int .i64 qc, .bool false, .slice fa feats.length fc] :: rs) w7) := h7
                clear h7 HTL H6
                go_wp2
                go_end0
                exact ⟨rfl, H7.out.unbox⟩

end Go.Proofs.YtnmclolbndohiaaGreatDoor

/-
  The walks of 'takeItem', 'takeItems', 'meetAll', 'turnOnAgain', as far as the document's first example goes (of the items 'dep:' alone).
-/
namespace Go.Proofs.YtnmclolbndohiaaGreatDoor
open Go.RowKit
open Go.Maps
open Ver

theorem foldBad {α : Type} (step : FSt → α → FSt) (hm : ∀ s a, (step s a).bad = false → s.bad = false) : ∀ (l : List α) (s : FSt), (l.foldl step s).bad = false → s.bad = false
  | [], _, h => h
  | a :: r, s, h => hm _ _ (foldBad step hm r (step s a) h)
theorem fold_take {α : Type} (step : FSt → α → FSt) (hm : ∀ s a, (step s a).bad = false → s.bad = false) (l : List α) (s : FSt) (h : (l.foldl step s).bad = false) (k : Nat) (hk : k < l.length) :
    (step ((l.take k).foldl step s) l[k]).bad = false ∧ (l.take (k + 1)).foldl step s = step ((l.take k).foldl step s) l[k] := by
  refine ⟨?_, ?_⟩
  · have e : l = l.take k ++ (l[k] :: l.drop (k + 1)) := by rw [← List.drop_eq_getElem_cons hk, List.take_append_drop]
    rw [e, List.foldl_append] at h
    exact foldBad step hm _ _ h
  · rw [List.take_succ_eq_append_getElem hk, List.foldl_append]; rfl
theorem RowR.atX {α : Type} (cells : α → List Value) (sz : Nat) (hlen : ∀ a, (cells a).length = sz) {w : World} {v : Value} {l : List α} (h : RowR w v l.length sz (l.flatMap cells)) {i : Nat} {x : α} (hx : l[i]? = some x) :
    ∃ g cap, v = .slice (some ⟨g, 0, none⟩) l.length cap ∧ g < w.heap.size ∧ ∀ q, q < sz → w.cell? ⟨g, i * sz + q, none⟩ = (cells x)[q]? := by
  obtain ⟨hi, _⟩ := List.getElem?_eq_some_iff.1 hx
  rcases h.2 with ⟨_, e⟩ | ⟨g, cap, e, hg, hc⟩
  · omega
  · refine ⟨g, cap, e, hg, fun q hq => ?_⟩
    have h2 : i * sz + q < l.length * sz := by
      have : (i + 1) * sz ≤ l.length * sz := Nat.mul_le_mul_right _ (by omega)
      have e2 : (i + 1) * sz = i * sz + sz := Nat.succ_mul i sz
      omega
    rw [hc _ h2]
    have := flat_at cells sz hlen l i q x hx hq
    rw [Nat.mul_comm] at this; exact this
theorem RowR.len {w : World} {v : Value} {n sz : Nat} {xs : List Value} (h : RowR w v n sz xs) : ∃ a c, v = .slice a n c := by
  rcases h.2 with ⟨e, e2⟩ | ⟨g, cap, e, _⟩
  · exact ⟨none, 0, by rw [e, e2]⟩
  · exact ⟨_, _, e⟩

def takeP (place : Int) (s : FSt) (y : CItem) : FSt := if y.kind = 1 then s.add ⟨1, place, y.pack⟩ else s.mark
theorem takeP_bad (place : Int) (s : FSt) (y : CItem) (h : (takeP place s y).bad = false) : s.bad = false := by
  unfold takeP at h
  split at h
  · exact FSt.add_bad _ _ h
  · cases h
def takeAll (place : Int) (l : List CItem) (s : FSt) : FSt := l.foldl (takeP place) s
def meetP (place : Int) (s : FSt) (n : DAsk × Bool) : FSt := if n.2 = true then s else s.add ⟨1, place, n.1.name⟩
theorem meetP_bad (place : Int) (s : FSt) (n : DAsk × Bool) (h : (meetP place s n).bad = false) : s.bad = false := by
  unfold meetP at h
  split at h
  · exact h
  · exact FSt.add_bad _ _ h
def againP (place : Int) (s : FSt) (f : ByteArray × List CItem) : FSt :=
  if (⟨2, place, f.1⟩ : Fact).okB = false then s.mark else if s.knows ⟨2, place, f.1⟩ = true then takeAll place f.2 s else s
theorem takeAll_bad (place : Int) (l : List CItem) (s : FSt) (h : (takeAll place l s).bad = false) : s.bad = false := foldBad _ (takeP_bad place) l s h
theorem againP_bad (place : Int) (s : FSt) (f : ByteArray × List CItem) (h : (againP place s f).bad = false) : s.bad = false := by
  unfold againP at h
  split at h
  · cases h
  · split at h
    · exact takeAll_bad _ _ _ h
    · exact h

set_option maxHeartbeats 1600000 in
set_option maxRecDepth 100000 in
theorem ftake_any (w0 : World) (xp cv : Value) (s : FSt) (rs : List Hold) (place : Int) (y : CItem) (w : World) (h : FoSt w0 xp cv s rs w) (hbad : (takeP place s y).bad = false) :
    Calls Tryz.prog 170 #[ptrTo (w0.heap.size + 1), .int .i64 place, .agg #[.int .i64 y.kind, .string y.pack, .string y.feat]] w fun e w' => e = .returned (.tuple #[]) ∧ FoSt w0 xp cv (takeP place s y) rs w' := by
  obtain ⟨kd, pk, ft⟩ := y
  simp only at *
  have hk : kd = 1 := by
    by_cases e : kd = 1
    · exact e
    · unfold takeP at hbad; rw [if_neg e] at hbad; cases hbad
  subst hk
  have HE : Hid (takeP place s ⟨1, pk, ft⟩ = s.add ⟨1, place, pk⟩) := by show _ = _; unfold takeP; rw [if_pos rfl]
  have h1 := h.box 303 #[.int .i64 1, .string pk, .string ft] 3 rfl
  have h2 := h1.box 216 #[.int .i64 1, .int .i64 place, .string pk] 3 rfl
  have HA : Hid (Calls Tryz.prog 137 #[ptrTo (w0.heap.size + 1), (⟨1, place, pk⟩ : Fact).val] _ fun e w' => e = .returned (.tuple #[]) ∧ FoSt w0 xp cv (s.add ⟨1, place, pk⟩) rs w') := (fadd_any w0 xp cv s _ ⟨1, place, pk⟩ _ h2 (by rw [← HE.out]; exact hbad)).mono (fun e w' h => ⟨h.1, h.2.unbox.unbox⟩)
  have hl := h.lt
  rw [← HE.out] at HA
  generalize takeP place s ⟨1, pk, ft⟩ = s' at *
  clear h h1 h2 hbad HE
  unfold ptrTo Fact.val at *
  go_enter Tryz.func170, Tryz.ntmps170
  go_wp2_with fail
  refine Calls.mono HA.out ?_
  rintro e w1 ⟨rfl, h1⟩
  have H1 : Hid (FoSt w0 xp cv s' rs w1) := h1
  clear h1 HA
  go_wp2
  go_end0
  exact ⟨rfl, H1.out⟩

set_option maxHeartbeats 1600000 in
set_option maxRecDepth 100000 in
theorem ftakes_any (w0 : World) (xp cv : Value) (s : FSt) (rs : List Hold) (place : Int) (iv : Value) (l : List CItem) (w : World) (h : FoSt w0 xp cv s rs w) (hr : RowR w0 iv l.length 3 (l.flatMap CItem.cells)) (hl : l.length ≤ 1000) (hbad : (takeAll place l s).bad = false) :
    Calls Tryz.prog 144 #[ptrTo (w0.heap.size + 1), .int .i64 place, iv] w fun e w' => e = .returned (.tuple #[]) ∧ FoSt w0 xp cv (takeAll place l s) rs w' := by
  have HT : Hid (∀ k (hk : k < l.length) w rs, FoSt w0 xp cv (takeAll place (l.take k) s) rs w → Calls Tryz.prog 170 #[ptrTo (w0.heap.size + 1), .int .i64 place, .agg #[.int .i64 l[k].kind, .string l[k].pack, .string l[k].feat]] w fun e w' => e = .returned (.tuple #[]) ∧ FoSt w0 xp cv (takeAll place (l.take (k + 1)) s) rs w') := fun k hk w rs h => by
    have ht := fold_take (takeP place) (takeP_bad place) l s hbad k hk
    have e : takeAll place (l.take (k + 1)) s = takeP place (takeAll place (l.take k) s) l[k] := ht.2
    rw [e]
    exact ftake_any w0 xp cv _ rs place l[k] w h ht.1
  have HR : Hid (RowR w0 iv l.length 3 (l.flatMap CItem.cells)) := hr
  have H : Hid (FoSt w0 xp cv (takeAll place (l.take 0) s) rs w) := h
  have HL : Hid (takeAll place (l.take l.length) s = takeAll place l s) := by show _ = _; rw [List.take_length]
  obtain ⟨ia, ic, rfl⟩ := hr.len
  generalize hSS : (fun k : Nat => takeAll place (l.take k) s) = SS at *
  have e0 : ∀ k, takeAll place (l.take k) s = SS k := fun k => by rw [← hSS]
  generalize takeAll place l s = s' at *
  simp only [e0] at *
  clear e0 hSS h hr hbad
  unfold ptrTo at *
  go_enter Tryz.func144, Tryz.ntmps144
  go_wp2
  go_loopw [10] (fun i wr => ∃ k : Nat, k ≤ l.length ∧ i = .int .i64 k ∧ FoSt w0 xp cv (SS k) rs wr) (fun i _ => l.length - (intOf i).toNat)
  case atStart => exact ⟨0, by omega, rfl, H.out⟩
  case round =>
    obtain ⟨k, hk, rfl, hfo⟩ := hrel
    have HF : Hid (FoSt w0 xp cv (SS k) rs wr) := hfo
    clear hfo
    by_cases hlt : k < l.length
    · obtain ⟨g, cap, e1, hgl, hc⟩ := RowR.atX CItem.cells 3 CItem.len (HR.out.on HF.out.below) (List.getElem?_eq_getElem hlt)
      obtain ⟨rfl, rfl⟩ : ia = some ⟨g, 0, none⟩ ∧ ic = cap := by simpa using e1
      have d0 : wr.cell? ⟨g, k * 3, none⟩ = some (.int .i64 l[k].kind) := hc 0 (by omega)
      have d1 : wr.cell? ⟨g, k * 3 + 1, none⟩ = some (.string l[k].pack) := hc 1 (by omega)
      have d2 : wr.cell? ⟨g, k * 3 + 2, none⟩ = some (.string l[k].feat) := hc 2 (by omega)
      have HT' : Hid (Calls Tryz.prog 170 #[.pointer (some ⟨w0.heap.size + 1, 0, none⟩), .int .i64 place, .agg #[.int .i64 l[k].kind, .string l[k].pack, .string l[k].feat]] (wr.alloc (.cells #[.int .i64 l[k].kind, .string l[k].pack, .string l[k].feat] 303)) fun e w' => e = .returned (.tuple #[]) ∧ FoSt w0 xp cv (SS (k + 1)) rs w') := (HT.out k hlt _ _ (HF.out.box 303 #[.int .i64 l[k].kind, .string l[k].pack, .string l[k].feat] 3 rfl)).mono (fun e w' h => ⟨h.1, h.2.unbox⟩)
      clear hc e1 HF
      generalize l[k] = y at *
      go_wp2_with fail
      refine Calls.mono HT'.out ?_
      rintro e w5 ⟨rfl, h5⟩
      have H5 : Hid (FoSt w0 xp cv (SS (k + 1)) rs w5) := h5
      clear h5 HT' d0 d1 d2
      go_wp2
      go_roundw
      case rel => exact ⟨k + 1, by omega, by go_num, H5.out⟩
      case measure => simp [intOf]; omega
    · have e : k = l.length := by omega
      subst e
      go_wp2
      go_end0
      exact ⟨rfl, by rw [← HL.out]; exact HF.out⟩

set_option maxHeartbeats 1600000 in
set_option maxRecDepth 100000 in
theorem fmeet_any (w0 : World) (xp cv : Value) (s : FSt) (rs : List Hold) (place : Int) (en : CEnt) (w : World) (h : FoSt w0 xp cv s rs w) (hE : EntAt w0 en) (hbad : ((en.abs).needs.foldl (meetP place) s).bad = false) :
    Calls Tryz.prog 140 #[ptrTo (w0.heap.size + 1), .int .i64 place, ptrTo en.b] w fun e w' => e = .returned (.tuple #[]) ∧ FoSt w0 xp cv ((en.abs).needs.foldl (meetP place) s) rs w' := by
  obtain ⟨eb, v0, v1, v2, nv, needs, fv, feats⟩ := en
  have hL : (CEnt.abs ⟨eb, v0, v1, v2, nv, needs, fv, feats⟩).needs = needs.map fun n => (n.ask, n.opt) := rfl
  rw [hL] at hbad ⊢
  have HS : Hid (∀ k (hk : k < needs.length), ((needs.map fun n => (n.ask, n.opt)).take (k + 1)).foldl (meetP place) s = meetP place (((needs.map fun n => (n.ask, n.opt)).take k).foldl (meetP place) s) (needs[k].ask, needs[k].opt) ∧ (meetP place (((needs.map fun n => (n.ask, n.opt)).take k).foldl (meetP place) s) (needs[k].ask, needs[k].opt)).bad = false) := fun k hk => by
    have ht := fold_take (meetP place) (meetP_bad place) _ s hbad k (by simpa using hk)
    simp only [List.getElem_map] at ht
    exact ⟨ht.2, ht.1⟩
  have HEN : Hid (EntAt w0 ⟨eb, v0, v1, v2, nv, needs, fv, feats⟩) := hE
  have H : Hid (FoSt w0 xp cv (((needs.map fun n => (n.ask, n.opt)).take 0).foldl (meetP place) s) rs w) := h
  have HL : Hid (((needs.map fun n => (n.ask, n.opt)).take needs.length).foldl (meetP place) s = (needs.map fun n => (n.ask, n.opt)).foldl (meetP place) s) := by
    show _ = _
    rw [List.take_of_length_le (by simp)]
  obtain ⟨ia, ic, hnv⟩ := hE.needs.len
  simp only at hnv
  subst hnv
  have c3 : w.cell? ⟨eb, 3, none⟩ = some (.slice ia needs.length ic) := (hE.on h.below).cells 3 (by omega)
  have hel : eb < w.heap.size := (hE.on h.below).lt
  have hnl : needs.length ≤ 1000 := hE.many.1
  generalize hSS : (fun k : Nat => ((needs.map fun n => (n.ask, n.opt)).take k).foldl (meetP place) s) = SS at *
  have e0 : ∀ k, ((needs.map fun n => (n.ask, n.opt)).take k).foldl (meetP place) s = SS k := fun k => by rw [← hSS]
  generalize (needs.map fun n => (n.ask, n.opt)).foldl (meetP place) s = s' at *
  simp only [e0] at *
  clear e0 hSS h hE hbad hL
  unfold ptrTo at *
  go_enter Tryz.func140, Tryz.ntmps140
  go_wp2
  go_loopw [13] (fun i wr => ∃ k : Nat, k ≤ needs.length ∧ i = .int .i64 k ∧ FoSt w0 xp cv (SS k) rs wr) (fun i _ => needs.length - (intOf i).toNat)
  case atStart => exact ⟨0, by omega, rfl, H.out⟩
  case round =>
    obtain ⟨k, hk, rfl, hfo⟩ := hrel
    have HF : Hid (FoSt w0 xp cv (SS k) rs wr) := hfo
    clear hfo
    by_cases hlt : k < needs.length
    · have hst := HS.out k hlt
      obtain ⟨g, cap, e1, hgl, hc⟩ := RowR.atX CNeed.cells 8 CNeed.len (HEN.out.on HF.out.below).needs (List.getElem?_eq_getElem hlt)
      obtain ⟨rfl, rfl⟩ : ia = some ⟨g, 0, none⟩ ∧ ic = cap := by simpa using e1
      obtain ⟨fa, fc, hfv⟩ := (HEN.out.nf needs[k] (List.getElem_mem _)).len
      generalize needs[k].feats.length = fn at *
      generalize needs[k] = y at *
      obtain ⟨ynm, yst, ya, yb, yc, ybare, yfv, yfs, yopt⟩ := y
      simp only at hfv
      subst hfv
      have d0 : wr.cell? ⟨g, k * 8, none⟩ = some (.string ynm) := hc 0 (by omega)
      have d1 : wr.cell? ⟨g, k * 8 + 1, none⟩ = some (.int .i64 yst) := hc 1 (by omega)
      have d2 : wr.cell? ⟨g, k * 8 + 2, none⟩ = some (.int .i64 ya) := hc 2 (by omega)
      have d3 : wr.cell? ⟨g, k * 8 + 3, none⟩ = some (.int .i64 yb) := hc 3 (by omega)
      have d4 : wr.cell? ⟨g, k * 8 + 4, none⟩ = some (.int .i64 yc) := hc 4 (by omega)
      have d5 : wr.cell? ⟨g, k * 8 + 5, none⟩ = some (.bool ybare) := hc 5 (by omega)
      have d6 : wr.cell? ⟨g, k * 8 + 6, none⟩ = some (.slice fa fn fc) := hc 6 (by omega)
      have d7 : wr.cell? ⟨g, k * 8 + 7, none⟩ = some (.bool yopt) := hc 7 (by omega)
      simp only [CNeed.ask] at hst
      have hbx := HF.out.box 264 #[.string ynm, .int .i64 yst, .int .i64 ya, .int .i64 yb, .int .i64 yc, .bool ybare, .slice fa fn fc, .bool yopt] 8 rfl
      clear hc e1
      cases yopt with
      | true =>
        have HX : Hid (FoSt w0 xp cv (SS (k + 1)) rs (wr.alloc (.cells #[.string ynm, .int .i64 yst, .int .i64 ya, .int .i64 yb, .int .i64 yc, .bool ybare, .slice fa fn fc, .bool true] 264))) := by
          show FoSt _ _ _ _ _ _
          rw [hst.1]; unfold meetP; rw [if_pos rfl]; exact hbx.unbox
        clear hst HF hbx
        go_wp2
        go_roundw
        case rel => exact ⟨k + 1, by omega, by go_num, HX.out⟩
        case measure => simp [intOf]; omega
      | false =>
        have HA : Hid (Calls Tryz.prog 137 #[.pointer (some ⟨w0.heap.size + 1, 0, none⟩), .agg #[.int .i64 1, .int .i64 place, .string ynm]] (wr.alloc (.cells #[.string ynm, .int .i64 yst, .int .i64 ya, .int .i64 yb, .int .i64 yc, .bool ybare, .slice fa fn fc, .bool false] 264)) fun e w' => e = .returned (.tuple #[]) ∧ FoSt w0 xp cv (SS (k + 1)) rs w') := by
          have e : SS (k + 1) = (SS k).add ⟨1, place, ynm⟩ := by rw [hst.1]; unfold meetP; rw [if_neg Bool.false_ne_true]
          have hb : ((SS k).add ⟨1, place, ynm⟩).bad = false := by have := hst.2; unfold meetP at this; rw [if_neg Bool.false_ne_true] at this; exact this
          show Calls _ _ _ _ _
          rw [e]
          exact (fadd_any w0 xp cv _ _ ⟨1, place, ynm⟩ _ hbx hb).mono (fun e w' h => ⟨h.1, h.2.unbox⟩)
        clear hst HF hbx
        go_wp2_with fail
        refine Calls.mono HA.out ?_
        rintro e w5 ⟨rfl, h5⟩
        have H5 : Hid (FoSt w0 xp cv (SS (k + 1)) rs w5) := h5
        clear h5 HA d0 d1 d2 d3 d4 d5 d6 d7
        go_wp2
        go_roundw
        case rel => exact ⟨k + 1, by omega, by go_num, H5.out⟩
        case measure => simp [intOf]; omega
    · have e : k = needs.length := by omega
      subst e
      go_wp2
      go_end0
      exact ⟨rfl, by rw [← HL.out]; exact HF.out⟩

set_option maxHeartbeats 1600000 in
set_option maxRecDepth 100000 in
theorem fagain_any (w0 : World) (xp cv : Value) (s : FSt) (rs : List Hold) (place : Int) (en : CEnt) (w : World) (h : FoSt w0 xp cv s rs w) (hE : EntAt w0 en) (hbad : ((en.abs).feats.foldl (againP place) s).bad = false) :
    Calls Tryz.prog 142 #[ptrTo (w0.heap.size + 1), .int .i64 place, ptrTo en.b] w fun e w' => e = .returned (.tuple #[]) ∧ FoSt w0 xp cv ((en.abs).feats.foldl (againP place) s) rs w' := by
  obtain ⟨eb, v0, v1, v2, nv, needs, fv, feats⟩ := en
  have hL : (CEnt.abs ⟨eb, v0, v1, v2, nv, needs, fv, feats⟩).feats = feats.map fun f => (f.name, f.items) := rfl
  rw [hL] at hbad ⊢
  have HS : Hid (∀ k (hk : k < feats.length), ((feats.map fun f => (f.name, f.items)).take (k + 1)).foldl (againP place) s = againP place (((feats.map fun f => (f.name, f.items)).take k).foldl (againP place) s) (feats[k].name, feats[k].items) ∧ (againP place (((feats.map fun f => (f.name, f.items)).take k).foldl (againP place) s) (feats[k].name, feats[k].items)).bad = false) := fun k hk => by
    have ht := fold_take (againP place) (againP_bad place) _ s hbad k (by simpa using hk)
    simp only [List.getElem_map] at ht
    exact ⟨ht.2, ht.1⟩
  have HEN : Hid (EntAt w0 ⟨eb, v0, v1, v2, nv, needs, fv, feats⟩) := hE
  have H : Hid (FoSt w0 xp cv (((feats.map fun f => (f.name, f.items)).take 0).foldl (againP place) s) rs w) := h
  have HL : Hid (((feats.map fun f => (f.name, f.items)).take feats.length).foldl (againP place) s = (feats.map fun f => (f.name, f.items)).foldl (againP place) s) := by
    show _ = _
    rw [List.take_of_length_le (by simp)]
  obtain ⟨ia, ic, hnv⟩ := hE.feats.len
  simp only at hnv
  subst hnv
  have c3 : w.cell? ⟨eb, 4, none⟩ = some (.slice ia feats.length ic) := (hE.on h.below).cells 4 (by omega)
  have hel : eb < w.heap.size := (hE.on h.below).lt
  have hnl : feats.length ≤ 1000 := hE.many.2
  generalize hSS : (fun k : Nat => ((feats.map fun f => (f.name, f.items)).take k).foldl (againP place) s) = SS at *
  have e0 : ∀ k, ((feats.map fun f => (f.name, f.items)).take k).foldl (againP place) s = SS k := fun k => by rw [← hSS]
  generalize (feats.map fun f => (f.name, f.items)).foldl (againP place) s = s' at *
  simp only [e0] at *
  clear e0 hSS h hE hbad hL
  unfold ptrTo at *
  go_enter Tryz.func142, Tryz.ntmps142
  go_wp2
  go_loopw [13] (fun i wr => ∃ k : Nat, k ≤ feats.length ∧ i = .int .i64 k ∧ FoSt w0 xp cv (SS k) rs wr) (fun i _ => feats.length - (intOf i).toNat)
  case atStart => exact ⟨0, by omega, rfl, H.out⟩
  case round =>
    obtain ⟨k, hk, rfl, hfo⟩ := hrel
    have HF : Hid (FoSt w0 xp cv (SS k) rs wr) := hfo
    clear hfo
    by_cases hlt : k < feats.length
    · have hst := HS.out k hlt
      obtain ⟨g, cap, e1, hgl, hc⟩ := RowR.atX CFeat.cells 2 CFeat.len (HEN.out.on HF.out.below).feats (List.getElem?_eq_getElem hlt)
      obtain ⟨rfl, rfl⟩ : ia = some ⟨g, 0, none⟩ ∧ ic = cap := by simpa using e1
      have HFI : Hid (RowR w0 feats[k].iv feats[k].items.length 3 (feats[k].items.flatMap CItem.cells) ∧ feats[k].items.length ≤ 1000) := ⟨HEN.out.fi feats[k] (List.getElem_mem _), HEN.out.many2.2 feats[k] (List.getElem_mem _)⟩
      obtain ⟨fa, fc, hfv⟩ := HFI.out.1.len
      generalize feats[k] = y at *
      obtain ⟨ynm, yiv, yits⟩ := y
      simp only at hfv HFI hst
      generalize yits.length = fn at hfv
      subst hfv
      have d0 : wr.cell? ⟨g, k * 2, none⟩ = some (.string ynm) := hc 0 (by omega)
      have d1 : wr.cell? ⟨g, k * 2 + 1, none⟩ = some (.slice fa fn fc) := hc 1 (by omega)
      have hbx := HF.out.box 222 #[.string ynm, .slice fa fn fc] 2 rfl
      have hok : (⟨2, place, ynm⟩ : Fact).okB = true := by
        cases e : (⟨2, place, ynm⟩ : Fact).okB with
        | true => rfl
        | false => have := hst.2; unfold againP at this; rw [if_pos e] at this; cases this
      have HK : Hid (Calls Tryz.prog 100 #[.pointer (some ⟨w0.heap.size + 1, 0, none⟩), .agg #[.int .i64 2, .int .i64 place, .string ynm]] (wr.alloc (.cells #[.string ynm, .slice fa fn fc] 222)) fun e w' => e = .returned (.bool ((SS k).knows ⟨2, place, ynm⟩)) ∧ FoSt w0 xp cv (SS k) (boxed 222 2 wr.heap.size [.string ynm, .slice fa fn fc] :: rs) w') := (fknows_any w0 xp cv _ _ ⟨2, place, ynm⟩ _ hbx hok).mono (fun e w' h => ⟨h.1, hbx.on h.2⟩)
      clear hc e1
      cases hkn : (SS k).knows ⟨2, place, ynm⟩ with
      | false =>
        have HX : Hid (SS (k + 1) = SS k) := by
          show _ = _
          rw [hst.1]; unfold againP; rw [if_neg (by rw [hok]; decide), if_neg (by rw [hkn]; decide)]
        rw [hkn] at HK
        clear hst HF hbx hkn hok
        go_wp2_with fail
        refine Calls.mono HK.out ?_
        rintro e w5 ⟨rfl, h5⟩
        have H5 : Hid (FoSt w0 xp cv (SS (k + 1)) rs w5) := by show FoSt _ _ _ _ _ _; rw [HX.out]; exact h5.unbox
        clear h5 HK d0 d1
        go_wp2
        go_roundw
        case rel => exact ⟨k + 1, by omega, by go_num, H5.out⟩
        case measure => simp [intOf]; omega
      | true =>
        have e : SS (k + 1) = takeAll place yits (SS k) := by rw [hst.1]; unfold againP; rw [if_neg (by rw [hok]; decide), if_pos hkn]
        have hb : (takeAll place yits (SS k)).bad = false := by rw [← e, hst.1]; exact hst.2
        have HTA : Hid (∀ w rs, FoSt w0 xp cv (SS k) rs w → Calls Tryz.prog 144 #[.pointer (some ⟨w0.heap.size + 1, 0, none⟩), .int .i64 place, .slice fa fn fc] w fun e w' => e = .returned (.tuple #[]) ∧ FoSt w0 xp cv (SS (k + 1)) rs w') := fun w rs h => by
          rw [e]
          exact ftakes_any w0 xp cv (SS k) rs place _ yits w h HFI.out.1 HFI.out.2 hb
        rw [hkn] at HK
        clear hst HF hbx hkn hok e hb
        go_wp2_with fail
        refine Calls.mono HK.out ?_
        rintro e w5 ⟨rfl, h5⟩
        have H5 : Hid (FoSt w0 xp cv (SS k) (boxed 222 2 wr.heap.size [.string ynm, .slice fa fn fc] :: rs) w5) := h5
        have b1 : w5.cell? ⟨wr.heap.size, 1, none⟩ = some (.slice fa fn fc) := h5.boxCell 1 (by omega)
        have hl5 : wr.heap.size < w5.heap.size := (boxed_lt h5.own).2
        clear h5 HK d0 d1
        go_wp2_with fail
        refine Calls.mono (HTA.out _ _ H5.out) ?_
        rintro e w6 ⟨rfl, h6⟩
        have H6 : Hid (FoSt w0 xp cv (SS (k + 1)) rs w6) := h6.unbox
        clear h6 HTA b1 hl5 H5
        go_wp2
        go_roundw
        case rel => exact ⟨k + 1, by omega, by go_num, H6.out⟩
        case measure => simp [intOf]; omega
    · have e : k = feats.length := by omega
      subst e
      go_wp2
      go_end0
      exact ⟨rfl, by rw [← HL.out]; exact HF.out⟩

end Go.Proofs.YtnmclolbndohiaaGreatDoor

/-
  The walk of 'follow'.
-/
namespace Go.Proofs.YtnmclolbndohiaaGreatDoor
open Go.RowKit
open Go.Maps
open Ver

def followP (names : List (List UInt8)) (ch : List (Option DEnt)) (s : FSt) (f : Fact) : FSt :=
  if f.place < 0 then s.mark
  else match ch[f.place.toNat]? with
    | some (some e) =>
      if f.kind = 0 then e.needs.foldl (meetP f.place) s
      else if f.kind = 1 then
        if idxL (e.needs.map fun n => n.1.name.data.toList) f.name.data.toList < 0 then s.mark
        else match e.needs[(idxL (e.needs.map fun n => n.1.name.data.toList) f.name.data.toList).toNat]? with
          | some n => e.feats.foldl (againP f.place) (askF names ch s n.1)
          | none => s.mark
      else if f.kind = 2 then
        if idxL (e.feats.map fun n => n.1.data.toList) f.name.data.toList < 0 then s.mark
        else match e.feats[(idxL (e.feats.map fun n => n.1.data.toList) f.name.data.toList).toNat]? with
          | some n => takeAll f.place n.2 s
          | none => s.mark
      else s.mark
    | _ => s.mark
theorem followP_bad (names : List (List UInt8)) (ch : List (Option DEnt)) (s : FSt) (f : Fact) (h : (followP names ch s f).bad = false) : s.bad = false := by
  unfold followP at h
  split at h
  · cases h
  · split at h
    · split at h
      · exact foldBad _ (meetP_bad _) _ _ h
      · split at h
        · split at h
          · cases h
          · split at h
            · exact askF_bad _ _ _ _ (foldBad _ (againP_bad _) _ _ h)
            · cases h
        · split at h
          · split at h
            · cases h
            · split at h
              · exact takeAll_bad _ _ _ h
              · cases h
          · cases h
    · cases h
def CNeed.cask (n : CNeed) : CAsk := ⟨n.name, n.st, n.a, n.b, n.c, n.bare, n.fv, n.feats⟩

set_option maxHeartbeats 3200000 in
set_option maxRecDepth 100000 in
theorem ffollow_any (w0 : World) (ib : Nat) (pv : Value) (packs : List CPack) (cb cap : Nat) (ch : List (Option CEnt)) (s : FSt) (rs : List Hold) (f : Fact) (w : World) (h : FoSt w0 (ptrTo ib) (chV cb cap ch) s rs w) (hC : ChAt w0 ib pv packs cb ch)
    (hbad : (followP (packs.map fun p => p.name.data.toList) (chD ch) s f).bad = false) :
    Calls Tryz.prog 98 #[ptrTo (w0.heap.size + 1), f.val] w fun e w' => e = .returned (.tuple #[]) ∧ FoSt w0 (ptrTo ib) (chV cb cap ch) (followP (packs.map fun p => p.name.data.toList) (chD ch) s f) rs w' := by
  obtain ⟨kd, pl, nm⟩ := f
  generalize hR : followP (packs.map fun p => p.name.data.toList) (chD ch) s ⟨kd, pl, nm⟩ = s' at *
  unfold followP at hR
  simp only at hR
  by_cases g0 : pl < 0
  · rw [if_pos g0] at hR; rw [← hR] at hbad; cases hbad
  rw [if_neg g0] at hR
  obtain ⟨p, rfl⟩ : ∃ p : Nat, pl = (p : Int) := ⟨pl.toNat, by omega⟩
  rw [Int.toNat_natCast] at hR
  obtain ⟨en, hx⟩ : ∃ en, ch[p]? = some (some en) := by
    cases hc : ch[p]? with
    | none =>
      have : (chD ch)[p]? = none := by unfold chD; rw [List.getElem?_map, hc]; rfl
      rw [this] at hR; rw [← hR] at hbad; cases hbad
    | some x =>
      cases x with
      | none =>
        have : (chD ch)[p]? = some none := by unfold chD; rw [List.getElem?_map, hc]; rfl
        rw [this] at hR; rw [← hR] at hbad; cases hbad
      | some en => exact ⟨en, rfl⟩
  have hD : (chD ch)[p]? = some (some en.abs) := by unfold chD; rw [List.getElem?_map, hx]; rfl
  rw [hD] at hR
  simp only at hR
  have hp : p < ch.length := (List.getElem?_eq_some_iff.1 hx).1
  have k1 : (p : Int) < (ch.length : Int) := by omega
  have hch : ch.length ≤ 1000 := hC.few
  have hE := hC.ents en (List.mem_of_getElem? hx)
  have HEN : Hid (EntAt w0 en) := hE
  have h1 := h.box 216 #[.int .i64 kd, .int .i64 p, .string nm] 3 rfl
  generalize hw1 : w.alloc (.cells #[.int .i64 kd, .int .i64 p, .string nm] 216) = w1 at *
  have H1 : Hid (FoSt w0 (ptrTo ib) (chV cb cap ch) s (boxed 216 3 w.heap.size [.int .i64 kd, .int .i64 p, .string nm] :: rs) w1) := h1
  have c1 : w1.cell? ⟨w0.heap.size + 1, 1, none⟩ = some (.slice (some ⟨cb, 0, none⟩) ch.length cap) := by
    obtain ⟨rc, ra, h⟩ := h1
    exact h.cell 1
  have hlf := h1.lt
  have cx : w1.cell? ⟨cb, p, none⟩ = some (ptrTo en.b) := (hC.on h1.below).cells p _ hx
  have hcl := (hC.on h1.below).clt
  have b0 : w1.cell? ⟨w.heap.size, 0, none⟩ = some (.int .i64 kd) := h1.boxCell 0 (by omega)
  have b1 : w1.cell? ⟨w.heap.size, 1, none⟩ = some (.int .i64 p) := h1.boxCell 1 (by omega)
  have b2 : w1.cell? ⟨w.heap.size, 2, none⟩ = some (.string nm) := h1.boxCell 2 (by omega)
  have hlb : w.heap.size < w1.heap.size := (boxed_lt h1.own).2
  have HC : Hid (ChAt w0 ib pv packs cb ch) := hC
  clear h h1 hD hx hC
  by_cases e0 : kd = 0
  · subst e0
    rw [if_pos rfl] at hR
    have HM : Hid (∀ w rs, FoSt w0 (ptrTo ib) (chV cb cap ch) s rs w → Calls Tryz.prog 140 #[ptrTo (w0.heap.size + 1), .int .i64 p, ptrTo en.b] w fun e w' => e = .returned (.tuple #[]) ∧ FoSt w0 (ptrTo ib) (chV cb cap ch) s' rs w') := fun w rs h => by
      rw [← hR]; exact fmeet_any w0 _ _ s rs p en w h HEN.out (by rw [hR]; exact hbad)
    clear hR hbad hE
    unfold Fact.val ptrTo at *
    go_enter Tryz.func98, Tryz.ntmps98
    go_wp2
    clear hw1
    go_quiet (fail)
    have H2 : Hid (FoSt w0 (.pointer (some ⟨ib, 0, none⟩)) (chV cb cap ch) s (boxed 216 3 w.heap.size [.int .i64 0, .int .i64 p, .string nm] :: rs) (w1.drewN nq)) := H1.out.on (below_drewN _ _)
    go_wp2_with fail
    refine Calls.mono (HM.out _ _ H2.out) ?_
    rintro e w2 ⟨rfl, h2⟩
    have H3 : Hid (FoSt w0 (.pointer (some ⟨ib, 0, none⟩)) (chV cb cap ch) s' rs w2) := h2.unbox
    clear h2 HM H2 H1
    go_wp2
    go_end0
    exact ⟨rfl, H3.out⟩
  rw [if_neg e0] at hR
  by_cases e1 : kd = 1
  · subst e1
    rw [if_pos rfl] at hR
    have eN : ((en.abs).needs.map fun n => n.1.name.data.toList) = en.needs.map fun n => n.name.data.toList := by simp [CEnt.abs, CNeed.ask, Function.comp_def]
    rw [eN] at hR
    have HNM : Hid (∀ w', Below w1.heap.size w1 w' → Calls Tryz.prog 141 #[ptrTo en.b, .string nm] w' fun e w2 => (∃ n : CNeed, e = .returned (.tuple #[n.val, .bool (decide (0 ≤ idxL (en.needs.map fun p => p.name.data.toList) nm.data.toList))]) ∧ (0 ≤ idxL (en.needs.map fun p => p.name.data.toList) nm.data.toList → en.needs[(idxL (en.needs.map fun p => p.name.data.toList) nm.data.toList).toNat]? = some n) ∧ ∃ a k c, n.fv = .slice a k c) ∧ Below w'.heap.size w' w2) := fun w' hb => by
      have hE' := HEN.out.on ((H1.out.on hb).below)
      exact needM_any en.b en.nv en.needs nm w' (by have := hE'.many.1; omega) hE'.lt (hE'.cells 3 (by omega)) hE'.needs (fun n hn => (hE'.nf n hn).slice)
    generalize idxL (en.needs.map fun p => p.name.data.toList) nm.data.toList = I at *
    by_cases gI : I < 0
    · rw [if_pos gI] at hR; rw [← hR] at hbad; cases hbad
    rw [if_neg gI] at hR
    have gI' : 0 ≤ I := by omega
    cases hn : en.needs[I.toNat]? with
    | none =>
      have : (en.abs).needs[I.toNat]? = none := by simp [CEnt.abs, hn]
      rw [this] at hR; rw [← hR] at hbad; cases hbad
    | some n =>
      have : (en.abs).needs[I.toNat]? = some (n.ask, n.opt) := by simp [CEnt.abs, hn]
      rw [this] at hR
      simp only at hR
      have hnm := List.mem_of_getElem? hn
      have HAS : Hid (∀ w rs, FoSt w0 (ptrTo ib) (chV cb cap ch) s rs w → Calls Tryz.prog 96 #[ptrTo (w0.heap.size + 1), n.cask.val] w fun e w' => e = .returned (.tuple #[]) ∧ FoSt w0 (ptrTo ib) (chV cb cap ch) (askF (packs.map fun p => p.name.data.toList) (chD ch) s n.ask) rs w') := fun w rs h => fask_any w0 ib pv packs cb cap ch s rs n.cask w h HC.out (HEN.out.nf n hnm) (HEN.out.many2.1 n hnm) (HEN.out.dem n hnm) (foldBad _ (againP_bad _) _ _ (by rw [← hR] at hbad; exact hbad))
      have HAG : Hid (∀ w rs, FoSt w0 (ptrTo ib) (chV cb cap ch) (askF (packs.map fun p => p.name.data.toList) (chD ch) s n.ask) rs w → Calls Tryz.prog 142 #[ptrTo (w0.heap.size + 1), .int .i64 p, ptrTo en.b] w fun e w' => e = .returned (.tuple #[]) ∧ FoSt w0 (ptrTo ib) (chV cb cap ch) s' rs w') := fun w rs h => by
        rw [← hR]; exact fagain_any w0 _ _ _ rs p en w h HEN.out (by rw [hR]; exact hbad)
      generalize askF (packs.map fun p => p.name.data.toList) (chD ch) s n.ask = sm at *
      obtain ⟨fa, fc, hfv⟩ := (HEN.out.nf n hnm).len
      generalize n.feats.length = fn at hfv
      have HN : Hid (en.needs[I.toNat]? = some n) := hn
      obtain ⟨ynm, yst, ya, yb, yc, ybare, yfv, yfs, yopt⟩ := n
      simp only at hfv
      subst hfv
      clear hR hbad hE hnm hn this eN e0
      simp only [CNeed.cask, CAsk.val] at HAS
      unfold Fact.val ptrTo at *
      go_enter Tryz.func98, Tryz.ntmps98
      go_wp2
      clear hw1
      go_quiet (fail)
      have HQ : Hid (Below w1.heap.size w1 (w1.drewN nq)) := below_drewN _ _
      go_wp2_with fail
      refine Calls.mono (HNM.out _ HQ.out) ?_
      rintro e w2 ⟨⟨n', rfl, hn', _⟩, hb2⟩
      have hn2 := hn' gI'
      rw [HN.out] at hn2
      obtain rfl := (Option.some.inj hn2).symm
      have h2 := (H1.out.on HQ.out).on hb2
      have b1' : w2.cell? ⟨w.heap.size, 1, none⟩ = some (.int .i64 p) := h2.boxCell 1 (by omega)
      have hlb2 : w.heap.size < w2.heap.size := (boxed_lt h2.own).2
      have h3 := h2.box 264 #[.string ynm, .int .i64 yst, .int .i64 ya, .int .i64 yb, .int .i64 yc, .bool ybare, .slice fa fn fc, .bool yopt] 8 rfl
      have HAS' : Hid _ := HAS.out _ _ h3
      clear hn2 hn' hb2 HNM h2 h3 HAS H1 b0 b1 b2 c1 cx hcl
      simp only [CNeed.val]
      go_wp2_with fail
      refine Calls.mono HAS'.out ?_
      rintro e w3 ⟨rfl, h3⟩
      have h4 := h3.unbox
      have H4 : Hid (FoSt w0 (.pointer (some ⟨ib, 0, none⟩)) (chV cb cap ch) sm (boxed 216 3 w.heap.size [.int .i64 1, .int .i64 p, .string nm] :: rs) w3) := h4
      have b1'' : w3.cell? ⟨w.heap.size, 1, none⟩ = some (.int .i64 p) := h4.boxCell 1 (by omega)
      have hlb3 : w.heap.size < w3.heap.size := (boxed_lt h4.own).2
      clear h3 h4 HAS' b1' hlb2
      go_wp2_with fail
      refine Calls.mono (HAG.out _ _ H4.out) ?_
      rintro e w4 ⟨rfl, h5⟩
      have H5 : Hid (FoSt w0 (.pointer (some ⟨ib, 0, none⟩)) (chV cb cap ch) s' rs w4) := h5.unbox
      clear h5 HAG H4
      go_wp2
      go_end0
      exact ⟨rfl, H5.out⟩
  rw [if_neg e1] at hR
  by_cases e2 : kd = 2
  · subst e2
    rw [if_pos rfl] at hR
    have eN : ((en.abs).feats.map fun n => n.1.data.toList) = en.feats.map fun n => n.name.data.toList := by simp [CEnt.abs, Function.comp_def]
    rw [eN] at hR
    have HNM : Hid (∀ w', Below w1.heap.size w1 w' → Calls Tryz.prog 143 #[ptrTo en.b, .string nm] w' fun e w2 => (∃ n : CFeat, e = .returned (.tuple #[n.val, .bool (decide (0 ≤ idxL (en.feats.map fun p => p.name.data.toList) nm.data.toList))]) ∧ (0 ≤ idxL (en.feats.map fun p => p.name.data.toList) nm.data.toList → en.feats[(idxL (en.feats.map fun p => p.name.data.toList) nm.data.toList).toNat]? = some n) ∧ ∃ a k c, n.iv = .slice a k c) ∧ Below w'.heap.size w' w2) := fun w' hb => by
      have hE' := HEN.out.on ((H1.out.on hb).below)
      exact featM_any en.b en.fv en.feats nm w' (by have := hE'.many.2; omega) hE'.lt (hE'.cells 4 (by omega)) hE'.feats (fun n hn => (hE'.fi n hn).slice)
    generalize idxL (en.feats.map fun p => p.name.data.toList) nm.data.toList = I at *
    by_cases gI : I < 0
    · rw [if_pos gI] at hR; rw [← hR] at hbad; cases hbad
    rw [if_neg gI] at hR
    have gI' : 0 ≤ I := by omega
    cases hn : en.feats[I.toNat]? with
    | none =>
      have : (en.abs).feats[I.toNat]? = none := by simp [CEnt.abs, hn]
      rw [this] at hR; rw [← hR] at hbad; cases hbad
    | some n =>
      have : (en.abs).feats[I.toNat]? = some (n.name, n.items) := by simp [CEnt.abs, hn]
      rw [this] at hR
      simp only at hR
      have hnm := List.mem_of_getElem? hn
      have HAS : Hid (∀ w rs, FoSt w0 (ptrTo ib) (chV cb cap ch) s rs w → Calls Tryz.prog 144 #[ptrTo (w0.heap.size + 1), .int .i64 p, n.iv] w fun e w' => e = .returned (.tuple #[]) ∧ FoSt w0 (ptrTo ib) (chV cb cap ch) s' rs w') := fun w rs h => by
        rw [← hR]; exact ftakes_any w0 _ _ s rs p n.iv n.items w h (HEN.out.fi n hnm) (HEN.out.many2.2 n hnm) (by rw [hR]; exact hbad)
      obtain ⟨fa, fc, hfv⟩ := (HEN.out.fi n hnm).len
      generalize n.items.length = fn at hfv
      have HN : Hid (en.feats[I.toNat]? = some n) := hn
      obtain ⟨ynm, yfv, yfs⟩ := n
      simp only at hfv
      subst hfv
      clear hR hbad hE hnm hn this eN e0
      simp only at HAS
      unfold Fact.val ptrTo at *
      go_enter Tryz.func98, Tryz.ntmps98
      go_wp2
      clear hw1
      go_quiet (fail)
      have HQ : Hid (Below w1.heap.size w1 (w1.drewN nq)) := below_drewN _ _
      go_wp2_with fail
      refine Calls.mono (HNM.out _ HQ.out) ?_
      rintro e w2 ⟨⟨n', rfl, hn', _⟩, hb2⟩
      have hn2 := hn' gI'
      rw [HN.out] at hn2
      obtain rfl := (Option.some.inj hn2).symm
      have h2 := (H1.out.on HQ.out).on hb2
      have b1' : w2.cell? ⟨w.heap.size, 1, none⟩ = some (.int .i64 p) := h2.boxCell 1 (by omega)
      have hlb2 : w.heap.size < w2.heap.size := (boxed_lt h2.own).2
      have h3 := h2.box 222 #[.string ynm, .slice fa fn fc] 2 rfl
      have HAS' : Hid _ := HAS.out _ _ h3
      clear hn2 hn' hb2 HNM h2 h3 HAS H1 b0 b1 b2 c1 cx hcl
      simp only [CFeat.val]
      go_wp2_with fail
      refine Calls.mono HAS'.out ?_
      rintro e w3 ⟨rfl, h3⟩
      have H5 : Hid (FoSt w0 (.pointer (some ⟨ib, 0, none⟩)) (chV cb cap ch) s' rs w3) := h3.unbox.unbox
      clear h3 HAS'
      go_wp2
      go_end0
      exact ⟨rfl, H5.out⟩
  · rw [if_neg e2] at hR; rw [← hR] at hbad; cases hbad

end Go.Proofs.YtnmclolbndohiaaGreatDoor

/-
  The walk of 'gather'.
-/
namespace Go.Proofs.YtnmclolbndohiaaGreatDoor
open Go.RowKit
open Go.Maps
open Ver

def FSt.pop (s : FSt) (m : Nat) : FSt := { s with td := (popL s.td m).take m }
def runP (names : List (List UInt8)) (ch : List (Option DEnt)) : Nat → FSt → FSt
  | 0, s => s.mark
  | n + 1, s => if s.wr = true then s else match s.td.length with
    | 0 => s
    | m + 1 => match (popL s.td m)[m]? with
      | some f => runP names ch n (followP names ch (s.pop m) f)
      | none => s.mark
theorem runP_bad (names : List (List UInt8)) (ch : List (Option DEnt)) : ∀ (n : Nat) (s : FSt), (runP names ch n s).bad = false → s.bad = false
  | 0, s, h => by cases h
  | n + 1, s, h => by
    unfold runP at h
    split at h
    · exact h
    · split at h
      · exact h
      · split at h
        · exact (followP_bad _ _ _ _ (runP_bad names ch n _ h) : (s.pop _).bad = false)
        · cases h
def FSt.start : FSt := ⟨[], [], false, false⟩
def gatherP (names : List (List UInt8)) (ch : List (Option DEnt)) (fuel : Nat) (qs : List DAsk) : FSt := runP names ch fuel (qs.foldl (askF names ch) FSt.start)

theorem fpop_any (w0 : World) (xp cv : Value) (s : FSt) (rs : List Hold) (m : Nat) (w : World) (h : FoSt w0 xp cv s rs w) (hm : s.td.length = m + 1) :
    Calls Tryz.prog 99 #[.iface 218 (.pointer (some ⟨w0.heap.size + 1, 3, none⟩))] w fun e w' => ∃ f, (popL s.td m)[m]? = some f ∧ e = .returned (.iface 216 f.val) ∧ FoSt w0 xp cv (s.pop m) rs w' := by
  obtain ⟨rc, ra, h⟩ := h
  have ho : w.ownsRow (w0.heap.size + 1) 216 3 (.slice ra s.td.length rc) s.td.length (s.td.flatMap Fact.cells) := h.td.forest.own _ (List.mem_cons_self ..)
  obtain ⟨g, rfl, hcap⟩ : ∃ g, ra = some ⟨g, 0, none⟩ ∧ m + 1 ≤ rc := by
    rcases ho.2 with ⟨_, e⟩ | ⟨g, cap, cur, e, _, _, h1, _⟩
    · omega
    · obtain ⟨e1, e2⟩ : ra = some ⟨g, 0, none⟩ ∧ rc = cap := by simpa using e
      exact ⟨g, e1, by omega⟩
  have htd := h.td
  rw [hm] at htd
  have hat : TdAt (w0.heap.size + 1) (w0.heap.size + 1) 3 g (m + 1) rc s.td rs (foC xp cv w0.heap.size (.slice (some ⟨g, 0, none⟩) (m + 1) rc) s.wr) w :=
    ⟨htd.forest, htd.len, (htd.cells 3).trans htd.is, htd.lt, fun e => htd.ne (by rw [e]; rfl), htd.cells, htd.frz⟩
  refine (hpop_any _ _ 3 g m rc s.td rs _ w hat (by have := h.few; have := h.lim; omega) hcap (Nat.le_trans htd.ge (Nat.le_of_lt htd.lt)) htd.ge htd.out).mono ?_
  rintro e w' ⟨f, hf, rfl, hv, hb⟩
  refine ⟨f, hf, rfl, rc, some ⟨g, 0, none⟩, ?_, ownsMap_on h.kn hb (by omega), ?_, h.lim, h.below.trans (hb.mono (by omega))⟩
  · have hl := hv.len
    rw [foC_put3] at hv
    show TdV _ _ 3 ((popL s.td m).take m).length _ _ _ _ (foC _ _ _ (.slice _ ((popL s.td m).take m).length _) _) _
    rw [hl]; exact hv
  · show ((popL s.td m).take m).length ≤ s.kn.length
    have := hv.len; have := h.few; omega

structure RootsAt (w : World) (rv : Value) (ras : List CAsk) : Prop where
  row : RowR w rv ras.length 7 (ras.flatMap CAsk.cells)
  fr : ∀ q ∈ ras, RowR w q.fv q.feats.length 1 (q.feats.map Value.string)
  few : ras.length ≤ 1000
  few2 : ∀ q ∈ ras, q.feats.length ≤ 1000
  dem : ∀ q ∈ ras, q.st = 0 ∨ q.st = 1 ∨ q.st = 2 ∨ q.st = 3 ∨ q.st = 4
theorem RootsAt.on {w w' : World} {rv : Value} {ras : List CAsk} (h : RootsAt w rv ras) (hb : Below w.heap.size w w') : RootsAt w' rv ras := ⟨h.row.on hb, fun q hq => (h.fr q hq).on hb, h.few, h.few2, h.dem⟩

theorem FoSt.new (w0 : World) (xp cv : Value) : FoSt w0 xp cv FSt.start [] ((w0.alloc (.map #[] 0)).alloc (.cells #[xp, cv, .map (some w0.heap.size), .slice none 0 0, .bool false] 142)) := by
  refine ⟨0, none, ⟨⟨fun r hr => ?_, by simp [blocksOf, Value.ownBlock]⟩, rfl, rfl, by simp, Nat.le_refl _, by simp [Value.ownBlock], by simp [blocksOf], fun q => ?_, fun q => ?_⟩, (World.ownsMap_made w0 _ _ _).alloc _, Nat.le_refl _, by simp [FSt.start], ((Below.refl _ _).alloc (Nat.le_refl _) _).alloc (by simp) _⟩
  · have : r = ⟨216, 3, .slice none 0 0, 0, []⟩ := List.mem_singleton.1 hr
    rw [this]; exact World.ownsRow_nil _ _ _ _
  · rw [World.cell?_alloc_at _ _ _ _ (by simp)]
    unfold foC FSt.start
    match q with
    | 0 => rfl
    | 1 => rfl
    | 2 => rfl
    | 3 => rfl
    | 4 => rfl
    | q + 5 => simp
  · exact World.frozen?_alloc_at _ _ _ _ (by simp)

set_option maxHeartbeats 3200000 in
set_option maxRecDepth 100000 in
theorem fgather_any (w0 : World) (ib : Nat) (pv : Value) (packs : List CPack) (cb cap : Nat) (ch : List (Option CEnt)) (rv : Value) (ras : List CAsk) (fuel : Nat) (hC : ChAt w0 ib pv packs cb ch) (hR : RootsAt w0 rv ras)
    (hbad : (gatherP (packs.map fun p => p.name.data.toList) (chD ch) fuel (ras.map CAsk.ask)).bad = false) :
    Calls Tryz.prog 61 #[ptrTo ib, chV cb cap ch, rv] w0 fun e w' => e = .returned (ptrTo (w0.heap.size + 1)) ∧ FoSt w0 (ptrTo ib) (chV cb cap ch) (gatherP (packs.map fun p => p.name.data.toList) (chD ch) fuel (ras.map CAsk.ask)) [] w' := by
  unfold gatherP at *
  generalize hN : (packs.map fun p => p.name.data.toList) = names at *
  have hba : ((ras.map CAsk.ask).foldl (askF names (chD ch)) FSt.start).bad = false := runP_bad _ _ _ _ hbad
  have HAS : Hid (∀ k (hk : k < ras.length) w rs, FoSt w0 (ptrTo ib) (chV cb cap ch) (((ras.map CAsk.ask).take k).foldl (askF names (chD ch)) FSt.start) rs w → Calls Tryz.prog 96 #[ptrTo (w0.heap.size + 1), ras[k].val] w fun e w' => e = .returned (.tuple #[]) ∧ FoSt w0 (ptrTo ib) (chV cb cap ch) (((ras.map CAsk.ask).take (k + 1)).foldl (askF names (chD ch)) FSt.start) rs w') := fun k hk w rs h => by
    have ht := fold_take (askF names (chD ch)) (askF_bad names (chD ch)) _ FSt.start hba k (by simpa using hk)
    simp only [List.getElem_map] at ht
    rw [ht.2]
    have hm : ras[k] ∈ ras := List.getElem_mem _
    have := fask_any w0 ib pv packs cb cap ch _ rs ras[k] w h hC (hR.fr _ hm) (hR.few2 _ hm) (hR.dem _ hm) (by rw [hN]; exact ht.1)
    rw [hN] at this
    exact this
  have HFO : Hid (∀ s f w rs, (followP names (chD ch) s f).bad = false → FoSt w0 (ptrTo ib) (chV cb cap ch) s rs w → Calls Tryz.prog 98 #[ptrTo (w0.heap.size + 1), f.val] w fun e w' => e = .returned (.tuple #[]) ∧ FoSt w0 (ptrTo ib) (chV cb cap ch) (followP names (chD ch) s f) rs w') := fun s f w rs hb h => by
    have := ffollow_any w0 ib pv packs cb cap ch s rs f w h hC (by rw [hN]; exact hb)
    rw [hN] at this
    exact this
  have HL : Hid (((ras.map CAsk.ask).take ras.length).foldl (askF names (chD ch)) FSt.start = (ras.map CAsk.ask).foldl (askF names (chD ch)) FSt.start) := by
    show _ = _
    rw [List.take_of_length_le (by simp)]
  have H0 : Hid (FoSt w0 (ptrTo ib) (chV cb cap ch) (((ras.map CAsk.ask).take 0).foldl (askF names (chD ch)) FSt.start) [] ((w0.alloc (.map #[] 0)).alloc (.cells #[ptrTo ib, chV cb cap ch, .map (some w0.heap.size), .slice none 0 0, .bool false] 142))) := FoSt.new w0 _ _
  have HR : Hid (RootsAt w0 rv ras) := hR
  have hrl : ras.length ≤ 1000 := hR.few
  obtain ⟨ra, rc, rfl⟩ := hR.row.len
  have HB : Hid ((runP names (chD ch) fuel ((ras.map CAsk.ask).foldl (askF names (chD ch)) FSt.start)).bad = false) := hbad
  generalize hSS : (fun k : Nat => ((ras.map CAsk.ask).take k).foldl (askF names (chD ch)) FSt.start) = SS at *
  have e0 : ∀ k, ((ras.map CAsk.ask).take k).foldl (askF names (chD ch)) FSt.start = SS k := fun k => by rw [← hSS]
  generalize (ras.map CAsk.ask).foldl (askF names (chD ch)) FSt.start = sa at *
  simp only [e0] at *
  generalize hS' : runP names (chD ch) fuel sa = s' at *
  have HS' : Hid (runP names (chD ch) fuel sa = s') := hS'
  have hta : ∀ (f : Fact) (s : TypeId) (W : World), (Instr.typeAssert (.iface 216 (.agg #[.int .i64 f.kind, .int .i64 f.place, .string f.name])) s 216 false).run Tryz.prog W = .ok (.agg #[.int .i64 f.kind, .int .i64 f.place, .string f.name]) W := fun _ _ _ => by kernel_rfl
  clear e0 hSS hC hR hbad hba hS' hN
  have hrm := @run_makeMap Tryz.prog
  unfold chV ptrTo Fact.val at *
  go_enter Tryz.func61, Tryz.ntmps61
  go_wp2
  go_loopw [17] (fun i wr => ∃ k : Nat, k ≤ ras.length ∧ i = .int .i64 k ∧ FoSt w0 (.pointer (some ⟨ib, 0, none⟩)) (.slice (some ⟨cb, 0, none⟩) ch.length cap) (SS k) [] wr) (fun i _ => ras.length - (intOf i).toNat)
  case atStart => exact ⟨0, by omega, rfl, H0.out⟩
  case round =>
    obtain ⟨k, hk, rfl, hfo⟩ := hrel
    have HF : Hid (FoSt w0 (.pointer (some ⟨ib, 0, none⟩)) (.slice (some ⟨cb, 0, none⟩) ch.length cap) (SS k) [] wr) := hfo
    clear hfo
    by_cases hlt : k < ras.length
    · obtain ⟨g, rcap, e1, hgl, hc⟩ := RowR.atX CAsk.cells 7 CAsk.len (HR.out.on HF.out.below).row (List.getElem?_eq_getElem hlt)
      obtain ⟨rfl, rfl⟩ : ra = some ⟨g, 0, none⟩ ∧ rc = rcap := by simpa using e1
      obtain ⟨fa, fc, hfv⟩ := (HR.out.fr ras[k] (List.getElem_mem _)).len
      have HAS' := HAS.out k hlt
      generalize ras[k].feats.length = fn at *
      generalize ras[k] = y at *
      obtain ⟨ynm, yst, ya, yb, yc, ybare, yfv, yfs⟩ := y
      simp only at hfv
      subst hfv
      simp only [CAsk.val] at HAS'
      have d0 : wr.cell? ⟨g, k * 7, none⟩ = some (.string ynm) := hc 0 (by omega)
      have d1 : wr.cell? ⟨g, k * 7 + 1, none⟩ = some (.int .i64 yst) := hc 1 (by omega)
      have d2 : wr.cell? ⟨g, k * 7 + 2, none⟩ = some (.int .i64 ya) := hc 2 (by omega)
      have d3 : wr.cell? ⟨g, k * 7 + 3, none⟩ = some (.int .i64 yb) := hc 3 (by omega)
      have d4 : wr.cell? ⟨g, k * 7 + 4, none⟩ = some (.int .i64 yc) := hc 4 (by omega)
      have d5 : wr.cell? ⟨g, k * 7 + 5, none⟩ = some (.bool ybare) := hc 5 (by omega)
      have d6 : wr.cell? ⟨g, k * 7 + 6, none⟩ = some (.slice fa fn fc) := hc 6 (by omega)
      have HAS2 : Hid _ := HAS' _ _ (HF.out.box 103 #[.string ynm, .int .i64 yst, .int .i64 ya, .int .i64 yb, .int .i64 yc, .bool ybare, .slice fa fn fc] 7 rfl)
      clear hc e1 HF HAS'
      go_wp2_with fail
      refine Calls.mono HAS2.out ?_
      rintro e w5 ⟨rfl, h5⟩
      have H5 : Hid (FoSt w0 (.pointer (some ⟨ib, 0, none⟩)) (.slice (some ⟨cb, 0, none⟩) ch.length cap) (SS (k + 1)) [] w5) := h5.unbox
      clear h5 HAS2 d0 d1 d2 d3 d4 d5 d6
      go_wp2
      go_roundw
      case rel => exact ⟨k + 1, by omega, by go_num, H5.out⟩
      case measure => simp [intOf]; omega
    · have e : k = ras.length := by omega
      subst e
      have HF' : Hid (FoSt w0 (.pointer (some ⟨ib, 0, none⟩)) (.slice (some ⟨cb, 0, none⟩) ch.length cap) sa [] wr) := by show FoSt _ _ _ _ _ _; rw [← HL.out]; exact HF.out
      clear HF HL HAS HR
      go_wp2
      go_loopg [25] fuel (fun k _ wr => ∃ s, runP names (chD ch) k s = s' ∧ FoSt w0 (.pointer (some ⟨ib, 0, none⟩)) (.slice (some ⟨cb, 0, none⟩) ch.length cap) s [] wr)
      case atStart => exact ⟨sa, HS'.out, HF'.out⟩
      case round =>
        obtain ⟨s, hrun, hfo⟩ := hrel
        have HF : Hid (FoSt w0 (.pointer (some ⟨ib, 0, none⟩)) (.slice (some ⟨cb, 0, none⟩) ch.length cap) s [] wr) := hfo
        obtain ⟨tv, ta, tn, tc, c3, c4, htn, hlw⟩ : ∃ tv ta tn tc, wr.cell? ⟨w0.heap.size + 1, 3, none⟩ = some (.slice ta tn tc) ∧ wr.cell? ⟨w0.heap.size + 1, 4, none⟩ = some (.bool tv) ∧ (tn = s.td.length ∧ tv = s.wr) ∧ w0.heap.size + 1 < wr.heap.size := by
          obtain ⟨rc, ra, h⟩ := hfo
          exact ⟨s.wr, ra, _, rc, h.cell 3, h.cell 4, ⟨rfl, rfl⟩, h.td.lt⟩
        clear hfo HF' HS'
        cases hg : gk with
        | zero => subst hg; rw [← hrun] at HB; cases HB.out
        | succ n =>
          rw [hg] at hrun
          unfold runP at hrun
          cases hwr : s.wr with
          | true =>
            rw [if_pos hwr] at hrun
            rw [htn.2, hwr] at c4
            have HE : Hid (s = s') := hrun
            clear hrun htn hwr
            go_wp2
            go_ret
            exact ⟨rfl, by rw [← HE.out]; exact HF.out⟩
          | false =>
            rw [if_neg (by rw [hwr]; decide)] at hrun
            rw [htn.2, hwr] at c4
            have HLN : Hid (∀ (a : Option Addr) (n cap : Nat) (w : World), Calls Tryz.prog 97 #[.slice a n cap] w fun e w' => e = .returned (.int .i64 n) ∧ w' = w) := tlen_any
            cases hm : s.td.length with
            | zero =>
              rw [hm] at hrun
              have HE : Hid (s = s') := hrun
              obtain rfl : tn = 0 := by rw [htn.1, hm]
              clear hrun htn hwr hm
              go_wp2_with fail
              refine (HLN.out _ _ _ _).mono ?_
              rintro e wl ⟨rfl, hwl⟩
              obtain rfl : wr = wl := hwl.symm
              clear HLN
              go_wp2
              go_ret
              exact ⟨rfl, by rw [← HE.out]; exact HF.out⟩
            | succ m =>
              rw [hm] at hrun
              simp only at hrun
              obtain rfl : tn = m + 1 := by rw [htn.1, hm]
              have HRUN : Hid _ := hrun
              have HP : Hid _ := fpop_any w0 _ _ s [] m wr HF.out hm
              have km : (0 : Int) < ((m + 1 : Nat) : Int) := by omega
              have HG : Hid (gk = n + 1) := hg
              clear hrun htn hwr hm hg
              go_wp2_with fail
              refine (HLN.out _ _ _ _).mono ?_
              rintro e wl ⟨rfl, hwl⟩
              obtain rfl : wr = wl := hwl.symm
              clear HLN
              go_wp2_with fail
              refine Calls.mono HP.out ?_
              rintro e w6 ⟨f, hf, rfl, h6⟩
              have hr2 := HRUN.out
              rw [hf] at hr2
              simp only at hr2
              have hb : (followP names (chD ch) (s.pop m) f).bad = false := runP_bad _ _ n _ (by rw [hr2]; exact HB.out)
              have HR2 : Hid (runP names (chD ch) n (followP names (chD ch) (s.pop m) f) = s') := hr2
              have HFO' : Hid _ := HFO.out _ f _ _ hb h6
              clear hr2 hf hb h6 HP HF HRUN c3 c4
              unfold Fact.val
              go_wp2_with fail
              refine Calls.mono HFO'.out ?_
              rintro e w7 ⟨rfl, h7⟩
              have H7 : Hid (FoSt w0 (.pointer (some ⟨ib, 0, none⟩)) (.slice (some ⟨cb, 0, none⟩) ch.length cap) (followP names (chD ch) (s.pop m) f) [] w7) := h7
              clear h7 HFO'
              go_wp2
              go_roundg n
              case measure => have := HG.out; omega
              case rel => exact ⟨_, HR2.out, H7.out⟩

end Go.Proofs.YtnmclolbndohiaaGreatDoor

/-
  The walk of 'choosesUnwanted'.
-/
namespace Go.Proofs.YtnmclolbndohiaaGreatDoor
open Go.RowKit
open Go.Maps
open Ver

def unwB (s : FSt) (ch : List (Option DEnt)) (k : Nat) : Bool := match ch[k]? with
  | some (some _) => !(s.knows ⟨0, k, ⟨#[]⟩⟩)
  | _ => false
def unwX (s : FSt) (k : Nat) : Option CEnt → Bool
  | some _ => !(s.knows ⟨0, k, ⟨#[]⟩⟩)
  | none => false
def unwantedP (s : FSt) (ch : List (Option DEnt)) : Bool := (List.range ch.length).any (unwB s ch)
theorem okW (k : Nat) (h : k ≤ 1000) : (⟨0, k, ⟨#[]⟩⟩ : Fact).okB = true := by
  unfold Fact.okB
  have h1 : (⟨#[]⟩ : ByteArray).size = 0 := rfl
  have h2 : (0 : Int) ≤ (k : Int) := by omega
  have h3 : (k : Int) ≤ 1000000 := by omega
  simp [h1, h3]
theorem unwanted_hit {s : FSt} {ch : List (Option DEnt)} {k : Nat} (hk : k < ch.length) (h : unwB s ch k = true) : unwantedP s ch = true := List.any_eq_true.2 ⟨k, List.mem_range.2 hk, h⟩
theorem unwanted_none {s : FSt} {ch : List (Option DEnt)} (h : ∀ j, j < ch.length → unwB s ch j = false) : unwantedP s ch = false := by
  rw [Bool.eq_false_iff]
  intro ht
  obtain ⟨j, hj, hb⟩ := List.any_eq_true.1 ht
  rw [h j (List.mem_range.1 hj)] at hb
  cases hb

set_option maxHeartbeats 1600000 in
set_option maxRecDepth 100000 in
theorem funw_any (w0 : World) (xp : Value) (ib : Nat) (pv : Value) (packs : List CPack) (cb cap : Nat) (ch : List (Option CEnt)) (s : FSt) (rs : List Hold) (w : World) (h : FoSt w0 xp (chV cb cap ch) s rs w) (hC : ChAt w0 ib pv packs cb ch) :
    Calls Tryz.prog 62 #[ptrTo (w0.heap.size + 1)] w fun e w' => e = .returned (.bool (unwantedP s (chD ch))) ∧ FoSt w0 xp (chV cb cap ch) s rs w' := by
  have hlen : (chD ch).length = ch.length := by unfold chD; simp
  have hch : ch.length ≤ 1000 := hC.few
  have HK : Hid (∀ (k : Nat) (w : World), k ≤ 1000 → FoSt w0 xp (chV cb cap ch) s rs w → Calls Tryz.prog 100 #[ptrTo (w0.heap.size + 1), .agg #[.int .i64 0, .int .i64 k, .string ⟨#[]⟩]] w fun e w' => e = .returned (.bool (s.knows ⟨0, k, ⟨#[]⟩⟩)) ∧ Below w.heap.size w w') := fun k w hk h => fknows_any w0 xp _ s rs ⟨0, k, ⟨#[]⟩⟩ w h (okW k hk)
  have HD : Hid (∀ (k : Nat) (x : Option CEnt), ch[k]? = some x → (chD ch)[k]? = some (x.map CEnt.abs)) := fun k x hx => by show _ = _; unfold chD; rw [List.getElem?_map, hx]; rfl
  have HC : Hid (ChAt w0 ib pv packs cb ch) := hC
  have H : Hid (FoSt w0 xp (chV cb cap ch) s rs w) := h
  have HHIT : Hid (∀ k, k < ch.length → unwB s (chD ch) k = true → unwantedP s (chD ch) = true) := fun k hk hb => unwanted_hit (by rw [hlen]; exact hk) hb
  have HNON : Hid ((∀ j, j < ch.length → unwB s (chD ch) j = false) → unwantedP s (chD ch) = false) := fun hj => unwanted_none (fun j hjj => hj j (by rw [← hlen]; exact hjj))
  obtain ⟨c1, hl⟩ : w.cell? ⟨w0.heap.size + 1, 1, none⟩ = some (.slice (some ⟨cb, 0, none⟩) ch.length cap) ∧ w0.heap.size + 1 < w.heap.size := by
    obtain ⟨rc, ra, h⟩ := h
    exact ⟨h.cell 1, h.td.lt⟩
  generalize unwantedP s (chD ch) = R at *
  clear h hC hlen
  unfold ptrTo at *
  go_enter Tryz.func62, Tryz.ntmps62
  go_wp2
  go_loopw [10] (fun i wr => ∃ k : Nat, k ≤ ch.length ∧ i = .int .i64 k ∧ FoSt w0 xp (chV cb cap ch) s rs wr ∧ ∀ j, j < k → unwB s (chD ch) j = false) (fun i _ => ch.length - (intOf i).toNat)
  case atStart => exact ⟨0, by omega, rfl, H.out, fun j hj => by omega⟩
  case round =>
    obtain ⟨k, hk, rfl, hfo, hno⟩ := hrel
    have HF : Hid (FoSt w0 xp (chV cb cap ch) s rs wr) := hfo
    have HNO : Hid (∀ j, j < k → unwB s (chD ch) j = false) := hno
    clear hfo hno
    by_cases hlt : k < ch.length
    · obtain ⟨x, hx⟩ : ∃ x, ch[k]? = some x := ⟨_, List.getElem?_eq_getElem hlt⟩
      have cx := (HC.out.on HF.out.below).cells k x hx
      have hcl := (HC.out.on HF.out.below).clt
      have hU : unwB s (chD ch) k = unwX s k x := by
        unfold unwB; rw [HD.out k x hx]; cases x <;> rfl
      clear hx
      cases x with
      | none =>
        have HN1 : Hid (∀ j, j < k + 1 → unwB s (chD ch) j = false) := fun j hj => by
          by_cases e : j = k
          · rw [e]; exact hU
          · exact HNO.out j (by omega)
        clear hU HNO
        simp only [entV] at cx
        go_wp2
        go_roundw
        case rel => exact ⟨k + 1, by omega, by go_num, HF.out, HN1.out⟩
        case measure => simp [intOf]; omega
      | some e =>
        have HK' : Hid _ := HK.out k wr (by omega) HF.out
        simp only [unwX] at hU
        simp only [entV, ptrTo] at cx
        cases hb : s.knows ⟨0, k, ⟨#[]⟩⟩ with
        | true =>
          rw [hb] at HK' hU
          have HN1 : Hid (∀ j, j < k + 1 → unwB s (chD ch) j = false) := fun j hj => by
            by_cases e : j = k
            · rw [e]; exact hU
            · exact HNO.out j (by omega)
          clear hU HNO hb
          go_wp2_with fail
          refine Calls.mono HK'.out ?_
          rintro e w5 ⟨rfl, h5⟩
          have H5 : Hid (FoSt w0 xp (chV cb cap ch) s rs w5) := HF.out.on h5
          clear h5 HK' cx HF
          go_wp2
          go_roundw
          case rel => exact ⟨k + 1, by omega, by go_num, H5.out, HN1.out⟩
          case measure => simp [intOf]; omega
        | false =>
          rw [hb] at HK' hU
          have HR : Hid (R = true) := HHIT.out k hlt hU
          clear hU HNO hb
          go_wp2_with fail
          refine Calls.mono HK'.out ?_
          rintro e w5 ⟨rfl, h5⟩
          have H5 : Hid (FoSt w0 xp (chV cb cap ch) s rs w5) := HF.out.on h5
          clear h5 HK' cx HF
          go_wp2
          go_ret
          exact ⟨by rw [HR.out]; rfl, H5.out⟩
    · have HR : Hid (R = false) := HNON.out (fun j hj => HNO.out j (by omega))
      clear HNO
      go_wp2
      go_ret
      exact ⟨by rw [HR.out]; rfl, HF.out⟩

end Go.Proofs.YtnmclolbndohiaaGreatDoor

/-
  The walk of 'features', where of each package at most one feature is on.
-/
namespace Go.Proofs.YtnmclolbndohiaaGreatDoor
open Go.RowKit
open Go.Maps
open Ver

def onNames (s : FSt) (k : Nat) (l : List (ByteArray × List CItem)) : List ByteArray := (l.map fun f => f.1).filter fun n => s.knows ⟨2, k, n⟩
def featRow (s : FSt) (ch : List (Option DEnt)) (k : Nat) : List ByteArray := match ch[k]? with
  | some (some e) => onNames s k e.feats
  | _ => []
def featNames (ch : List (Option DEnt)) (k : Nat) : Bool := match ch[k]? with
  | some (some e) => e.feats.all fun f => (⟨2, k, f.1⟩ : Fact).okB
  | _ => true
def featOk (s : FSt) (ch : List (Option DEnt)) : Bool := (List.range ch.length).all fun k => decide ((featRow s ch k).length ≤ 1) && featNames ch k

/-- The names of what is on of one package, as they lie in memory: none, or one. -/
def OneRow (w : World) (B ab : Nat) (v : Value) (l : List ByteArray) : Prop := (l = [] ∧ v = .slice none 0 0) ∨ ∃ x g cap, l = [x] ∧ v = .slice (some ⟨g, 0, none⟩) 1 cap ∧ g < w.heap.size ∧ (g ≠ ab ∧ B ≤ g) ∧ w.cell? ⟨g, 0, none⟩ = some (.string x)
theorem OneRow.on {w w' : World} {B ab : Nat} {v : Value} {l : List ByteArray} (h : OneRow w B ab v l) (hb : Below w.heap.size w w') : OneRow w' B ab v l := by
  rcases h with h | ⟨x, g, cap, h1, h2, h3, h4, h5⟩
  · exact Or.inl h
  · exact Or.inr ⟨x, g, cap, h1, h2, Nat.lt_of_lt_of_le h3 hb.size, h4, (hb.cell (p := ⟨g, 0, none⟩) h3).trans h5⟩
theorem OneRow.set {w : World} {B ab : Nat} {v : Value} {l : List ByteArray} (h : OneRow w B ab v l) (i : Nat) (u : Value) : OneRow (w.setCell ⟨ab, i, none⟩ u) B ab v l := by
  rcases h with h | ⟨x, g, cap, h1, h2, h3, h4, h5⟩
  · exact Or.inl h
  · refine Or.inr ⟨x, g, cap, h1, h2, by rw [World.size_setCell]; exact h3, h4, ?_⟩
    rw [World.cell?_setCell_other _ _ _ _ (fun e => h4.1 (congrArg Addr.block e).symm)]
    exact h5
theorem OneRow.slice {w : World} {B ab : Nat} {v : Value} {l : List ByteArray} (h : OneRow w B ab v l) : ∃ a n c, v = .slice a n c ∧ n = l.length ∧ n ≤ 1 := by
  rcases h with ⟨rfl, rfl⟩ | ⟨x, g, cap, rfl, rfl, _⟩
  · exact ⟨_, _, _, rfl, rfl, by omega⟩
  · exact ⟨_, _, _, rfl, rfl, by omega⟩
/-- All of them, in a block of their own. -/
structure AllAt (w1 : World) (ab n : Nat) (f : Nat → List ByteArray) (w : World) : Prop where
  below : Below w1.heap.size w1 w
  ge : w1.heap.size ≤ ab
  lt : ab < w.heap.size
  frz : ∀ j, w.frozen? ⟨ab, j, none⟩ = false
  rows : ∀ j, j < n → ∃ v, w.cell? ⟨ab, j, none⟩ = some v ∧ OneRow w w1.heap.size ab v (f j)
theorem AllAt.on {w1 w w' : World} {ab n : Nat} {f : Nat → List ByteArray} (h : AllAt w1 ab n f w) (hb : Below w.heap.size w w') : AllAt w1 ab n f w' :=
  ⟨h.below.trans (hb.mono h.below.size), h.ge, Nat.lt_of_lt_of_le h.lt hb.size, fun j => (hb.frozen (p := ⟨ab, j, none⟩) h.lt).trans (h.frz j), fun j hj => by
    obtain ⟨v, hv, hr⟩ := h.rows j hj
    exact ⟨v, (hb.cell (p := ⟨ab, j, none⟩) h.lt).trans hv, hr.on hb⟩⟩
theorem AllAt.eq {w1 w : World} {ab n : Nat} {f f' : Nat → List ByteArray} (h : AllAt w1 ab n f w) (hf : ∀ j, j < n → f j = f' j) : AllAt w1 ab n f' w :=
  ⟨h.below, h.ge, h.lt, h.frz, fun j hj => by rw [← hf j hj]; exact h.rows j hj⟩
/-- The first name of a package, laid in a row of its own. -/
theorem AllAt.one {w1 w wz w4 : World} {ab n gg cq k : Nat} {f : Nat → List ByteArray} {x : ByteArray} (h : AllAt w1 ab n f w) (hk : k < n) (hz : Below w.heap.size w wz) (hgrow : wz.grownBy w4 (Value.slice none 0 0).ownBlock) (hgg : wz.heap.size ≤ gg) (hlt : gg < w4.heap.size) (hx : w4.cell? ⟨gg, 0, none⟩ = some (.string x)) :
    AllAt w1 ab n (fun j => if j = k then [x] else f j) (w4.setCell ⟨ab, k, none⟩ (.slice (some ⟨gg, 0, none⟩) 1 cq)) := by
  have hzs := hz.size
  have h4 : Below w.heap.size w w4 := hz.grown hgrow hzs (fun j hj => by cases hj)
  have ha := h.on h4
  have hne : gg ≠ ab := by have := h.lt; omega
  refine ⟨ha.below.setCell (p := ⟨ab, k, none⟩) h.ge _, h.ge, by rw [World.size_setCell]; exact ha.lt, fun j => by rw [World.frozen?_setCell]; exact ha.frz j, fun j hj => ?_⟩
  by_cases e : j = k
  · subst e
    obtain ⟨v, hv, _⟩ := ha.rows j hj
    refine ⟨_, World.cell?_setCell_same _ ⟨ab, j, none⟩ _ hv, Or.inr ⟨x, gg, cq, by simp, rfl, by rw [World.size_setCell]; exact hlt, ⟨hne, by have := h.below.size; omega⟩, ?_⟩⟩
    rw [World.cell?_setCell_other _ _ _ _ (fun e => hne (congrArg Addr.block e).symm)]
    exact hx
  · obtain ⟨v, hv, hr⟩ := ha.rows j hj
    refine ⟨v, ?_, ?_⟩
    · rw [World.cell?_setCell_other _ _ _ _ (fun e' => e (by simpa using (congrArg Addr.off e').symm))]; exact hv
    · show OneRow _ _ _ _ (if j = k then [x] else f j)
      rw [if_neg e]; exact hr.set k _

def featPart (F : Nat → List ByteArray) (k : Nat) (cur : List ByteArray) : Nat → List ByteArray := fun j => if j < k then F j else if j = k then cur else []
theorem featPart_done (F : Nat → List ByteArray) (k : Nat) (j : Nat) : featPart F k (F k) j = featPart F (k + 1) [] j := by
  unfold featPart
  by_cases h1 : j < k
  · rw [if_pos h1, if_pos (by omega)]
  · by_cases h2 : j = k
    · rw [if_neg h1, if_pos h2, if_pos (by omega), h2]
    · rw [if_neg h1, if_neg h2, if_neg (by omega)]; split <;> rfl
theorem featPart_one (F : Nat → List ByteArray) (k : Nat) (x : ByteArray) (j : Nat) : (if j = k then [x] else featPart F k [] j) = featPart F k [x] j := by
  unfold featPart
  by_cases h2 : j = k
  · rw [if_pos h2, if_neg (by omega), if_pos h2]
  · rw [if_neg h2]; simp [h2]
theorem AllAt.new (w : World) : AllAt w w.heap.size 2 (fun _ => []) (w.alloc (.cells #[.slice none 0 0, .slice none 0 0] 43)) := by
  refine ⟨(Below.refl _ _).alloc (Nat.le_refl _) _, Nat.le_refl _, by simp, fun j => World.frozen?_alloc_at _ _ _ _ rfl, fun j hj => ⟨.slice none 0 0, ?_, Or.inl ⟨rfl, rfl⟩⟩⟩
  rw [World.cell?_alloc_at _ _ _ _ rfl]
  match j, hj with
  | 0, _ => rfl
  | 1, _ => rfl

theorem onNames_step (s : FSt) (k : Nat) (l : List CFeat) (m : Nat) (hm : m < l.length) : onNames s k ((l.map fun f => (f.name, f.items)).take (m + 1)) = onNames s k ((l.map fun f => (f.name, f.items)).take m) ++ (if s.knows ⟨2, k, l[m].name⟩ = true then [l[m].name] else []) := by
  unfold onNames
  rw [List.take_succ_eq_append_getElem (by simpa using hm), List.map_append, List.filter_append]
  simp [List.filter_cons]
theorem onNames_le (s : FSt) (k : Nat) (l : List (ByteArray × List CItem)) (m : Nat) : (onNames s k (l.take m)).length ≤ (onNames s k l).length := by
  unfold onNames
  exact (((List.take_sublist m l).map _).filter _).length_le

set_option maxHeartbeats 6400000 in
set_option maxRecDepth 100000 in
theorem ffeat_any (w0 : World) (xp : Value) (ib : Nat) (pv : Value) (packs : List CPack) (cb cap : Nat) (ch : List (Option CEnt)) (hlen : ch.length = 2) (s : FSt) (rs : List Hold) (w : World) (h : FoSt w0 xp (chV cb cap ch) s rs w) (hC : ChAt w0 ib pv packs cb ch) (hok : featOk s (chD ch) = true) :
    Calls Tryz.prog 63 #[ptrTo (w0.heap.size + 1)] w fun e w' => e = .returned (.slice (some ⟨w.heap.size, 0, none⟩) 2 2) ∧ AllAt w w.heap.size 2 (featRow s (chD ch)) w' := by
  obtain ⟨j0, hj0, hy0, hy1, hy2⟩ := info_parts Tryz.infoStr
  have hlD : (chD ch).length = 2 := by unfold chD; simpa using hlen
  have hD : ∀ (k : Nat) (x : Option CEnt), ch[k]? = some x → (chD ch)[k]? = some (x.map CEnt.abs) := fun k x hx => by unfold chD; rw [List.getElem?_map, hx]; rfl
  have HNONE : Hid (∀ k, ch[k]? = some none → featRow s (chD ch) k = []) := fun k hx => by show _ = _; unfold featRow; rw [hD k none hx]; rfl
  have HSOME : Hid (∀ k (e : CEnt), k < 2 → ch[k]? = some (some e) → featRow s (chD ch) k = onNames s k (e.feats.map fun f => (f.name, f.items)) ∧ (featRow s (chD ch) k).length ≤ 1 ∧ ∀ f ∈ e.feats, (⟨2, k, f.name⟩ : Fact).okB = true) := fun k e hk hx => by
    have hx' := hD k _ hx
    have e1 : featRow s (chD ch) k = onNames s k (e.feats.map fun f => (f.name, f.items)) := by unfold featRow; rw [hx']; rfl
    unfold featOk at hok
    rw [List.all_eq_true] at hok
    have h3 := hok k (List.mem_range.2 (by rw [hlD]; exact hk))
    rw [Bool.and_eq_true] at h3
    refine ⟨e1, of_decide_eq_true h3.1, fun f hf => ?_⟩
    have h4 := h3.2
    unfold featNames at h4
    rw [hx'] at h4
    have h5 := List.all_eq_true.1 h4 (f.name, f.items) (List.mem_map.2 ⟨f, hf, rfl⟩)
    exact h5
  generalize featRow s (chD ch) = F at *
  have HLEN : Hid (ch.length = 2) := hlen
  have HK : Hid (∀ (W : World) (k : Nat) (nm : ByteArray), Below w.heap.size w W → (⟨2, k, nm⟩ : Fact).okB = true → Calls Tryz.prog 100 #[.pointer (some ⟨w0.heap.size + 1, 0, none⟩), .agg #[.int .i64 2, .int .i64 k, .string nm]] W fun e w' => e = .returned (.bool (s.knows ⟨2, k, nm⟩)) ∧ Below W.heap.size W w') := fun W k nm hW hk => fknows_any w0 xp _ s rs ⟨2, k, nm⟩ W (h.on hW) hk
  have HCW : Hid (∀ W, Below w.heap.size w W → ChAt W ib pv packs cb ch) := fun W hW => hC.on (h.below.trans (hW.mono h.below.size))
  obtain ⟨c1, hl⟩ : w.cell? ⟨w0.heap.size + 1, 1, none⟩ = some (.slice (some ⟨cb, 0, none⟩) 2 cap) ∧ w0.heap.size + 1 < w.heap.size := by
    obtain ⟨rc, ra, h⟩ := h
    have := h.cell 1
    rw [show foC xp (chV cb cap ch) w0.heap.size (.slice ra s.td.length rc) s.wr 1 = some (chV cb cap ch) from rfl] at this
    unfold chV at this
    rw [hlen] at this
    exact ⟨this, h.td.lt⟩
  have HA0 : Hid (AllAt w w.heap.size 2 (featPart F 0 []) (w.alloc (.cells #[.slice none 0 0, .slice none 0 0] 43))) := (AllAt.new w).eq (fun j _ => by unfold featPart; simp)
  have HSORT : Hid (∀ (a : Option Addr) (n c : Nat) (w : World), n ≤ 1 → Calls Tryz.prog 101 #[.slice a n c] w fun e w' => e = .returned (.tuple #[]) ∧ w' = w) := fun a n c w hn => sortS_small a n c w hn
  have hmk : ∀ w : World, (Instr.makeSlice 76 (.int .i64 2) (.int .i64 2)).run Tryz.prog w = .ok (.slice (some ⟨w.heap.size, 0, none⟩) 2 2) (w.alloc (.cells #[.slice none 0 0, .slice none 0 0] 43)) := fun _ => by kernel_rfl
  clear h hC hok hlen hlD hD
  unfold ptrTo
  go_enter Tryz.func63, Tryz.ntmps63
  go_wp2
  go_loopw [19] (fun i wr => ∃ k : Nat, k ≤ 2 ∧ i = .int .i64 k ∧ AllAt w w.heap.size 2 (featPart F k []) wr) (fun i _ => 2 - (intOf i).toNat)
  case atStart => exact ⟨0, by omega, rfl, HA0.out⟩
  case round =>
    obtain ⟨k, hk, rfl, hall⟩ := hrel
    have HA : Hid (AllAt w w.heap.size 2 (featPart F k []) wr) := hall
    clear hall
    by_cases hlt : k < 2
    · obtain ⟨x, hx⟩ : ∃ x, ch[k]? = some x := ⟨_, List.getElem?_eq_getElem (by rw [HLEN.out]; exact hlt)⟩
      have i0 : (0 : Int) ≤ (k : Int) := by omega
      have i1 : (k : Int) < 2 := by omega
      have hCr := HCW.out wr HA.out.below
      have cx := hCr.cells k x hx
      have hcl := hCr.clt
      cases x with
      | none =>
        have HN : Hid (AllAt w w.heap.size 2 (featPart F (k + 1) []) wr) := HA.out.eq (fun j _ => by rw [← featPart_done, HNONE.out k hx])
        clear hx hCr HA
        simp only [entV] at cx
        go_wp2
        go_roundw
        case rel => exact ⟨k + 1, by omega, by go_num, HN.out⟩
        case measure => simp [intOf]; omega
      | some e =>
        have hE := hCr.ents e (List.mem_of_getElem? hx)
        obtain ⟨hF, hF1, hFo⟩ := HSOME.out k e hlt hx
        have HEW : Hid (∀ W, Below w.heap.size w W → EntAt W e) := fun W hW => (HCW.out W hW).ents e (List.mem_of_getElem? hx)
        clear hx hCr
        obtain ⟨eb, v0, v1, v2, nv, needs, fv, feats⟩ := e
        simp only at hF hF1 hFo
        obtain ⟨fa, fc, hfv⟩ := hE.feats.len
        simp only at hfv
        subst hfv
        have c4 : wr.cell? ⟨eb, 4, none⟩ = some (.slice fa feats.length fc) := hE.cells 4 (by omega)
        have hel : eb < wr.heap.size := hE.lt
        have hfl : feats.length ≤ 1000 := hE.many.2
        have HFE : Hid (F k = onNames s k (feats.map fun f => (f.name, f.items))) := hF
        have HF1 : Hid ((F k).length ≤ 1) := hF1
        have HFO : Hid (∀ f ∈ feats, (⟨2, k, f.name⟩ : Fact).okB = true) := hFo
        have HI0 : Hid (AllAt w w.heap.size 2 (featPart F k (onNames s k ((feats.map fun f => (f.name, f.items)).take 0))) wr) := HA.out
        clear hE hF hF1 hFo HA
        simp only [entV, ptrTo] at cx
        go_wp2
        go_loopw [31] (fun i wr => ∃ m : Nat, m ≤ feats.length ∧ i = .int .i64 m ∧ AllAt w w.heap.size 2 (featPart F k (onNames s k ((feats.map fun f => (f.name, f.items)).take m))) wr) (fun i _ => feats.length - (intOf i).toNat)
        case atStart => exact ⟨0, by omega, rfl, HI0.out⟩
        case round =>
          clear HI0 cx c4 hel hcl
          rename_i wq
          obtain ⟨m, hm, rfl, hall⟩ := hrel
          have HA : Hid (AllAt w w.heap.size 2 (featPart F k (onNames s k ((feats.map fun f => (f.name, f.items)).take m))) wr) := hall
          clear hall
          by_cases hlm : m < feats.length
          · have hEr := HEW.out wr HA.out.below
            obtain ⟨g, cap', e1, hgl, hc⟩ := RowR.atX CFeat.cells 2 CFeat.len hEr.feats (List.getElem?_eq_getElem hlm)
            simp only at e1 hgl hc
            obtain ⟨rfl, rfl⟩ : fa = some ⟨g, 0, none⟩ ∧ fc = cap' := by simpa using e1
            obtain ⟨ia, ic, hiv⟩ := (hEr.fi feats[m] (List.getElem_mem _)).len
            have hst := onNames_step s k feats m hlm
            have hK := HK.out
            have hoK := HFO.out feats[m] (List.getElem_mem _)
            have hle1 : (onNames s k ((feats.map fun f => (f.name, f.items)).take (m + 1))).length ≤ 1 := Nat.le_trans (onNames_le s k _ _) (by rw [← HFE.out]; exact HF1.out)
            clear e1 hEr
            generalize feats[m].items.length = fn at *
            generalize feats[m] = y at *
            obtain ⟨ynm, yiv, yit⟩ := y
            simp only at hiv hst hoK hc
            subst hiv
            have d0 : wr.cell? ⟨g, m * 2, none⟩ = some (.string ynm) := hc 0 (by omega)
            have d1 : wr.cell? ⟨g, m * 2 + 1, none⟩ = some (.slice ia fn ic) := hc 1 (by omega)
            have hbx : Below wr.heap.size wr (wr.alloc (.cells #[.string ynm, .slice ia fn ic] 222)) := (Below.refl _ _).alloc (Nat.le_refl _) _
            have HAB : Hid (AllAt w w.heap.size 2 (featPart F k (onNames s k ((feats.map fun f => (f.name, f.items)).take m))) (wr.alloc (.cells #[.string ynm, .slice ia fn ic] 222))) := HA.out.on hbx
            have HK' : Hid _ := hK (wr.alloc (.cells #[.string ynm, .slice ia fn ic] 222)) k ynm HAB.out.below hoK
            have HBX : Hid ((wr.alloc (.cells #[.string ynm, .slice ia fn ic] 222)).cell? ⟨wr.heap.size, 0, none⟩ = some (.string ynm)) := by
              show _ = _
              rw [World.cell?_alloc_at _ _ _ _ rfl]; rfl
            clear hc hbx hK hoK HA
            cases hb : s.knows ⟨2, k, ynm⟩ with
            | false =>
              rw [hb] at HK' hst
              rw [if_neg (by decide), List.append_nil] at hst
              rw [← hst] at HAB
              clear hst hb hle1
              go_wp2_with fail
              refine Calls.mono HK'.out ?_
              rintro e w5 ⟨rfl, h5⟩
              have H5 : Hid (AllAt w w.heap.size 2 (featPart F k (onNames s k ((feats.map fun f => (f.name, f.items)).take (m + 1)))) w5) := HAB.out.on h5
              clear h5 HK' d0 d1 HAB HBX
              go_wp2
              go_roundw
              case rel => exact ⟨m + 1, by omega, by go_num, H5.out⟩
              case measure => simp [intOf]; omega
            | true =>
              rw [hb] at HK' hst
              rw [if_pos rfl] at hst
              have hnil : onNames s k ((feats.map fun f => (f.name, f.items)).take m) = [] := by
                rw [hst, List.length_append, List.length_singleton] at hle1
                exact List.length_eq_zero_iff.1 (by omega)
              rw [hnil] at hst HAB
              rw [List.nil_append] at hst
              clear hnil hb hle1
              go_wp2_with fail
              refine Calls.mono HK'.out ?_
              rintro e w5 ⟨rfl, h5⟩
              have HA5 : Hid (AllAt w w.heap.size 2 (featPart F k []) w5) := HAB.out.on h5
              have b0 : w5.cell? ⟨wr.heap.size, 0, none⟩ = some (.string ynm) := (h5.cell (p := ⟨wr.heap.size, 0, none⟩) (by simp)).trans HBX.out
              have hb5 : wr.heap.size < w5.heap.size := by have := h5.size; simp at this; omega
              have hab5 : w.heap.size < w5.heap.size := HA5.out.lt
              have fz5 : w5.frozen? ⟨w.heap.size, k, none⟩ = false := HA5.out.frz k
              have ca5 : w5.cell? ⟨w.heap.size, k, none⟩ = some (.slice none 0 0) := by
                obtain ⟨v, hv, hr⟩ := HA5.out.rows k hlt
                rw [show featPart F k [] k = [] by unfold featPart; simp] at hr
                rcases hr with ⟨_, rfl⟩ | ⟨x, _, _, hx, _⟩
                · exact hv
                · cases hx
              have HST : Hid (onNames s k ((feats.map fun f => (f.name, f.items)).take (m + 1)) = [ynm]) := hst
              clear h5 HK' d0 d1 HAB HBX hst
              go_wp2
              go_region_law (refine step_append_lies _ (by rfl) _ _ _ (by rfl) w5.heap.size 9 j0 _ 1 16 Tryz.underlying43 hj0 hy0 hy1 hy2 rfl (by omega) (.slice none 0 0) 0 [] (by rfl) (World.ownsRow_nil _ _ _ _) ⟨w5.heap.size, 0, none⟩ 1 1 [.string ynm] (by rfl) (by rfl) (World.news_of_block (cs := #[.string ynm]) (t := 9) (fr := (0, 0)) (heap_alloc_new w5 _)) (by simp [Value.oneCell']) (by omega) (by unfold maxLen; omega) (by omega) (by simp) (w5.heap.size + 1) (by simp) ?_; intro gg cq w4 hown1 hgrow hat hlt3; have hfz3 : w4.frozen? ⟨w.heap.size, k, none⟩ = false := (hgrow.frozen_far ⟨w.heap.size, k, none⟩ (by simp; omega) (by simp [Value.ownBlock])).trans ((World.frozen?_alloc_past _ _ _ hab5).trans fz5); have hc3 : w4.cell? ⟨w.heap.size, k, none⟩ = some (.slice none 0 0) := (hgrow.cell_far ⟨w.heap.size, k, none⟩ (by simp; omega) (by simp [Value.ownBlock])).trans ((World.cell?_alloc_past _ _ _ hab5).trans ca5))
              all_goals (
                have HX : Hid (AllAt w w.heap.size 2 (featPart F k (onNames s k ((feats.map fun f => (f.name, f.items)).take (m + 1)))) (w4.setCell ⟨w.heap.size, k, none⟩ (.slice (some ⟨gg, 0, none⟩) 1 cq))) := by
                  show AllAt _ _ _ _ _
                  rw [HST.out]
                  refine (HA5.out.one hlt (wz := ((w5.alloc (.cells #[.string ynm] 9)).drew)) (((Below.refl _ _).alloc (Nat.le_refl _) _).drew) hgrow ?_ hlt3 ?_).eq (fun j _ => featPart_one F k ynm j)
                  · rcases hat with e | e
                    · cases e
                    · rw [e]; simp
                  · rcases (RowR.of_owns hown1).2 with ⟨_, e⟩ | ⟨g', cap', e, _, hcc⟩
                    · omega
                    · obtain ⟨rfl, _⟩ : gg = g' ∧ cq = cap' := by simpa using e
                      exact hcc 0 (by omega)
                clear hown1 hgrow hat hlt3 hfz3 hc3 HA5 b0 hb5 fz5 ca5 HST
                go_wp2
                go_roundw
                case rel => exact ⟨m + 1, by omega, by go_num, HX.out⟩
                case measure => simp [intOf]; omega)
          · have e : m = feats.length := by omega
            subst e
            have HX : Hid (AllAt w w.heap.size 2 (featPart F k (F k)) wr) := by
              show AllAt _ _ _ _ _
              have := HA.out
              rw [List.take_of_length_le (by simp), ← HFE.out] at this
              exact this
            clear HA
            obtain ⟨v, cv, hor⟩ := HX.out.rows k hlt
            obtain ⟨va, vn, vc, rfl, -, hvn⟩ := hor.slice
            have HS' : Hid _ := HSORT.out va vn vc wr hvn
            have HN : Hid (AllAt w w.heap.size 2 (featPart F (k + 1) []) wr) := HX.out.eq (fun j _ => featPart_done F k j)
            have hab5 : w.heap.size < wr.heap.size := HX.out.lt
            clear hor HX
            go_wp2_with fail
            refine Calls.mono HS'.out ?_
            rintro e w5 ⟨rfl, hw5⟩
            obtain rfl : wr = w5 := hw5.symm
            clear HS' cv
            go_wp2
            go_roundw
            case rel => exact ⟨k + 1, by omega, by go_num, HN.out⟩
            case measure => simp [intOf]; omega
    · have HR : Hid (AllAt w w.heap.size 2 F wr) := HA.out.eq (fun j hj => by unfold featPart; rw [if_pos (by omega)])
      clear HA
      go_wp2
      go_ret
      exact ⟨rfl, HR.out⟩

end Go.Proofs.YtnmclolbndohiaaGreatDoor

/-
  The walks of 'Features' and 'Possible'.
-/
namespace Go.Proofs.YtnmclolbndohiaaGreatDoor
open Go.RowKit
open Go.Maps
open Ver

theorem AllAt.lower {w0 w1 w : World} {ab n : Nat} {f : Nat → List ByteArray} (h : AllAt w1 ab n f w) (hb : Below w0.heap.size w0 w1) : AllAt w0 ab n f w :=
  ⟨hb.trans (h.below.mono hb.size), Nat.le_trans hb.size h.ge, h.lt, h.frz, fun j hj => by
    obtain ⟨v, hv, hr⟩ := h.rows j hj
    refine ⟨v, hv, ?_⟩
    rcases hr with hr | ⟨x, g, cap, h1, h2, h3, h4, h5⟩
    · exact Or.inl hr
    · exact Or.inr ⟨x, g, cap, h1, h2, h3, ⟨h4.1, Nat.le_trans hb.size h4.2⟩, h5⟩⟩
/-- A store into an elder block. -/
theorem AllAt.stored {w1 W w : World} {ab n : Nat} {f : Nat → List ByteArray} {a : Addr} (h : AllAt W ab n f w) (hb : Below w1.heap.size w1 W) (ha1 : w1.heap.size ≤ a.block) (ha2 : a.block < W.heap.size) (u : Value) : AllAt w1 ab n f (w.setCell a u) := by
  have hl := h.lower hb
  have hge := h.ge
  refine ⟨hl.below.setCell (p := a) ha1 _, hl.ge, by rw [World.size_setCell]; exact h.lt, fun j => by rw [World.frozen?_setCell]; exact h.frz j, fun j hj => ?_⟩
  obtain ⟨v, hv, hr⟩ := h.rows j hj
  refine ⟨v, ?_, ?_⟩
  · rw [World.cell?_setCell_other _ _ _ _ (fun e => by have := congrArg Addr.block e; simp at this; omega)]; exact hv
  · rcases hr with hr | ⟨x, g, cap, h1, h2, h3, h4, h5⟩
    · exact Or.inl hr
    · refine Or.inr ⟨x, g, cap, h1, h2, by rw [World.size_setCell]; exact h3, ⟨h4.1, Nat.le_trans hb.size h4.2⟩, ?_⟩
      rw [World.cell?_setCell_other _ _ _ _ (fun e => by have := congrArg Addr.block e; simp at this; omega)]; exact h5

/-- What 'Features' answers. -/
def FtEnds (w0 : World) (s : FSt) (ch : List (Option DEnt)) (e : Ending) (w' : World) : Prop :=
  ((s.wr || unwantedP s ch) = true ∧ e = .returned (.tuple #[.slice none 0 0, .bool false]) ∧ Below w0.heap.size w0 w') ∨
  ((s.wr || unwantedP s ch) = false ∧ ∃ ab, e = .returned (.tuple #[.slice (some ⟨ab, 0, none⟩) 2 2, .bool true]) ∧ AllAt w0 ab 2 (featRow s ch) w')
/-- The same, as one ending. -/
def FeatsOne (w0 : World) (s : FSt) (ch : List (Option DEnt)) (e : Ending) (w' : World) : Prop :=
  ∃ a n c, e = .returned (.tuple #[.slice a n c, .bool (!(s.wr || unwantedP s ch))]) ∧ Below w0.heap.size w0 w' ∧ ((s.wr || unwantedP s ch) = false → ∃ ab, (a = some ⟨ab, 0, none⟩ ∧ n = 2 ∧ c = 2) ∧ AllAt w0 ab 2 (featRow s ch) w')
theorem FtEnds.one {w0 : World} {s : FSt} {ch : List (Option DEnt)} {e : Ending} {w' : World} (h : FtEnds w0 s ch e w') : FeatsOne w0 s ch e w' := by
  rcases h with ⟨h, rfl, hb⟩ | ⟨h, ab, rfl, hb⟩
  · exact ⟨none, 0, 0, by rw [h]; rfl, hb, fun h' => by rw [h] at h'; cases h'⟩
  · exact ⟨some ⟨ab, 0, none⟩, 2, 2, by rw [h]; rfl, hb.below, fun _ => ⟨ab, ⟨rfl, rfl, rfl⟩, hb⟩⟩

set_option maxHeartbeats 800000 in
set_option maxRecDepth 100000 in
theorem ffeatures_any (w0 : World) (ib : Nat) (pv : Value) (packs : List CPack) (cb cap : Nat) (ch : List (Option CEnt)) (rv : Value) (ras : List CAsk) (fuel : Nat) (s : FSt) (hs : gatherP (packs.map fun p => p.name.data.toList) (chD ch) fuel (ras.map CAsk.ask) = s) (hlen : ch.length = 2) (hC : ChAt w0 ib pv packs cb ch) (hR : RootsAt w0 rv ras)
    (hbad : s.bad = false) (hok : (s.wr || unwantedP s (chD ch)) = false → featOk s (chD ch) = true) :
    Calls Tryz.prog 35 #[ptrTo ib, chV cb cap ch, rv] w0 fun e w' => FtEnds w0 s (chD ch) e w' := by
  have HG : Hid (Calls Tryz.prog 61 #[ptrTo ib, chV cb cap ch, rv] w0 fun e w' => e = .returned (ptrTo (w0.heap.size + 1)) ∧ FoSt w0 (ptrTo ib) (chV cb cap ch) s [] w') := by
    have := fgather_any w0 ib pv packs cb cap ch rv ras fuel hC hR (by rw [hs]; exact hbad)
    rw [hs] at this
    exact this
  have HU : Hid (∀ w, FoSt w0 (ptrTo ib) (chV cb cap ch) s [] w → Calls Tryz.prog 62 #[ptrTo (w0.heap.size + 1)] w fun e w' => e = .returned (.bool (unwantedP s (chD ch))) ∧ FoSt w0 (ptrTo ib) (chV cb cap ch) s [] w') := fun w h => funw_any w0 _ ib pv packs cb cap ch s [] w h hC
  have HF : Hid ((s.wr || unwantedP s (chD ch)) = false → ∀ w, FoSt w0 (ptrTo ib) (chV cb cap ch) s [] w → Calls Tryz.prog 63 #[ptrTo (w0.heap.size + 1)] w fun e w' => ∃ ab, e = .returned (.slice (some ⟨ab, 0, none⟩) 2 2) ∧ AllAt w0 ab 2 (featRow s (chD ch)) w') := fun h0 w h =>
    (ffeat_any w0 _ ib pv packs cb cap ch hlen s [] w h hC (hok h0)).mono (fun e w' ⟨h1, h2⟩ => ⟨_, h1, h2.lower h.below⟩)
  have HE1 : Hid (∀ w', (s.wr || unwantedP s (chD ch)) = true → Below w0.heap.size w0 w' → FtEnds w0 s (chD ch) (.returned (.tuple #[.slice none 0 0, .bool false])) w') := fun w' h hb => Or.inl ⟨h, rfl, hb⟩
  have HE2 : Hid (∀ ab w', (s.wr || unwantedP s (chD ch)) = false → AllAt w0 ab 2 (featRow s (chD ch)) w' → FtEnds w0 s (chD ch) (.returned (.tuple #[.slice (some ⟨ab, 0, none⟩) 2 2, .bool true])) w') := fun ab w' h hb => Or.inr ⟨h, ab, rfl, hb⟩
  generalize hu : unwantedP s (chD ch) = U at *
  generalize featRow s (chD ch) = F at *
  obtain ⟨ra, rc, rfl⟩ := hR.row.len
  clear hu hs hok hC hR hlen hbad
  unfold ptrTo chV at *
  go_enter Tryz.func35, Tryz.ntmps35
  go_wp2_with fail
  refine Calls.mono HG.out ?_
  rintro e w1 ⟨rfl, h1⟩
  have H1 : Hid (FoSt w0 (.pointer (some ⟨ib, 0, none⟩)) (.slice (some ⟨cb, 0, none⟩) ch.length cap) s [] w1) := h1
  obtain ⟨c4, hl4⟩ : w1.cell? ⟨w0.heap.size + 1, 4, none⟩ = some (.bool s.wr) ∧ w0.heap.size + 1 < w1.heap.size := by
    obtain ⟨rc, ra, h⟩ := h1
    exact ⟨h.cell 4, h.td.lt⟩
  clear HG h1
  generalize hwr : s.wr = wr at *
  cases wr with
  | true =>
    have HX : Hid (FtEnds w0 s (chD ch) (.returned (.tuple #[.slice none 0 0, .bool false])) w1) := HE1.out w1 rfl H1.out.below
    clear HE1 HE2 HF HU H1
    go_wp2
    go_ret2
    exact HX.out
  | false =>
    have HU' : Hid _ := HU.out w1 H1.out
    clear HU H1
    go_wp2_with fail
    refine Calls.mono HU'.out ?_
    rintro e w2 ⟨rfl, h2⟩
    have H2 : Hid (FoSt w0 (.pointer (some ⟨ib, 0, none⟩)) (.slice (some ⟨cb, 0, none⟩) ch.length cap) s [] w2) := h2
    clear h2 HU' c4
    cases U with
    | true =>
      have HX : Hid (FtEnds w0 s (chD ch) (.returned (.tuple #[.slice none 0 0, .bool false])) w2) := HE1.out w2 rfl H2.out.below
      clear HE1 HE2 HF H2
      go_wp2
      go_ret2
      exact HX.out
    | false =>
      have HF' : Hid _ := HF.out rfl w2 H2.out
      clear HF HE1 H2
      go_wp2_with fail
      refine Calls.mono HF'.out ?_
      rintro e w3 ⟨ab, rfl, h3⟩
      have HX : Hid (FtEnds w0 s (chD ch) (.returned (.tuple #[.slice (some ⟨ab, 0, none⟩) 2 2, .bool true])) w3) := HE2.out ab w3 rfl h3
      clear h3 HE2 HF'
      go_wp2
      go_ret2
      exact HX.out

set_option maxHeartbeats 800000 in
set_option maxRecDepth 100000 in
theorem fpossible_any (w0 : World) (ib : Nat) (pv : Value) (packs : List CPack) (cb cap : Nat) (ch : List (Option CEnt)) (rv : Value) (ras : List CAsk) (fuel : Nat) (s : FSt) (hs : gatherP (packs.map fun p => p.name.data.toList) (chD ch) fuel (ras.map CAsk.ask) = s) (hC : ChAt w0 ib pv packs cb ch) (hR : RootsAt w0 rv ras) (hbad : s.bad = false) :
    Calls Tryz.prog 91 #[ptrTo ib, chV cb cap ch, rv] w0 fun e w' => e = .returned (.bool (!s.wr)) ∧ Below w0.heap.size w0 w' := by
  have HG : Hid (Calls Tryz.prog 61 #[ptrTo ib, chV cb cap ch, rv] w0 fun e w' => e = .returned (ptrTo (w0.heap.size + 1)) ∧ FoSt w0 (ptrTo ib) (chV cb cap ch) s [] w') := by
    have := fgather_any w0 ib pv packs cb cap ch rv ras fuel hC hR (by rw [hs]; exact hbad)
    rw [hs] at this
    exact this
  have HX : Hid (∀ w1, FoSt w0 (ptrTo ib) (chV cb cap ch) s [] w1 → w1.cell? ⟨w0.heap.size + 1, 4, none⟩ = some (.bool s.wr)) := fun w1 h1 => by
    obtain ⟨rc, ra, h⟩ := h1
    exact h.cell 4
  clear hs hC hR hbad
  unfold ptrTo chV at *
  generalize s.wr = wr at *
  go_enter Tryz.func91, Tryz.ntmps91
  go_wp2_with fail
  refine Calls.mono HG.out ?_
  rintro e w1 ⟨rfl, h1⟩
  have HB : Hid (Below w0.heap.size w0 w1) := h1.below
  have c4 := HX.out w1 h1
  have hl4 := h1.lt
  clear HG h1 HX
  go_wp2
  go_ret
  exact ⟨rfl, HB.out⟩

end Go.Proofs.YtnmclolbndohiaaGreatDoor

/-
  The search of 'best' in memory and in plain.
-/
namespace Go.Proofs.YtnmclolbndohiaaGreatDoor
open Go.RowKit
open Go.Maps
open Ver

/-- The index with its entries, as it lies in memory. -/
structure IxAt (w : World) (ib : Nat) (pv : Value) (packs : List CPack) : Prop where
  ilt : ib < w.heap.size
  icell : w.cell? ⟨ib, 0, none⟩ = some pv
  irow : RowR w pv packs.length 1 (packs.map fun p => ptrTo p.b)
  inames : ∀ p ∈ packs, p.b < w.heap.size ∧ w.cell? ⟨p.b, 0, none⟩ = some (.string p.name)
  ifew : packs.length ≤ 1000
  erow : ∀ p ∈ packs, w.cell? ⟨p.b, 1, none⟩ = some p.ev ∧ RowR w p.ev p.ents.length 1 (p.ents.map fun e => ptrTo e.b)
  ents : ∀ p ∈ packs, ∀ e ∈ p.ents, EntAt w e
theorem IxAt.on {w w' : World} {ib : Nat} {pv : Value} {packs : List CPack} (h : IxAt w ib pv packs) (hb : Below w.heap.size w w') : IxAt w' ib pv packs :=
  ⟨Nat.lt_of_lt_of_le h.ilt hb.size, (hb.cell (p := ⟨ib, 0, none⟩) h.ilt).trans h.icell, h.irow.on hb, fun p hp => ⟨Nat.lt_of_lt_of_le (h.inames p hp).1 hb.size, (hb.cell (p := ⟨p.b, 0, none⟩) (h.inames p hp).1).trans (h.inames p hp).2⟩, h.ifew, fun p hp => ⟨(hb.cell (p := ⟨p.b, 1, none⟩) (h.inames p hp).1).trans (h.erow p hp).1, (h.erow p hp).2.on hb⟩, fun p hp e he => (h.ents p hp e he).on hb⟩

/-- The choice is one of entries of the index. -/
def ChOf (packs : List CPack) (ch : List (Option CEnt)) : Prop := ∀ e, some e ∈ ch → ∃ p ∈ packs, e ∈ p.ents
theorem ChOf.set {packs : List CPack} {ch : List (Option CEnt)} (h : ChOf packs ch) (k : Nat) (o : Option CEnt) (ho : ∀ e, o = some e → ∃ p ∈ packs, e ∈ p.ents) : ChOf packs (ch.set k o) := fun e he => by
  rcases List.mem_or_eq_of_mem_set he with h1 | h1
  · exact h e h1
  · exact ho e h1.symm
theorem ChOf.take {packs : List CPack} {ch : List (Option CEnt)} (h : ChOf packs ch) (k : Nat) : ChOf packs (ch.take k) := fun e he => h e (List.mem_of_mem_take he)
theorem chD_set (ch : List (Option CEnt)) (k : Nat) (o : Option CEnt) : chD (ch.set k o) = (chD ch).set k (o.map CEnt.abs) := by unfold chD; rw [List.map_set]
theorem chD_take (ch : List (Option CEnt)) (k : Nat) : chD (ch.take k) = (chD ch).take k := by unfold chD; rw [List.map_take]
/-- A row of choices in a block of its own. -/
structure RowC (w1 : World) (cb : Nat) (ch : List (Option CEnt)) (w : World) : Prop where
  below : Below w1.heap.size w1 w
  cge : w1.heap.size ≤ cb
  clt : cb < w.heap.size
  cells : ∀ (i : Nat) (e : Option CEnt), ch[i]? = some e → w.cell? ⟨cb, i, none⟩ = some (entV e)
  frz : ∀ i, w.frozen? ⟨cb, i, none⟩ = false
theorem RowC.on {w1 w w' : World} {cb : Nat} {ch : List (Option CEnt)} (h : RowC w1 cb ch w) (hb : Below w.heap.size w w') : RowC w1 cb ch w' :=
  ⟨h.below.trans (hb.mono h.below.size), h.cge, Nat.lt_of_lt_of_le h.clt hb.size, fun i e he => (hb.cell (p := ⟨cb, i, none⟩) h.clt).trans (h.cells i e he), fun i => (hb.frozen (p := ⟨cb, i, none⟩) h.clt).trans (h.frz i)⟩
theorem RowC.put {w1 w : World} {cb k : Nat} {ch : List (Option CEnt)} (h : RowC w1 cb ch w) (o : Option CEnt) (hk : k < ch.length) : RowC w1 cb (ch.set k o) (w.setCell ⟨cb, k, none⟩ (entV o)) := by
  refine ⟨h.below.setCell (p := ⟨cb, k, none⟩) h.cge _, h.cge, by rw [World.size_setCell]; exact h.clt, fun i e he => ?_, fun i => by rw [World.frozen?_setCell]; exact h.frz i⟩
  rw [List.getElem?_set] at he
  by_cases hik : k = i
  · subst hik
    rw [if_pos rfl, if_pos hk] at he
    cases he
    exact World.cell?_setCell_same _ ⟨cb, k, none⟩ _ (h.cells k _ (List.getElem?_eq_getElem hk))
  · rw [if_neg hik] at he
    rw [World.cell?_setCell_other _ _ _ _ (fun e' => hik (by simpa using congrArg Addr.off e'))]
    exact h.cells i e he
theorem RowC.far {w1 w : World} {cb : Nat} {ch : List (Option CEnt)} {a : Addr} (h : RowC w1 cb ch w) (ha : w1.heap.size ≤ a.block) (hne : a.block ≠ cb) (u : Value) : RowC w1 cb ch (w.setCell a u) := by
  refine ⟨h.below.setCell (p := a) ha _, h.cge, by rw [World.size_setCell]; exact h.clt, fun i e he => ?_, fun i => by rw [World.frozen?_setCell]; exact h.frz i⟩
  rw [World.cell?_setCell_other _ _ _ _ (fun e' => hne (congrArg Addr.block e'))]
  exact h.cells i e he
theorem RowC.chAt {w1 w : World} {ib cb : Nat} {pv : Value} {packs : List CPack} {ch : List (Option CEnt)} (h : RowC w1 cb ch w) (hI : IxAt w1 ib pv packs) (hO : ChOf packs ch) (hl : ch.length ≤ 1000) : ChAt w ib pv packs cb ch := by
  have hi := hI.on h.below
  exact ⟨hi.ilt, hi.icell, hi.irow, hi.inames, hi.ifew, h.clt, h.cells, fun e he => by
    obtain ⟨p, hp, hep⟩ := hO e he
    exact hi.ents p hp e hep, hl⟩
theorem ChAt.take {w : World} {ib cb : Nat} {pv : Value} {packs : List CPack} {ch : List (Option CEnt)} (h : ChAt w ib pv packs cb ch) (k : Nat) : ChAt w ib pv packs cb (ch.take k) :=
  ⟨h.ilt, h.icell, h.irow, h.inames, h.ifew, h.clt, fun i e he => h.cells i e (by
    rw [List.getElem?_take] at he
    split at he
    · exact he
    · cases he), fun e he => h.ents e (List.mem_of_mem_take he), by have := h.few; rw [List.length_take]; omega⟩

/-- The search itself. -/
structure SeAt (w1 : World) (sb cb : Nat) (ib : Nat) (rv : Value) (ch : List (Option CEnt)) (w : World) : Prop where
  row : RowC w1 cb ch w
  sge : w1.heap.size ≤ sb
  slt : sb < w.heap.size
  ne : sb ≠ cb
  s0 : w.cell? ⟨sb, 0, none⟩ = some (ptrTo ib)
  s1 : w.cell? ⟨sb, 1, none⟩ = some rv
  s2 : w.cell? ⟨sb, 2, none⟩ = some (.slice (some ⟨cb, 0, none⟩) 2 2)
  s3 : ∃ a n c, w.cell? ⟨sb, 3, none⟩ = some (.slice a n c)
  sfrz : ∀ i, w.frozen? ⟨sb, i, none⟩ = false
  len : ch.length = 2
theorem SeAt.on {w1 w w' : World} {sb cb ib : Nat} {rv : Value} {ch : List (Option CEnt)} (h : SeAt w1 sb cb ib rv ch w) (hb : Below w.heap.size w w') : SeAt w1 sb cb ib rv ch w' :=
  ⟨h.row.on hb, h.sge, Nat.lt_of_lt_of_le h.slt hb.size, h.ne, (hb.cell (p := ⟨sb, 0, none⟩) h.slt).trans h.s0, (hb.cell (p := ⟨sb, 1, none⟩) h.slt).trans h.s1, (hb.cell (p := ⟨sb, 2, none⟩) h.slt).trans h.s2, by
    obtain ⟨a, n, c, h3⟩ := h.s3
    exact ⟨a, n, c, (hb.cell (p := ⟨sb, 3, none⟩) h.slt).trans h3⟩, fun i => (hb.frozen (p := ⟨sb, i, none⟩) h.slt).trans (h.sfrz i), h.len⟩
theorem SeAt.put {w1 w : World} {sb cb ib k : Nat} {rv : Value} {ch : List (Option CEnt)} (h : SeAt w1 sb cb ib rv ch w) (o : Option CEnt) (hk : k < 2) : SeAt w1 sb cb ib rv (ch.set k o) (w.setCell ⟨cb, k, none⟩ (entV o)) := by
  have hne : ∀ i, (⟨sb, i, none⟩ : Addr) ≠ ⟨cb, k, none⟩ := fun i e => h.ne (congrArg Addr.block e)
  have hc : ∀ i, (w.setCell ⟨cb, k, none⟩ (entV o)).cell? ⟨sb, i, none⟩ = w.cell? ⟨sb, i, none⟩ := fun i => World.cell?_setCell_other _ _ _ _ (hne i).symm
  refine ⟨h.row.put o (by rw [h.len]; exact hk), h.sge, by rw [World.size_setCell]; exact h.slt, h.ne, (hc 0).trans h.s0, (hc 1).trans h.s1, (hc 2).trans h.s2, ?_, fun i => by rw [World.frozen?_setCell]; exact h.sfrz i, by rw [List.length_set]; exact h.len⟩
  obtain ⟨a, n, c, h3⟩ := h.s3
  exact ⟨a, n, c, (hc 3).trans h3⟩
theorem SeAt.feat {w1 w : World} {sb cb ib : Nat} {rv : Value} {ch : List (Option CEnt)} (h : SeAt w1 sb cb ib rv ch w) (a : Option Addr) (n c : Nat) : SeAt w1 sb cb ib rv ch (w.setCell ⟨sb, 3, none⟩ (.slice a n c)) := by
  have hc : ∀ i, i ≠ 3 → (w.setCell ⟨sb, 3, none⟩ (.slice a n c)).cell? ⟨sb, i, none⟩ = w.cell? ⟨sb, i, none⟩ := fun i hi => World.cell?_setCell_other _ _ _ _ (fun e => hi (by simpa using (congrArg Addr.off e).symm))
  obtain ⟨a', n', c', h3⟩ := h.s3
  exact ⟨h.row.far (a := ⟨sb, 3, none⟩) h.sge h.ne _, h.sge, by rw [World.size_setCell]; exact h.slt, h.ne, (hc 0 (by omega)).trans h.s0, (hc 1 (by omega)).trans h.s1, (hc 2 (by omega)).trans h.s2, ⟨a, n, c, World.cell?_setCell_same _ ⟨sb, 3, none⟩ _ h3⟩, fun i => by rw [World.frozen?_setCell]; exact h.sfrz i, h.len⟩

/-- What the search answers, in plain. -/
structure DRes where
  ok : Bool
  ch : List (Option DEnt)
  st : FSt
  bad : Bool
def DRes.mark (r : DRes) : DRes := { r with bad := true }
def tryP (f : List (Option DEnt) → DRes) (place : Nat) : List (Option DEnt) → List (Option DEnt) → DRes
  | [], ch => ⟨false, ch, FSt.start, false⟩
  | o :: os, ch => if (f (ch.set place o)).bad = true ∨ (f (ch.set place o)).ok = true then f (ch.set place o) else tryP f place os (f (ch.set place o)).ch
def optsP (x y : DEnt) : List (Option DEnt) := if cmp3 x.v0 x.v1 x.v2 y.v0 y.v1 y.v2 < 0 then [none, some y, some x] else [none, some x, some y]
def decP (names : List (List UInt8)) (ds : List (List DEnt)) (qs : List DAsk) (gf : Nat) : Nat → Nat → List (Option DEnt) → DRes
  | 0, _, ch => ⟨false, ch, FSt.start, true⟩
  | n + 1, place, ch =>
    if place = 2 then
      if (gatherP names ch gf qs).bad = true then ⟨false, ch, FSt.start, true⟩
      else if ((gatherP names ch gf qs).wr || unwantedP (gatherP names ch gf qs) ch) = true then ⟨false, ch, FSt.start, false⟩
      else if featOk (gatherP names ch gf qs) ch = true then ⟨true, ch, gatherP names ch gf qs, false⟩ else ⟨false, ch, FSt.start, true⟩
    else
      if (gatherP names (ch.take place) gf qs).bad = true then ⟨false, ch, FSt.start, true⟩
      else if (gatherP names (ch.take place) gf qs).wr = true then ⟨false, ch, FSt.start, false⟩
      else match ds[place]? with
        | some [x, y] => tryP (decP names ds qs gf n (place + 1)) place (optsP x y) ch
        | _ => ⟨false, ch, FSt.start, true⟩

end Go.Proofs.YtnmclolbndohiaaGreatDoor
