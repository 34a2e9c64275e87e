/-
  The walks of what compares two facts.
-/
import Derived.Test.YtnmclolbndohiaaGreatDoorT40
import Derived.Deep.RegionHeld3
import Derived.Test.YtnmclolbndohiaaGreatDoorT09
import Derived.BigQuiet
import Derived.BigRegion
import Derived.Deep.RegionLaw
import Derived.WalkSmall
import Derived.Maps.OwnSet
namespace Go.Proofs.YtnmclolbndohiaaGreatDoor
open Go.RowKit
open Ver

def cmpN (x y : Int) : Int := if x < y then -1 else if y < x then 1 else 0
def cmpB (a b : ByteArray) : Int := if Op.bytesLess a.toList b.toList = true then -1 else if (a.toList == b.toList) = true then 0 else 1

set_option maxHeartbeats 400000 in
theorem isNaNK (x : Int) (w : World) : Calls Tryz.prog 255 #[.int .i64 x] w fun e w' => e = .returned (.bool false) ∧ w' = w := by
  go_enter Tryz.func255, Tryz.ntmps255
  go_wp2
  go_ret
  exact ⟨by simp, rfl⟩
set_option maxHeartbeats 400000 in
theorem isNaNS (x : ByteArray) (w : World) : Calls Tryz.prog 208 #[.string x] w fun e w' => e = .returned (.bool false) ∧ w' = w := by
  go_enter Tryz.func208, Tryz.ntmps208
  go_wp2
  go_ret
  exact ⟨by simp, rfl⟩

set_option maxHeartbeats 400000 in
theorem cmpK_any (x y : Int) (w : World) : Calls Tryz.prog 253 #[.int .i64 x, .int .i64 y] w fun e w' => e = .returned (.int .i64 (cmpN x y)) ∧ w' = w := by
  have HN : Hid (∀ (x : Int) (w : World), Calls Tryz.prog 255 #[.int .i64 x] w fun e w' => e = .returned (.bool false) ∧ w' = w) := isNaNK
  have hc : (x < y ∧ Hid (cmpN x y = -1)) ∨ (¬ x < y ∧ y < x ∧ Hid (cmpN x y = 1)) ∨ (¬ x < y ∧ ¬ y < x ∧ Hid (cmpN x y = 0)) := by
    unfold cmpN
    by_cases h1 : x < y
    · exact Or.inl ⟨h1, if_pos h1⟩
    · by_cases h2 : y < x
      · exact Or.inr (Or.inl ⟨h1, h2, by show _ = _; rw [if_neg h1, if_pos h2]⟩)
      · exact Or.inr (Or.inr ⟨h1, h2, by show _ = _; rw [if_neg h1, if_neg h2]⟩)
  rcases hc with ⟨h1, HE⟩ | ⟨h1, h2, HE⟩ | ⟨h1, h2, HE⟩
  all_goals (
    generalize cmpN x y = z at *
    go_enter Tryz.func253, Tryz.ntmps253
    go_wp2_with fail
    refine (HN.out _ _).mono ?_
    rintro e w1 ⟨rfl, rfl⟩
    go_wp2_with fail
    refine (HN.out _ _).mono ?_
    rintro e w1 ⟨rfl, rfl⟩
    go_wp2
    go_ret
    exact ⟨by rw [HE.out]; rfl, rfl⟩)

set_option maxHeartbeats 400000 in
theorem cmpS_any (x y : ByteArray) (w : World) : Calls Tryz.prog 254 #[.string x, .string y] w fun e w' => e = .returned (.int .i64 (cmpB x y)) ∧ w' = w := by
  have HN : Hid (∀ (x : ByteArray) (w : World), Calls Tryz.prog 208 #[.string x] w fun e w' => e = .returned (.bool false) ∧ w' = w) := isNaNS
  have hc : (Op.bytesLess x.toList y.toList = true ∧ Hid (cmpB x y = -1)) ∨ (Op.bytesLess x.toList y.toList = false ∧ (x.toList == y.toList) = false ∧ Hid (cmpB x y = 1)) ∨ (Op.bytesLess x.toList y.toList = false ∧ (x.toList == y.toList) = true ∧ Hid (cmpB x y = 0)) := by
    unfold cmpB
    cases h1 : Op.bytesLess x.toList y.toList
    · cases h2 : (x.toList == y.toList)
      · exact Or.inr (Or.inl ⟨rfl, rfl, by show _ = _; simp⟩)
      · exact Or.inr (Or.inr ⟨rfl, rfl, by show _ = _; simp⟩)
    · exact Or.inl ⟨rfl, by show _ = _; simp⟩
  rcases hc with ⟨h1, HE⟩ | ⟨h1, h2, HE⟩ | ⟨h1, h2, HE⟩
  all_goals (
    generalize cmpB x y = z at *
    go_enter Tryz.func254, Tryz.ntmps254
    go_wp2_with fail
    refine (HN.out _ _).mono ?_
    rintro e w1 ⟨rfl, rfl⟩
    go_wp2_with fail
    refine (HN.out _ _).mono ?_
    rintro e w1 ⟨rfl, rfl⟩
    go_wp2
    go_ret
    exact ⟨by rw [HE.out]; rfl, rfl⟩)

def orI (a b c : Int) : Int := if a = 0 then (if b = 0 then c else b) else a
set_option maxHeartbeats 800000 in
set_option maxRecDepth 100000 in
theorem or_any (g : Nat) (a b c : Int) (w : World) (h0 : w.cell? ⟨g, 0, none⟩ = some (.int .i64 a)) (h1 : w.cell? ⟨g, 1, none⟩ = some (.int .i64 b)) (h2 : w.cell? ⟨g, 2, none⟩ = some (.int .i64 c)) :
    Calls Tryz.prog 252 #[.slice (some ⟨g, 0, none⟩) 3 3] w fun e w' => e = .returned (.int .i64 (orI a b c)) ∧ w' = w := by
  have hc : ((a == 0) = false ∧ Hid (orI a b c = a)) ∨ ((a == 0) = true ∧ (b == 0) = false ∧ Hid (orI a b c = b)) ∨ ((a == 0) = true ∧ (b == 0) = true ∧ (c == 0) = false ∧ Hid (orI a b c = c)) ∨ ((a == 0) = true ∧ (b == 0) = true ∧ (c == 0) = true ∧ Hid (orI a b c = 0)) := by
    unfold orI
    by_cases ha : a = 0
    · by_cases hb : b = 0
      · by_cases hcc : c = 0
        · exact Or.inr (Or.inr (Or.inr ⟨by simpa using ha, by simpa using hb, by simpa using hcc, by show _ = _; rw [if_pos ha, if_pos hb]; exact hcc⟩))
        · exact Or.inr (Or.inr (Or.inl ⟨by simpa using ha, by simpa using hb, by simpa using hcc, by show _ = _; rw [if_pos ha, if_pos hb]⟩))
      · exact Or.inr (Or.inl ⟨by simpa using ha, by simpa using hb, by show _ = _; rw [if_pos ha, if_neg hb]⟩)
    · exact Or.inl ⟨by simpa using ha, by show _ = _; rw [if_neg ha]⟩
  rcases hc with ⟨k0, HE⟩ | ⟨k0, k1, HE⟩ | ⟨k0, k1, k2, HE⟩ | ⟨k0, k1, k2, HE⟩
  all_goals (
    generalize orI a b c = z at *
    go_enter Tryz.func252, Tryz.ntmps252
    go_wp2
    refine wp_loop_rounds 4 ?_
    rw [rounds_succ]
    go_wp2
    try (rw [rounds_succ]; go_wp2)
    try (rw [rounds_succ]; go_wp2)
    try (rw [rounds_succ]; go_wp2)
    go_ret
    exact ⟨by rw [HE.out]; rfl, rfl⟩)

structure Fact where
  kind : Int
  place : Int
  name : ByteArray
def Fact.val (f : Fact) : Value := .agg #[.int .i64 f.kind, .int .i64 f.place, .string f.name]
def Fact.cells (f : Fact) : List Value := [.int .i64 f.kind, .int .i64 f.place, .string f.name]
theorem Fact.len (f : Fact) : f.cells.length = 3 := rfl
def Fact.cmp (f g : Fact) : Int := orI (cmpN f.kind g.kind) (cmpI f.place g.place) (cmpB f.name g.name)

set_option maxHeartbeats 3200000 in
set_option maxRecDepth 100000 in
theorem fcmp_any (f g : Fact) (w : World) : Calls Tryz.prog 251 #[f.val, g.val] w fun e w' => e = .returned (.int .i64 (f.cmp g)) ∧ Below w.heap.size w w' := by
  have HK : Hid (∀ (x y : Int) (w : World), Calls Tryz.prog 253 #[.int .i64 x, .int .i64 y] w fun e w' => e = .returned (.int .i64 (cmpN x y)) ∧ w' = w) := cmpK_any
  have HI : Hid (∀ (x y : Int) (w : World), Calls Tryz.prog 122 #[.int .i64 x, .int .i64 y] w fun e w' => e = .returned (.int .i64 (cmpI x y)) ∧ w' = w) := cmp_any
  have HSx : Hid (∀ (x y : ByteArray) (w : World), Calls Tryz.prog 254 #[.string x, .string y] w fun e w' => e = .returned (.int .i64 (cmpB x y)) ∧ w' = w) := cmpS_any
  have HOR : Hid (∀ (gb : Nat) (w : World), w.cell? ⟨gb, 0, none⟩ = some (.int .i64 (cmpN f.kind g.kind)) → w.cell? ⟨gb, 1, none⟩ = some (.int .i64 (cmpI f.place g.place)) → w.cell? ⟨gb, 2, none⟩ = some (.int .i64 (cmpB f.name g.name)) → Calls Tryz.prog 252 #[.slice (some ⟨gb, 0, none⟩) 3 3] w fun e w' => e = .returned (.int .i64 (f.cmp g)) ∧ w' = w) := fun gb w h0 h1 h2 => or_any gb _ _ _ w h0 h1 h2
  obtain ⟨z, hz⟩ : ∃ z, f.cmp g = z := ⟨_, rfl⟩
  rw [hz] at HOR
  rw [hz]
  obtain ⟨fk, fp, fn⟩ := f
  obtain ⟨gk, gp, gn⟩ := g
  unfold Fact.val
  simp only at HOR ⊢
  clear hz
  go_enter Tryz.func251, Tryz.ntmps251
  go_wp2_with fail
  have q0 : ((w.alloc (Obj.cells #[.int .i64 fk, .int .i64 fp, .string fn] 216)).alloc (Obj.cells #[.int .i64 gk, .int .i64 gp, .string gn] 216)).cell? ⟨w.heap.size, 0, none⟩ = some (.int .i64 fk) := by simp
  go_region_held3 (fun w' => w'.cell? ⟨w.heap.size, 0, none⟩ = some (.int .i64 fk) ∧ w'.cell? ⟨w.heap.size, 1, none⟩ = some (.int .i64 fp) ∧ w'.cell? ⟨w.heap.size, 2, none⟩ = some (.string fn) ∧ w'.cell? ⟨w.heap.size + 1, 0, none⟩ = some (.int .i64 gk) ∧ w'.cell? ⟨w.heap.size + 1, 1, none⟩ = some (.int .i64 gp) ∧ w'.cell? ⟨w.heap.size + 1, 2, none⟩ = some (.string gn)) (go_keep) (first | (go_at_call 253; refine (HK.out _ _ _).mono ?_; rintro e w3 ⟨rfl, rfl⟩) | (go_at_call 122; refine (HI.out _ _ _).mono ?_; rintro e w3 ⟨rfl, rfl⟩) | (go_at_call 254; refine (HSx.out _ _ _).mono ?_; rintro e w3 ⟨rfl, rfl⟩) | (go_at_call 252; refine Calls.mono (HOR.out _ _ ?_ ?_ ?_) ?_; (exact (World.cell?_alloc_at _ _ _ _ (by simp)).trans rfl); (exact (World.cell?_alloc_at _ _ _ _ (by simp)).trans rfl); (exact (World.cell?_alloc_at _ _ _ _ (by simp)).trans rfl); rintro e w3 ⟨rfl, rfl⟩))
  all_goals (try go_wp2)
  all_goals go_ret
  all_goals exact ⟨rfl, ((((Below.refl _ _).alloc (Nat.le_refl _) _).alloc (by simp) _).alloc (by simp; omega) _).drew⟩

end Go.Proofs.YtnmclolbndohiaaGreatDoor

/-
  The walks of the heap's own methods.
-/
namespace Go.Proofs.YtnmclolbndohiaaGreatDoor
open Go.RowKit
open Ver

set_option maxHeartbeats 400000 in
theorem tlen_any (a : Option Addr) (n cap : Nat) (w : World) : Calls Tryz.prog 97 #[.slice a n cap] w fun e w' => e = .returned (.int .i64 n) ∧ w' = w := by
  go_enter Tryz.func97, Tryz.ntmps97
  go_wp2
  go_ret
  exact ⟨rfl, rfl⟩

set_option maxHeartbeats 1600000 in
set_option maxRecDepth 100000 in
theorem tless_any (g n cap i j : Nat) (x y : Fact) (w : World) (hi : i < n) (hj : j < n) (hg : g < w.heap.size) (hx : ∀ o, o < 3 → w.cell? ⟨g, i * 3 + o, none⟩ = x.cells[o]?) (hy : ∀ o, o < 3 → w.cell? ⟨g, j * 3 + o, none⟩ = y.cells[o]?) :
    Calls Tryz.prog 249 #[.slice (some ⟨g, 0, none⟩) n cap, .int .i64 i, .int .i64 j] w fun e w' => e = .returned (.bool (decide (x.cmp y < 0))) ∧ Below w.heap.size w w' := by
  have HC : Hid (∀ W : World, Calls Tryz.prog 251 #[x.val, y.val] W fun e w' => e = .returned (.int .i64 (x.cmp y)) ∧ Below W.heap.size W w') := fcmp_any x y
  generalize x.cmp y = z at *
  have x0 := hx 0 (by omega)
  have x1 := hx 1 (by omega)
  have x2 := hx 2 (by omega)
  have y0 := hy 0 (by omega)
  have y1 := hy 1 (by omega)
  have y2 := hy 2 (by omega)
  simp only [Fact.cells, List.getElem?_cons_zero, List.getElem?_cons_succ, Nat.add_zero] at x0 x1 x2 y0 y1 y2
  obtain ⟨xk, xp, xn⟩ := x
  obtain ⟨yk, yp, yn⟩ := y
  unfold Fact.val at HC
  simp only at HC x0 x1 x2 y0 y1 y2
  clear hx hy
  go_enter Tryz.func249, Tryz.ntmps249
  go_wp2_with fail
  have i0 : (0 : Int) ≤ (i : Int) := by omega
  have i1 : (i : Int) < (n : Int) := by omega
  have k0 : (0 : Int) ≤ (j : Int) := by omega
  have k1 : (j : Int) < (n : Int) := by omega
  have q0 : ∀ w', Below w.heap.size w w' → w'.cell? ⟨g, i * 3, none⟩ = some (.int .i64 xk) := fun w' h => (h.cell (p := ⟨g, i * 3, none⟩) hg).trans x0
  have q1 : ∀ w', Below w.heap.size w w' → w'.cell? ⟨g, i * 3 + 1, none⟩ = some (.int .i64 xp) := fun w' h => (h.cell (p := ⟨g, i * 3 + 1, none⟩) hg).trans x1
  have q2 : ∀ w', Below w.heap.size w w' → w'.cell? ⟨g, i * 3 + 2, none⟩ = some (.string xn) := fun w' h => (h.cell (p := ⟨g, i * 3 + 2, none⟩) hg).trans x2
  have q3 : ∀ w', Below w.heap.size w w' → w'.cell? ⟨g, j * 3, none⟩ = some (.int .i64 yk) := fun w' h => (h.cell (p := ⟨g, j * 3, none⟩) hg).trans y0
  have q4 : ∀ w', Below w.heap.size w w' → w'.cell? ⟨g, j * 3 + 1, none⟩ = some (.int .i64 yp) := fun w' h => (h.cell (p := ⟨g, j * 3 + 1, none⟩) hg).trans y1
  have q5 : ∀ w', Below w.heap.size w w' → w'.cell? ⟨g, j * 3 + 2, none⟩ = some (.string yn) := fun w' h => (h.cell (p := ⟨g, j * 3 + 2, none⟩) hg).trans y2
  clear x0 x1 x2 y0 y1 y2
  refine wp_region_below (by kernel_rfl) (by kernel_rfl) ?_
  repeat (first
    | go_big_quiet_skip
    | (go_big_quiet_want; go_big_quiet_op; first
        | go_big_quiet_on
        | (apply Exists.intro; refine ⟨fun w' hw' => rfl, ?_⟩; go_big_quiet_on)
        | (apply Exists.intro; refine ⟨fun w' hw' => ?_, ?_⟩; (exact calls_below hw' (HC.out w')); go_big_quiet_on)
        | (apply Exists.intro; refine ⟨fun w' hw' => ?_, ?_⟩; (go_simp; rfl); go_big_quiet_on)))
  refine wpQuiet_nil ?_
  intro w2 hb2
  have HB2 : Hid (Below w.heap.size w w2) := hb2
  clear q0 q1 q2 q3 q4 q5 hb2 HC
  go_wp2
  go_ret
  exact ⟨rfl, HB2.out⟩

end Go.Proofs.YtnmclolbndohiaaGreatDoor

/-
  The walk of the heap's Swap.
-/
namespace Go.Proofs.YtnmclolbndohiaaGreatDoor
open Go.RowKit
open Ver

/-- Two facts of a row, exchanged. -/
def sw6 (w : World) (g i j : Nat) (x y : Fact) : World :=
  (((((w.setCell ⟨g, i * 3, none⟩ (.int .i64 y.kind)).setCell ⟨g, i * 3 + 1, none⟩ (.int .i64 y.place)).setCell ⟨g, i * 3 + 2, none⟩ (.string y.name)).setCell ⟨g, j * 3, none⟩ (.int .i64 x.kind)).setCell ⟨g, j * 3 + 1, none⟩ (.int .i64 x.place)).setCell ⟨g, j * 3 + 2, none⟩ (.string x.name)

theorem flat_set3 (fs : List Fact) (i : Nat) (y : Fact) (hi : i < fs.length) : (((fs.flatMap Fact.cells).set (i * 3) (.int .i64 y.kind)).set (i * 3 + 1) (.int .i64 y.place)).set (i * 3 + 2) (.string y.name) = (fs.set i y).flatMap Fact.cells := by
  have hl : ∀ l : List Fact, (l.flatMap Fact.cells).length = l.length * 3 := fun l => by
    induction l with
    | nil => rfl
    | cons a t ih => rw [List.flatMap_cons, List.length_append, ih, Fact.len, List.length_cons]; omega
  apply List.ext_getElem?
  intro k
  rcases Nat.lt_or_ge k (fs.length * 3) with hk | hk
  · obtain ⟨q, o, ho, rfl⟩ : ∃ q o, o < 3 ∧ k = q * 3 + o := ⟨k / 3, k % 3, Nat.mod_lt _ (by omega), by omega⟩
    have hq : q < fs.length := by omega
    have e1 : ((fs.set i y).flatMap Fact.cells)[q * 3 + o]? = ((if i = q then y else fs[q]).cells)[o]? := by
      have := flat_at Fact.cells 3 Fact.len (fs.set i y) q o (if i = q then y else fs[q]) (by rw [List.getElem?_set]; split <;> simp [*]) ho
      rw [Nat.mul_comm] at this; exact this
    have e2 : (fs.flatMap Fact.cells)[q * 3 + o]? = (fs[q].cells)[o]? := by
      have := flat_at Fact.cells 3 Fact.len fs q o fs[q] (by simp [hq]) ho
      rw [Nat.mul_comm] at this; exact this
    rw [e1, List.getElem?_set, List.getElem?_set, List.getElem?_set, e2]
    simp only [List.length_set, hl]
    by_cases hiq : i = q
    · subst hiq
      rw [if_pos rfl]
      match o, ho with
      | 0, _ => rw [if_neg (by omega), if_neg (by omega), if_pos (by omega), if_pos (by omega)]; rfl
      | 1, _ => rw [if_neg (by omega), if_pos (by omega), if_pos (by omega)]; rfl
      | 2, _ => rw [if_pos (by omega), if_pos (by omega)]; rfl
    · rw [if_neg hiq, if_neg (by omega), if_neg (by omega), if_neg (by omega)]
  · rw [List.getElem?_eq_none (by simp only [List.length_set, hl]; omega), List.getElem?_eq_none (by rw [hl, List.length_set]; omega)]

def tdRow (g n cap : Nat) (fs : List Fact) : Hold := ⟨216, 3, .slice (some ⟨g, 0, none⟩) n cap, n, fs.flatMap Fact.cells⟩
theorem swapForest {B g n cap i j : Nat} {fs : List Fact} {rs : List Hold} {w : World} {x y : Fact} (h : Forest B w (tdRow g n cap fs :: rs)) (hi : i < fs.length) (hj : j < fs.length) : Forest B (sw6 w g i j x y).drew (tdRow g n cap ((fs.set i y).set j x) :: rs) := by
  have h1 := (((((h.set (i * 3) (.int .i64 y.kind)).set (i * 3 + 1) (.int .i64 y.place)).set (i * 3 + 2) (.string y.name)).set (j * 3) (.int .i64 x.kind)).set (j * 3 + 1) (.int .i64 x.place)).set (j * 3 + 2) (.string x.name)
  rw [flat_set3 fs i y hi, flat_set3 (fs.set i y) j x (by rw [List.length_set]; exact hj)] at h1
  exact h1.drew

set_option maxHeartbeats 3200000 in
set_option maxRecDepth 100000 in
theorem tswap_any (g n cap i j : Nat) (x y : Fact) (w : World) (hi : i < n) (hj : j < n) (hx : ∀ o, o < 3 → w.cell? ⟨g, i * 3 + o, none⟩ = x.cells[o]?) (hy : ∀ o, o < 3 → w.cell? ⟨g, j * 3 + o, none⟩ = y.cells[o]?) (hf : ∀ o, w.frozen? ⟨g, o, none⟩ = false) :
    Calls Tryz.prog 250 #[.slice (some ⟨g, 0, none⟩) n cap, .int .i64 i, .int .i64 j] w fun e w' => e = .returned (.tuple #[]) ∧ w' = (sw6 w g i j x y).drew := by
  have x0 := hx 0 (by omega)
  have x1 := hx 1 (by omega)
  have x2 := hx 2 (by omega)
  have y0 := hy 0 (by omega)
  have y1 := hy 1 (by omega)
  have y2 := hy 2 (by omega)
  simp only [Fact.cells, List.getElem?_cons_zero, List.getElem?_cons_succ, Nat.add_zero] at x0 x1 x2 y0 y1 y2
  obtain ⟨xk, xp, xn⟩ := x
  obtain ⟨yk, yp, yn⟩ := y
  unfold sw6
  simp only at x0 x1 x2 y0 y1 y2 ⊢
  have i0 : (0 : Int) ≤ (i : Int) := by omega
  have i1 : (i : Int) < (n : Int) := by omega
  have k0 : (0 : Int) ≤ (j : Int) := by omega
  have k1 : (j : Int) < (n : Int) := by omega
  clear hx hy
  by_cases hij : i = j
  · subst hij
    obtain rfl : xk = yk := by simpa using x0.symm.trans y0
    obtain rfl : xp = yp := by simpa using x1.symm.trans y1
    obtain rfl : xn = yn := by simpa using x2.symm.trans y2
    clear y0 y1 y2
    go_enter Tryz.func250, Tryz.ntmps250
    go_region
    all_goals (
      go_end0
      exact ⟨rfl, rfl⟩)
  · have n00 : ¬ (j * 3 = i * 3) := by omega
    have m00 : ¬ (i * 3 = j * 3) := by omega
    have n01 : ¬ (j * 3 = i * 3 + 1) := by omega
    have m01 : ¬ (i * 3 + 1 = j * 3) := by omega
    have n02 : ¬ (j * 3 = i * 3 + 2) := by omega
    have m02 : ¬ (i * 3 + 2 = j * 3) := by omega
    have n10 : ¬ (j * 3 + 1 = i * 3) := by omega
    have m10 : ¬ (i * 3 = j * 3 + 1) := by omega
    have n11 : ¬ (j * 3 + 1 = i * 3 + 1) := by omega
    have m11 : ¬ (i * 3 + 1 = j * 3 + 1) := by omega
    have n12 : ¬ (j * 3 + 1 = i * 3 + 2) := by omega
    have m12 : ¬ (i * 3 + 2 = j * 3 + 1) := by omega
    have n20 : ¬ (j * 3 + 2 = i * 3) := by omega
    have m20 : ¬ (i * 3 = j * 3 + 2) := by omega
    have n21 : ¬ (j * 3 + 2 = i * 3 + 1) := by omega
    have m21 : ¬ (i * 3 + 1 = j * 3 + 2) := by omega
    have n22 : ¬ (j * 3 + 2 = i * 3 + 2) := by omega
    have m22 : ¬ (i * 3 + 2 = j * 3 + 2) := by omega
    go_enter Tryz.func250, Tryz.ntmps250
    go_region
    all_goals (
      go_end0
      exact ⟨rfl, rfl⟩)

end Go.Proofs.YtnmclolbndohiaaGreatDoor

/-
  The walks of the heap's Push and Pop.
-/
namespace Go.Proofs.YtnmclolbndohiaaGreatDoor
open Go.RowKit
open Ver
attribute [local go_sem ↓] Go.wp_at_zero Go.wp_at_succ

theorem Tryz.infoFact : (Tryz.prog.info? 216).map (fun i => (i.zero, i.size, i.bytes)) = some (some (.agg #[.int .i64 0, .int .i64 0, .string ByteArray.empty]), 3, 32) := by kernel_rfl

/-- One fact more in the row that the variable at ⟨tb, o⟩ holds. -/
def PushEnds (B tb o n rc : Nat) (ra : Option Addr) (fs : List Fact) (f : Fact) (w : World) (e : Ending) (w' : World) : Prop :=
  e = .returned (.tuple #[]) ∧ ∃ (gg cq : Nat) (wz w4 : World), Below w.heap.size w wz ∧ wz.grownBy w4 (Value.slice ra n rc).ownBlock ∧ ((Value.slice ra n rc).ownBlock = some gg ∨ wz.heap.size ≤ gg) ∧ w4.ownsRow B 216 3 (.slice (some ⟨gg, 0, none⟩) (n + 1) cq) (n + 1) (fs.flatMap Fact.cells ++ f.cells) ∧ w' = w4.setCell ⟨tb, o, none⟩ (.slice (some ⟨gg, 0, none⟩) (n + 1) cq)

set_option maxHeartbeats 1600000 in
set_option maxRecDepth 100000 in
theorem tpush_any (B tb o n rc : Nat) (ra : Option Addr) (fs : List Fact) (f : Fact) (w : World) (hn : n ≤ 1048576) (hB : B ≤ w.heap.size) (ht : tb < w.heap.size) (cc : w.cell? ⟨tb, o, none⟩ = some (.slice ra n rc)) (cf : w.frozen? ⟨tb, o, none⟩ = false) (ak : (Value.slice ra n rc).ownBlock ≠ some tb) (hown : w.ownsRow B 216 3 (.slice ra n rc) n (fs.flatMap Fact.cells)) :
    Calls Tryz.prog 261 #[.pointer (some ⟨tb, o, none⟩), .iface 216 f.val] w fun e w' => PushEnds B tb o n rc ra fs f w e w' := by
  obtain ⟨j0, hj0, hy0, hy1, hy2⟩ := info_parts Tryz.infoFact
  have HO : Hid (w.ownsRow B 216 3 (.slice ra n rc) n (fs.flatMap Fact.cells)) := hown
  obtain ⟨fk, fp, fn⟩ := f
  unfold Fact.val
  simp only
  have hta : ∀ (s : TypeId) (W : World), (Instr.typeAssert (.iface 216 (.agg #[.int .i64 fk, .int .i64 fp, .string fn])) s 216 false).run Tryz.prog W = .ok (.agg #[.int .i64 fk, .int .i64 fp, .string fn]) W := fun _ _ => by kernel_rfl
  clear hown
  go_enter Tryz.func261, Tryz.ntmps261
  go_wp2
  go_region_law (refine step_append_lies _ (by rfl) _ _ _ (by rfl) B 216 j0 _ 3 32 Tryz.underlying140 hj0 hy0 hy1 hy2 rfl (by omega) (.slice ra n rc) n (fs.flatMap Fact.cells) (by rfl) ((HO.out.alloc _).drew) ⟨w.heap.size, 0, none⟩ 1 1 [.int .i64 fk, .int .i64 fp, .string fn] (by rfl) (by rfl) (World.news_of_block (cs := #[.int .i64 fk, .int .i64 fp, .string fn]) (t := 216) (fr := (0, 0)) (heap_alloc_new w _)) (by simp [Value.oneCell']) (by omega) (by unfold maxLen; omega) (by omega) (by simp; omega) (w.heap.size + 1) (by simp) ?_; intro gg cq w4 hown1 hgrow hat hlt3; have hfz3 : w4.frozen? ⟨tb, o, none⟩ = false := (hgrow.frozen_far ⟨tb, o, none⟩ (by simp; omega) (Ne.symm ak)).trans ((World.frozen?_alloc_past _ _ _ ht).trans cf); have hc3 : w4.cell? ⟨tb, o, none⟩ = some (.slice ra n rc) := (hgrow.cell_far ⟨tb, o, none⟩ (by simp; omega) (Ne.symm ak)).trans ((World.cell?_alloc_past _ _ _ ht).trans cc))
  all_goals (
    have HG : Hid (Below w.heap.size w ((w.alloc (.cells #[.int .i64 fk, .int .i64 fp, .string fn] 216)).drew) ∧ ((w.alloc (.cells #[.int .i64 fk, .int .i64 fp, .string fn] 216)).drew).grownBy w4 (Value.slice ra n rc).ownBlock ∧ ((Value.slice ra n rc).ownBlock = some gg ∨ ((w.alloc (.cells #[.int .i64 fk, .int .i64 fp, .string fn] 216)).drew).heap.size ≤ gg) ∧ w4.ownsRow B 216 3 (.slice (some ⟨gg, 0, none⟩) (n + 1) cq) (n + 1) (fs.flatMap Fact.cells ++ [.int .i64 fk, .int .i64 fp, .string fn])) := ⟨((Below.refl _ _).alloc (Nat.le_refl _) _).drew, hgrow, hat.imp id (fun e => by rw [e]; simp), hown1⟩
    clear hown1 hgrow hat hlt3 hfz3 hc3 HO ak
    go_end0
    exact ⟨rfl, gg, cq, _, w4, HG.out.1, HG.out.2.1, HG.out.2.2.1, HG.out.2.2.2, rfl⟩)

set_option maxHeartbeats 1600000 in
set_option maxRecDepth 100000 in
theorem tpop_any (tb o n cap g : Nat) (f : Fact) (w : World) (hn : n + 1 ≤ 1048576) (ht : tb < w.heap.size) (hcap : n + 1 ≤ cap) (cc : w.cell? ⟨tb, o, none⟩ = some (.slice (some ⟨g, 0, none⟩) (n + 1) cap)) (cf : w.frozen? ⟨tb, o, none⟩ = false) (hf : ∀ q, q < 3 → w.cell? ⟨g, n * 3 + q, none⟩ = f.cells[q]?) :
    Calls Tryz.prog 260 #[.pointer (some ⟨tb, o, none⟩)] w fun e w' => e = .returned (.iface 216 f.val) ∧ ∃ X, w' = (w.setCell ⟨tb, o, none⟩ (.slice (some ⟨g, 0, none⟩) n cap)).alloc X := by
  have f0 := hf 0 (by omega)
  have f1 := hf 1 (by omega)
  have f2 := hf 2 (by omega)
  simp only [Fact.cells, List.getElem?_cons_zero, List.getElem?_cons_succ, Nat.add_zero] at f0 f1 f2
  obtain ⟨fk, fp, fn⟩ := f
  unfold Fact.val
  simp only at f0 f1 f2 ⊢
  clear hf
  go_enter Tryz.func260, Tryz.ntmps260
  go_wp2
  go_ret
  exact ⟨rfl, _, rfl⟩

end Go.Proofs.YtnmclolbndohiaaGreatDoor

/-
  The heap's methods, as the interface finds them.
-/
namespace Go.Proofs.YtnmclolbndohiaaGreatDoor
open Go.RowKit
open Ver

theorem info_bind {P : Program} {T : TypeId} {α : Type} {f : TypeInfo → Option α} {a : α} (h : (P.info? T).bind f = some a) : ∃ ti, P.info? T = some ti ∧ f ti = some a := by
  cases hi : P.info? T with
  | none => rw [hi] at h; cases h
  | some ti => rw [hi] at h; exact ⟨ti, rfl, h⟩

theorem rowOf (name : String) (f : FuncId) (pr : Bool) (h : ((Tryz.prog.info? 218).bind fun ti => (ti.methods.find? (fun x => x.name == name)).map fun m => (m.path.toList, m.func)) = some ([], some (f, pr))) (w : World) : ∃ ti m, (typeInfo 218).run Tryz.prog w = .ok ti w ∧ ti.methods.find? (fun x => x.name == name) = some m ∧ m.path.toList = [] ∧ m.func = some (f, pr) := by
  obtain ⟨ti, h1, h2⟩ := info_bind h
  cases hm : ti.methods.find? (fun x => x.name == name) with
  | none => rw [hm] at h2; cases h2
  | some m =>
    rw [hm] at h2
    simp only [Option.map_some, Option.some.injEq, Prod.mk.injEq] at h2
    exact ⟨ti, m, by simp [typeInfo, h1], hm, h2.1, h2.2⟩
theorem wrapNil (a : Addr) (w : World) (s : String) : (Builtin.ssaWrapNilChk_ #[218] 218 #[.pointer (some a), strVal "", strVal s]).run Tryz.prog w = .ok (.pointer (some a)) w := by kernel_rfl

theorem methodV (name : String) (f : FuncId) (hf : ((Tryz.prog.info? 218).bind fun ti => (ti.methods.find? (fun x => x.name == name)).map fun m => (m.path.toList, m.func)) = some ([], some (f, false))) (a : Addr) (ra : Option Addr) (n c : Nat) (w : World) (h : w.cell? a = some (.slice ra n c)) : (method 491 218 (.pointer (some a)) name).run Tryz.prog w = .ok (f, .slice ra n c) w := by
  obtain ⟨ti, m, h1, h2, h3, h5⟩ := rowOf name f false hf w
  have h4 : m.path.isEmpty = true := by rw [Array.isEmpty_iff]; exact Array.toList_eq_nil_iff.1 h3
  unfold method
  simp only [Sem.run_bind, h1, Result.andThen, h2, h3, h4, h5, follow, receiverAt]
  simp [underlying, Tryz.underlying218, Tryz.underlying140, Place.get, wrapNil, Result.andThen, asAddr, loadVar, isAgg, h]
theorem methodLen (a : Addr) (ra : Option Addr) (n c : Nat) (w : World) (h : w.cell? a = some (.slice ra n c)) : (method 491 218 (.pointer (some a)) "Len").run Tryz.prog w = .ok (97, .slice ra n c) w := methodV "Len" _ (by kernel_rfl) a ra n c w h
theorem methodLess (a : Addr) (ra : Option Addr) (n c : Nat) (w : World) (h : w.cell? a = some (.slice ra n c)) : (method 491 218 (.pointer (some a)) "Less").run Tryz.prog w = .ok (249, .slice ra n c) w := methodV "Less" _ (by kernel_rfl) a ra n c w h
theorem methodSwap (a : Addr) (ra : Option Addr) (n c : Nat) (w : World) (h : w.cell? a = some (.slice ra n c)) : (method 491 218 (.pointer (some a)) "Swap").run Tryz.prog w = .ok (250, .slice ra n c) w := methodV "Swap" _ (by kernel_rfl) a ra n c w h
theorem methodPush (a : Addr) (w : World) : (method 491 218 (.pointer (some a)) "Push").run Tryz.prog w = .ok (261, .pointer (some a)) w := by kernel_rfl
theorem methodPop (a : Addr) (w : World) : (method 491 218 (.pointer (some a)) "Pop").run Tryz.prog w = .ok (260, .pointer (some a)) w := by kernel_rfl

end Go.Proofs.YtnmclolbndohiaaGreatDoor

/-
  The walk of container/heap's up.
-/
namespace Go.Proofs.YtnmclolbndohiaaGreatDoor
open Go.RowKit
open Ver

/-- What 'up' does to a row, from place j on. -/
def upL : Nat → List Fact → Nat → List Fact
  | 0, fs, _ => fs
  | fuel + 1, fs, j => match fs[(j - 1) / 2]?, fs[j]? with
    | some x, some y => if (j - 1) / 2 = j ∨ 0 ≤ y.cmp x then fs else upL fuel ((fs.set ((j - 1) / 2) y).set j x) ((j - 1) / 2)
    | _, _ => fs

/-- The heap in memory: the variable at ⟨tb, o⟩ holds the row of the facts; rs are other rows, apart from it; c: what the variable's block holds. -/
structure TdAt (B tb o g n cap : Nat) (fs : List Fact) (rs : List Hold) (c : Nat → Option Value) (w : World) : Prop where
  forest : Forest B w (tdRow g n cap fs :: rs)
  len : fs.length = n
  cell : w.cell? ⟨tb, o, none⟩ = some (.slice (some ⟨g, 0, none⟩) n cap)
  lt : tb < w.heap.size
  ne : tb ≠ g
  cells : ∀ q, w.cell? ⟨tb, q, none⟩ = c q
  frz : ∀ q, w.frozen? ⟨tb, q, none⟩ = false
theorem TdAt.on {B tb o g n cap : Nat} {fs : List Fact} {rs : List Hold} {c : Nat → Option Value} {w w' : World} (h : TdAt B tb o g n cap fs rs c w) (hb : Below w.heap.size w w') : TdAt B tb o g n cap fs rs c w' :=
  ⟨h.forest.on hb, h.len, (hb.cell (p := ⟨tb, o, none⟩) h.lt).trans h.cell, Nat.lt_of_lt_of_le h.lt hb.size, h.ne, fun q => (hb.cell (p := ⟨tb, q, none⟩) h.lt).trans (h.cells q), fun q => (hb.frozen (p := ⟨tb, q, none⟩) h.lt).trans (h.frz q)⟩
theorem TdAt.glt {B tb o g n cap : Nat} {fs : List Fact} {rs : List Hold} {c : Nat → Option Value} {w : World} (h : TdAt B tb o g n cap fs rs c w) : B ≤ g ∧ g < w.heap.size := ((h.forest.own _ (List.mem_cons_self ..)).lt g rfl)
theorem TdAt.at {B tb o g n cap : Nat} {fs : List Fact} {rs : List Hold} {c : Nat → Option Value} {w : World} (h : TdAt B tb o g n cap fs rs c w) {i : Nat} {x : Fact} (hx : fs[i]? = some x) (q : Nat) (hq : q < 3) : w.cell? ⟨g, i * 3 + q, none⟩ = x.cells[q]? := by
  have ho : w.ownsRow B 216 3 (.slice (some ⟨g, 0, none⟩) n cap) n (fs.flatMap Fact.cells) := h.forest.own _ (List.mem_cons_self ..)
  obtain ⟨hi, _⟩ := List.getElem?_eq_some_iff.1 hx
  have hl := h.len
  rw [World.ownsRow.cellAt ho (i * 3 + q) (by omega)]
  have := flat_at Fact.cells 3 Fact.len fs i q x hx hq
  rw [Nat.mul_comm] at this; exact this
theorem TdAt.fz {B tb o g n cap : Nat} {fs : List Fact} {rs : List Hold} {c : Nat → Option Value} {w : World} (h : TdAt B tb o g n cap fs rs c w) (q : Nat) : w.frozen? ⟨g, q, none⟩ = false := by
  have ho : w.ownsRow B 216 3 (.slice (some ⟨g, 0, none⟩) n cap) n (fs.flatMap Fact.cells) := h.forest.own _ (List.mem_cons_self ..)
  exact ho.frozenAt _
theorem drew_cell (w : World) (a : Addr) : w.drew.cell? a = w.cell? a := rfl
theorem drew_fz (w : World) (a : Addr) : w.drew.frozen? a = w.frozen? a := rfl
theorem drew_size (w : World) : w.drew.heap.size = w.heap.size := rfl
theorem TdAt.swap {B tb o g n cap i j : Nat} {fs : List Fact} {rs : List Hold} {c : Nat → Option Value} {w : World} {x y : Fact} (h : TdAt B tb o g n cap fs rs c w) (hi : i < n) (hj : j < n) : TdAt B tb o g n cap ((fs.set i y).set j x) rs c (sw6 w g i j x y).drew where
  forest := swapForest h.forest (by rw [h.len]; exact hi) (by rw [h.len]; exact hj)
  len := by simp [h.len]
  cell := by
    have hb : ∀ q, (⟨g, q, none⟩ : Addr).block ≠ (⟨tb, o, none⟩ : Addr).block := fun _ => Ne.symm h.ne
    rw [drew_cell]
    unfold sw6
    rw [World.cell?_setCell_far _ _ _ _ (hb _), World.cell?_setCell_far _ _ _ _ (hb _), World.cell?_setCell_far _ _ _ _ (hb _), World.cell?_setCell_far _ _ _ _ (hb _), World.cell?_setCell_far _ _ _ _ (hb _), World.cell?_setCell_far _ _ _ _ (hb _)]
    exact h.cell
  lt := by
    rw [drew_size]
    unfold sw6
    simp only [World.size_setCell]
    exact h.lt
  ne := h.ne
  cells := fun q => by
    have hb : ∀ k, (⟨g, k, none⟩ : Addr).block ≠ (⟨tb, q, none⟩ : Addr).block := fun _ => Ne.symm h.ne
    rw [drew_cell]
    unfold sw6
    rw [World.cell?_setCell_far _ _ _ _ (hb _), World.cell?_setCell_far _ _ _ _ (hb _), World.cell?_setCell_far _ _ _ _ (hb _), World.cell?_setCell_far _ _ _ _ (hb _), World.cell?_setCell_far _ _ _ _ (hb _), World.cell?_setCell_far _ _ _ _ (hb _)]
    exact h.cells q
  frz := fun q => by
    rw [drew_fz]
    unfold sw6
    simp only [World.frozen?_setCell]
    exact h.frz q

theorem sw6_below {B g i j : Nat} {x y : Fact} {w0 w : World} (h : Below B w0 w) (hB : B ≤ g) : Below B w0 (sw6 w g i j x y) :=
  (((((h.setCell (p := ⟨g, i * 3, none⟩) hB _).setCell (p := ⟨g, i * 3 + 1, none⟩) hB _).setCell (p := ⟨g, i * 3 + 2, none⟩) hB _).setCell (p := ⟨g, j * 3, none⟩) hB _).setCell (p := ⟨g, j * 3 + 1, none⟩) hB _).setCell (p := ⟨g, j * 3 + 2, none⟩) hB _

set_option maxHeartbeats 3200000 in
set_option maxRecDepth 100000 in
theorem up_any (B tb o g n cap j0 : Nat) (fs : List Fact) (rs : List Hold) (c : Nat → Option Value) (w : World) (h : TdAt B tb o g n cap fs rs c w) (hj : j0 < n) (hn : n ≤ 1048576) (hB : B ≤ w.heap.size) :
    Calls Tryz.prog 202 #[.iface 218 (.pointer (some ⟨tb, o, none⟩)), .int .i64 j0] w fun e w' => e = .returned (.tuple #[]) ∧ TdAt B tb o g n cap (upL (j0 + 1) fs j0) rs c w' ∧ Below B w w' := by
  have HT : Hid (TdAt B tb o g n cap fs rs c w) := h
  generalize hR : upL (j0 + 1) fs j0 = RES at *
  have HR : Hid (RES = upL (j0 + 1) fs j0) := hR.symm
  clear hR h
  go_enter Tryz.func202, Tryz.ntmps202
  go_wp2
  go_loopw [1] (fun i wr => ∃ (j fuel : Nat) (fs' : List Fact), i = .int .i64 j ∧ j < n ∧ j + 1 ≤ fuel ∧ TdAt B tb o g n cap fs' rs c wr ∧ Below B w wr ∧ RES = upL fuel fs' j) (fun i _ => (intOf i).toNat)
  case atStart => exact ⟨j0, j0 + 1, fs, rfl, hj, Nat.le_refl _, HT.out, Below.refl _ _, HR.out⟩
  case round =>
    obtain ⟨j, fuel, fs', rfl, hjn, hfu, hat, hbw, hres⟩ := hrel
    obtain ⟨fl, rfl⟩ : ∃ f, fuel = f + 1 := ⟨fuel - 1, by omega⟩
    have HAT : Hid (TdAt B tb o g n cap fs' rs c wr) := hat
    have HBW : Hid (Below B w wr) := hbw
    obtain ⟨i, hi⟩ : ∃ i, (j - 1) / 2 = i := ⟨_, rfl⟩
    have hin : i < n := by omega
    have hq : Int.tdiv ((j : Int) - 1) 2 = (i : Int) := by
      rcases Nat.eq_zero_or_pos j with e | e
      · subst e; subst hi; rfl
      · have e1 : ((j : Int) - 1) = ((j - 1 : Nat) : Int) := by omega
        rw [e1, ← hi]; rfl
    have hlx : i < fs'.length := by rw [hat.len]; exact hin
    have hly : j < fs'.length := by rw [hat.len]; exact hjn
    obtain ⟨x, hx⟩ : ∃ x, fs'[i]? = some x := ⟨_, List.getElem?_eq_getElem hlx⟩
    obtain ⟨y, hy⟩ : ∃ y, fs'[j]? = some y := ⟨_, List.getElem?_eq_getElem hly⟩
    have HSTEP : Hid (RES = if i = j ∨ 0 ≤ y.cmp x then fs' else upL fl ((fs'.set i y).set j x) i) := by
      show _ = _
      rw [hres]
      conv => lhs; unfold upL
      rw [hi, hx, hy]
    have hml := fun w h => methodLess ⟨tb, o, none⟩ (some ⟨g, 0, none⟩) n cap w h
    have cc := hat.cell
    have hlt := hat.lt
    have HSW : Hid (∀ W : World, TdAt B tb o g n cap fs' rs c W → Calls Tryz.prog 250 #[.slice (some ⟨g, 0, none⟩) n cap, .int .i64 i, .int .i64 j] W fun e w' => e = .returned (.tuple #[]) ∧ w' = (sw6 W g i j x y).drew) := fun W hW => tswap_any g n cap i j x y W hin hjn (fun q hq => hW.at hx q hq) (fun q hq => hW.at hy q hq) hW.fz
    have hms := fun w h => methodSwap ⟨tb, o, none⟩ (some ⟨g, 0, none⟩) n cap w h
    have HLE : Hid (∀ W : World, TdAt B tb o g n cap fs' rs c W → Calls Tryz.prog 249 #[.slice (some ⟨g, 0, none⟩) n cap, .int .i64 j, .int .i64 i] W fun e w' => e = .returned (.bool (decide (y.cmp x < 0))) ∧ Below W.heap.size W w') := fun W hW => tless_any g n cap j i y x W hjn hin hW.glt.2 (fun q hq => hW.at hy q hq) (fun q hq => hW.at hx q hq)
    clear hat hbw hres hx hy hlx hly
    by_cases hij : i = j
    · have kij : ((i : Int) == (j : Int)) = true := by simp; omega
      have HE : Hid (RES = fs') := HSTEP.out.trans (if_pos (Or.inl hij))
      clear hij HSTEP HLE HSW hms hml hi
      go_wp2
      go_end0
      exact ⟨rfl, HE.out ▸ HAT.out, HBW.out⟩
    · have kij : ((i : Int) == (j : Int)) = false := by simp; omega
      have hjp : i < j := by omega
      go_wp2_with fail
      refine (HLE.out _ HAT.out).mono ?_
      rintro e w1 ⟨rfl, hb1⟩
      have HA1 : Hid (TdAt B tb o g n cap fs' rs c w1) := HAT.out.on hb1
      have hBr : B ≤ wr.heap.size := Nat.le_trans hB HBW.out.size
      have HB1 : Hid (Below B w w1) := HBW.out.trans (hb1.mono hBr)
      have cc1 := HA1.out.cell
      have hlt1 := HA1.out.lt
      clear hb1 cc hlt HLE hml
      by_cases hc : y.cmp x < 0
      · rw [decide_eq_true hc]
        have HE : Hid (RES = upL fl ((fs'.set i y).set j x) i) := HSTEP.out.trans (if_neg (fun h => h.elim hij (fun h => by omega)))
        clear HSTEP hc hij
        go_wp2_with fail
        refine (HSW.out _ HA1.out).mono ?_
        rintro e w2 ⟨rfl, hw2⟩
        have HA2 : Hid (TdAt B tb o g n cap ((fs'.set i y).set j x) rs c w2) := by
          show TdAt _ _ _ _ _ _ _ _ _ _
          rw [hw2]; exact HA1.out.swap hin hjn
        have HB2 : Hid (Below B w w2) := by
          show Below _ _ _
          rw [hw2]; exact (sw6_below HB1.out HA1.out.glt.1).drew
        clear hw2 HSW cc1 hlt1 hms
        go_wp2
        go_roundw
        case rel => exact ⟨i, fl, _, rfl, hin, by omega, HA2.out, HB2.out, HE.out⟩
        case measure => simp [intOf]; omega
      · rw [decide_eq_false hc]
        have HE : Hid (RES = fs') := HSTEP.out.trans (if_pos (Or.inr (by omega)))
        clear HSTEP hc hij HSW hms
        go_wp2
        go_end0
        exact ⟨rfl, HE.out ▸ HA1.out, HB1.out⟩

end Go.Proofs.YtnmclolbndohiaaGreatDoor

/-
  The walk of container/heap's down.
-/
namespace Go.Proofs.YtnmclolbndohiaaGreatDoor
open Go.RowKit
open Ver

/-- The lesser of the two below place i, among the first n: its place. -/
def kid (fs : List Fact) (i n : Nat) : Nat := match fs[2 * i + 2]?, fs[2 * i + 1]? with
  | some b, some a => if 2 * i + 2 < n ∧ b.cmp a < 0 then 2 * i + 2 else 2 * i + 1
  | _, _ => 2 * i + 1
/-- What 'down' does to a row, from place i on, of its first n facts. -/
def downL : Nat → List Fact → Nat → Nat → List Fact
  | 0, fs, _, _ => fs
  | fuel + 1, fs, i, n => if n ≤ 2 * i + 1 then fs else match fs[i]?, fs[kid fs i n]? with
    | some x, some y => if 0 ≤ y.cmp x then fs else downL fuel ((fs.set i y).set (kid fs i n) x) (kid fs i n) n
    | _, _ => fs

set_option maxHeartbeats 3200000 in
set_option maxRecDepth 100000 in
theorem down_any (B tb o g N cap i0 n : Nat) (fs : List Fact) (rs : List Hold) (c : Nat → Option Value) (w : World) (h : TdAt B tb o g N cap fs rs c w) (hi : i0 ≤ N) (hnN : n ≤ N) (hn : N ≤ 1048576) (hB : B ≤ w.heap.size) :
    Calls Tryz.prog 145 #[.iface 218 (.pointer (some ⟨tb, o, none⟩)), .int .i64 i0, .int .i64 n] w fun e w' => (∃ b, e = .returned (.bool b)) ∧ TdAt B tb o g N cap (downL (n + 1 - i0) fs i0 n) rs c w' ∧ Below B w w' := by
  have HT : Hid (TdAt B tb o g N cap fs rs c w) := h
  generalize hR : downL (n + 1 - i0) fs i0 n = RES at *
  have HR : Hid (RES = downL (n + 1 - i0) fs i0 n) := hR.symm
  clear hR h
  go_enter Tryz.func145, Tryz.ntmps145
  go_wp2
  go_loopw [7] (fun v wr => ∃ (i fuel : Nat) (fs' : List Fact), v = .int .i64 i ∧ i ≤ N ∧ n + 1 ≤ fuel + i ∧ TdAt B tb o g N cap fs' rs c wr ∧ Below B w wr ∧ RES = downL fuel fs' i n) (fun v _ => n + 1 - (intOf v).toNat)
  case atStart => exact ⟨i0, n + 1 - i0, fs, rfl, hi, by omega, HT.out, Below.refl _ _, HR.out⟩
  case round =>
    obtain ⟨i, fuel, fs', rfl, hiN, hfu, hat, hbw, hres⟩ := hrel
    have HAT : Hid (TdAt B tb o g N cap fs' rs c wr) := hat
    have HBW : Hid (Below B w wr) := hbw
    by_cases hend : n ≤ 2 * i + 1
    · have HE : Hid (RES = fs') := by
        show _ = _
        rw [hres]
        cases fuel with
        | zero => rfl
        | succ f => unfold downL; rw [if_pos hend]
      have k1 : (n : Int) ≤ 2 * (i : Int) + 1 := by omega
      clear hat hbw hres hend hfu
      go_wp2
      go_ret
      exact ⟨⟨_, rfl⟩, HE.out ▸ HAT.out, HBW.out⟩
    · obtain ⟨fl, rfl⟩ : ∃ f, fuel = f + 1 := ⟨fuel - 1, by omega⟩
      have HRS : Hid (RES = downL (fl + 1) fs' i n) := hres
      have k1 : ¬ (n : Int) ≤ 2 * (i : Int) + 1 := by omega
      have k2 : ¬ 2 * (i : Int) + 1 < 0 := by omega
      have hlen := hat.len
      obtain ⟨x, hx⟩ : ∃ x, fs'[i]? = some x := ⟨_, List.getElem?_eq_getElem (by omega)⟩
      obtain ⟨a, ha⟩ : ∃ x, fs'[2 * i + 1]? = some x := ⟨_, List.getElem?_eq_getElem (by omega)⟩
      have HX : Hid (fs'[i]? = some x) := hx
      have HLN : Hid (fs'.length = N) := hlen
      have hml := fun w h => methodLess ⟨tb, o, none⟩ (some ⟨g, 0, none⟩) N cap w h
      have hms := fun w h => methodSwap ⟨tb, o, none⟩ (some ⟨g, 0, none⟩) N cap w h
      have cc := hat.cell
      have hlt := hat.lt
      clear hbw hres hx hlen
      by_cases h2 : 2 * i + 2 < n
      · obtain ⟨b, hb⟩ : ∃ x, fs'[2 * i + 2]? = some x := ⟨_, List.getElem?_eq_getElem (by have := HLN.out; omega)⟩
        have k3 : 2 * (i : Int) + 1 + 1 < (n : Int) := by omega
        have HLE1 : Hid (∀ W : World, TdAt B tb o g N cap fs' rs c W → Calls Tryz.prog 249 #[.slice (some ⟨g, 0, none⟩) N cap, .int .i64 (2 * (i : Int) + 1 + 1), .int .i64 (2 * (i : Int) + 1)] W fun e w' => e = .returned (.bool (decide (b.cmp a < 0))) ∧ Below W.heap.size W w') := fun W hW => by
          have := tless_any g N cap (2 * i + 2) (2 * i + 1) b a W (by omega) (by omega) hW.glt.2 (fun q hq => hW.at hb q hq) (fun q hq => hW.at ha q hq)
          have e1 : ((2 * i + 2 : Nat) : Int) = 2 * (i : Int) + 1 + 1 := by push_cast; omega
          have e2 : ((2 * i + 1 : Nat) : Int) = 2 * (i : Int) + 1 := by push_cast; omega
          rw [e1, e2] at this
          exact this
        have hk : kid fs' i n = if 2 * i + 2 < n ∧ b.cmp a < 0 then 2 * i + 2 else 2 * i + 1 := by unfold kid; rw [hb, ha]
        have HK : Hid (kid fs' i n = if 2 * i + 2 < n ∧ b.cmp a < 0 then 2 * i + 2 else 2 * i + 1) := hk
        have HBb : Hid (fs'[2 * i + 2]? = some b) := hb
        have HAa : Hid (fs'[2 * i + 1]? = some a) := ha
        clear hat hb ha hk
        go_wp2_with fail
        refine (HLE1.out _ HAT.out).mono ?_
        rintro e w1 ⟨rfl, hb1⟩
        have HA1 : Hid (TdAt B tb o g N cap fs' rs c w1) := HAT.out.on hb1
        have HB1 : Hid (Below B w w1) := HBW.out.trans (hb1.mono (Nat.le_trans hB HBW.out.size))
        clear hb1 HLE1 cc hlt
        by_cases hba : b.cmp a < 0
        · rw [decide_eq_true hba]
          have hkid : kid fs' i n = 2 * i + 2 := HK.out.trans (if_pos ⟨h2, hba⟩)
          have HY : Hid (fs'[2 * i + 2]? = some b) := HBb.out
          clear HK hba HBb HAa
          generalize b = y at *
          have HJ : Hid (kid fs' i n = 2 * i + 2) := hkid
          clear hkid
          have HLE2 : Hid (∀ W : World, TdAt B tb o g N cap fs' rs c W → Calls Tryz.prog 249 #[.slice (some ⟨g, 0, none⟩) N cap, .int .i64 (2 * i + 2 : Nat), .int .i64 i] W fun e w' => e = .returned (.bool (decide (y.cmp x < 0))) ∧ Below W.heap.size W w') := fun W hW => tless_any g N cap (2 * i + 2) i y x W (by omega) (by omega) hW.glt.2 (fun q hq => hW.at HY.out q hq) (fun q hq => hW.at HX.out q hq)
          have HSW : Hid (∀ W : World, TdAt B tb o g N cap fs' rs c W → Calls Tryz.prog 250 #[.slice (some ⟨g, 0, none⟩) N cap, .int .i64 i, .int .i64 (2 * i + 2 : Nat)] W fun e w' => e = .returned (.tuple #[]) ∧ w' = (sw6 W g i (2 * i + 2) x y).drew) := fun W hW => tswap_any g N cap i (2 * i + 2) x y W (by omega) (by omega) (fun q hq => hW.at HX.out q hq) (fun q hq => hW.at HY.out q hq) hW.fz
          have HSTEP : Hid (RES = if 0 ≤ y.cmp x then fs' else downL fl ((fs'.set i y).set (2 * i + 2) x) (2 * i + 2) n) := by
            show _ = _
            rw [HRS.out]
            conv => lhs; unfold downL
            rw [if_neg (by omega), HJ.out, HX.out, HY.out]
          push_cast at HLE2 HSW
          have cc1 := HA1.out.cell
          have hlt1 := HA1.out.lt
          go_wp2_with fail
          refine (HLE2.out _ HA1.out).mono ?_
          rintro e w2 ⟨rfl, hb2⟩
          have HA2 : Hid (TdAt B tb o g N cap fs' rs c w2) := HA1.out.on hb2
          have HB2 : Hid (Below B w w2) := HB1.out.trans (hb2.mono (Nat.le_trans hB HB1.out.size))
          have cc2 := HA2.out.cell
          have hlt2 := HA2.out.lt
          clear hb2 HLE2 cc1 hlt1
          by_cases hc : y.cmp x < 0
          · rw [decide_eq_true hc]
            have HE : Hid (RES = downL fl ((fs'.set i y).set (2 * i + 2) x) (2 * i + 2) n) := HSTEP.out.trans (if_neg (by omega))
            clear HSTEP hc HRS
            go_wp2_with fail
            refine (HSW.out _ HA2.out).mono ?_
            rintro e w3 ⟨rfl, hw3⟩
            have HA3 : Hid (TdAt B tb o g N cap ((fs'.set i y).set (2 * i + 2) x) rs c w3) := by
              show TdAt _ _ _ _ _ _ _ _ _ _
              rw [hw3]; exact HA2.out.swap (by omega) (by omega)
            have HB3 : Hid (Below B w w3) := by
              show Below _ _ _
              rw [hw3]; exact (sw6_below HB2.out HA2.out.glt.1).drew
            clear hw3 HSW cc2 hlt2 hms hml
            go_wp2
            go_roundw
            case rel => exact ⟨2 * i + 2, fl, _, by push_cast; rfl, by omega, by omega, HA3.out, HB3.out, HE.out⟩
            case measure => simp [intOf]; omega
          · rw [decide_eq_false hc]
            have HE : Hid (RES = fs') := HSTEP.out.trans (if_pos (by omega))
            clear HSTEP hc HSW hms hml HRS
            go_wp2
            go_ret
            exact ⟨⟨_, rfl⟩, HE.out ▸ HA2.out, HB2.out⟩
        · rw [decide_eq_false hba]
          have hkid : kid fs' i n = 2 * i + 1 := HK.out.trans (if_neg (fun h => hba h.2))
          have HY : Hid (fs'[2 * i + 1]? = some a) := HAa.out
          clear HK hba HBb HAa
          generalize a = y at *
          have HJ : Hid (kid fs' i n = 2 * i + 1) := hkid
          clear hkid
          have HLE2 : Hid (∀ W : World, TdAt B tb o g N cap fs' rs c W → Calls Tryz.prog 249 #[.slice (some ⟨g, 0, none⟩) N cap, .int .i64 (2 * i + 1 : Nat), .int .i64 i] W fun e w' => e = .returned (.bool (decide (y.cmp x < 0))) ∧ Below W.heap.size W w') := fun W hW => tless_any g N cap (2 * i + 1) i y x W (by omega) (by omega) hW.glt.2 (fun q hq => hW.at HY.out q hq) (fun q hq => hW.at HX.out q hq)
          have HSW : Hid (∀ W : World, TdAt B tb o g N cap fs' rs c W → Calls Tryz.prog 250 #[.slice (some ⟨g, 0, none⟩) N cap, .int .i64 i, .int .i64 (2 * i + 1 : Nat)] W fun e w' => e = .returned (.tuple #[]) ∧ w' = (sw6 W g i (2 * i + 1) x y).drew) := fun W hW => tswap_any g N cap i (2 * i + 1) x y W (by omega) (by omega) (fun q hq => hW.at HX.out q hq) (fun q hq => hW.at HY.out q hq) hW.fz
          have HSTEP : Hid (RES = if 0 ≤ y.cmp x then fs' else downL fl ((fs'.set i y).set (2 * i + 1) x) (2 * i + 1) n) := by
            show _ = _
            rw [HRS.out]
            conv => lhs; unfold downL
            rw [if_neg (by omega), HJ.out, HX.out, HY.out]
          push_cast at HLE2 HSW
          have cc1 := HA1.out.cell
          have hlt1 := HA1.out.lt
          go_wp2_with fail
          refine (HLE2.out _ HA1.out).mono ?_
          rintro e w2 ⟨rfl, hb2⟩
          have HA2 : Hid (TdAt B tb o g N cap fs' rs c w2) := HA1.out.on hb2
          have HB2 : Hid (Below B w w2) := HB1.out.trans (hb2.mono (Nat.le_trans hB HB1.out.size))
          have cc2 := HA2.out.cell
          have hlt2 := HA2.out.lt
          clear hb2 HLE2 cc1 hlt1
          by_cases hc : y.cmp x < 0
          · rw [decide_eq_true hc]
            have HE : Hid (RES = downL fl ((fs'.set i y).set (2 * i + 1) x) (2 * i + 1) n) := HSTEP.out.trans (if_neg (by omega))
            clear HSTEP hc HRS
            go_wp2_with fail
            refine (HSW.out _ HA2.out).mono ?_
            rintro e w3 ⟨rfl, hw3⟩
            have HA3 : Hid (TdAt B tb o g N cap ((fs'.set i y).set (2 * i + 1) x) rs c w3) := by
              show TdAt _ _ _ _ _ _ _ _ _ _
              rw [hw3]; exact HA2.out.swap (by omega) (by omega)
            have HB3 : Hid (Below B w w3) := by
              show Below _ _ _
              rw [hw3]; exact (sw6_below HB2.out HA2.out.glt.1).drew
            clear hw3 HSW cc2 hlt2 hms hml
            go_wp2
            go_roundw
            case rel => exact ⟨2 * i + 1, fl, _, by push_cast; rfl, by omega, by omega, HA3.out, HB3.out, HE.out⟩
            case measure => simp [intOf]; omega
          · rw [decide_eq_false hc]
            have HE : Hid (RES = fs') := HSTEP.out.trans (if_pos (by omega))
            clear HSTEP hc HSW hms hml HRS
            go_wp2
            go_ret
            exact ⟨⟨_, rfl⟩, HE.out ▸ HA2.out, HB2.out⟩
      · have k3 : ¬ 2 * (i : Int) + 1 + 1 < (n : Int) := by omega
        have hkid : kid fs' i n = 2 * i + 1 := by
          unfold kid
          split
          · rw [if_neg (fun h => h2 h.1)]
          · rfl
        have HY : Hid (fs'[2 * i + 1]? = some a) := ha
        clear hat ha cc hlt
        generalize a = y at *
        have HJ : Hid (kid fs' i n = 2 * i + 1) := hkid
        clear hkid
        have HLE2 : Hid (∀ W : World, TdAt B tb o g N cap fs' rs c W → Calls Tryz.prog 249 #[.slice (some ⟨g, 0, none⟩) N cap, .int .i64 (2 * i + 1 : Nat), .int .i64 i] W fun e w' => e = .returned (.bool (decide (y.cmp x < 0))) ∧ Below W.heap.size W w') := fun W hW => tless_any g N cap (2 * i + 1) i y x W (by omega) (by omega) hW.glt.2 (fun q hq => hW.at HY.out q hq) (fun q hq => hW.at HX.out q hq)
        have HSW : Hid (∀ W : World, TdAt B tb o g N cap fs' rs c W → Calls Tryz.prog 250 #[.slice (some ⟨g, 0, none⟩) N cap, .int .i64 i, .int .i64 (2 * i + 1 : Nat)] W fun e w' => e = .returned (.tuple #[]) ∧ w' = (sw6 W g i (2 * i + 1) x y).drew) := fun W hW => tswap_any g N cap i (2 * i + 1) x y W (by omega) (by omega) (fun q hq => hW.at HX.out q hq) (fun q hq => hW.at HY.out q hq) hW.fz
        have HSTEP : Hid (RES = if 0 ≤ y.cmp x then fs' else downL fl ((fs'.set i y).set (2 * i + 1) x) (2 * i + 1) n) := by
          show _ = _
          rw [HRS.out]
          conv => lhs; unfold downL
          rw [if_neg (by omega), HJ.out, HX.out, HY.out]
        push_cast at HLE2 HSW
        have cc1 := HAT.out.cell
        have hlt1 := HAT.out.lt
        go_wp2_with fail
        refine (HLE2.out _ HAT.out).mono ?_
        rintro e w2 ⟨rfl, hb2⟩
        have HA2 : Hid (TdAt B tb o g N cap fs' rs c w2) := HAT.out.on hb2
        have HB2 : Hid (Below B w w2) := HBW.out.trans (hb2.mono (Nat.le_trans hB HBW.out.size))
        have cc2 := HA2.out.cell
        have hlt2 := HA2.out.lt
        clear hb2 HLE2 cc1 hlt1
        by_cases hc : y.cmp x < 0
        · rw [decide_eq_true hc]
          have HE : Hid (RES = downL fl ((fs'.set i y).set (2 * i + 1) x) (2 * i + 1) n) := HSTEP.out.trans (if_neg (by omega))
          clear HSTEP hc HRS
          go_wp2_with fail
          refine (HSW.out _ HA2.out).mono ?_
          rintro e w3 ⟨rfl, hw3⟩
          have HA3 : Hid (TdAt B tb o g N cap ((fs'.set i y).set (2 * i + 1) x) rs c w3) := by
            show TdAt _ _ _ _ _ _ _ _ _ _
            rw [hw3]; exact HA2.out.swap (by omega) (by omega)
          have HB3 : Hid (Below B w w3) := by
            show Below _ _ _
            rw [hw3]; exact (sw6_below HB2.out HA2.out.glt.1).drew
          clear hw3 HSW cc2 hlt2 hms hml
          go_wp2
          go_roundw
          case rel => exact ⟨2 * i + 1, fl, _, by push_cast; rfl, by omega, by omega, HA3.out, HB3.out, HE.out⟩
          case measure => simp [intOf]; omega
        · rw [decide_eq_false hc]
          have HE : Hid (RES = fs') := HSTEP.out.trans (if_pos (by omega))
          clear HSTEP hc HSW hms hml HRS
          go_wp2
          go_ret
          exact ⟨⟨_, rfl⟩, HE.out ▸ HA2.out, HB2.out⟩

end Go.Proofs.YtnmclolbndohiaaGreatDoor

/-
  The walks of container/heap's Push and Pop.
-/
namespace Go.Proofs.YtnmclolbndohiaaGreatDoor
open Go.RowKit
open Ver

/-- The heap in memory, empty or not. -/
structure TdV (B tb o n rc : Nat) (ra : Option Addr) (fs : List Fact) (rs : List Hold) (c : Nat → Option Value) (w : World) : Prop where
  forest : Forest B w (⟨216, 3, .slice ra n rc, n, fs.flatMap Fact.cells⟩ :: rs)
  len : fs.length = n
  is : c o = some (.slice ra n rc)
  lt : tb < w.heap.size
  ge : B ≤ tb
  ne : (Value.slice ra n rc).ownBlock ≠ some tb
  out : tb ∉ blocksOf rs
  cells : ∀ q, w.cell? ⟨tb, q, none⟩ = c q
  frz : ∀ q, w.frozen? ⟨tb, q, none⟩ = false
def putC (c : Nat → Option Value) (o : Nat) (v : Value) : Nat → Option Value := fun q => if q = o then some v else c q

/-- Behind Push: one fact more at the end. -/
theorem TdV.pushed {B tb o n rc : Nat} {ra : Option Addr} {fs : List Fact} {rs : List Hold} {c : Nat → Option Value} {w w' : World} {f : Fact} {e : Ending} (h : TdV B tb o n rc ra fs rs c w) (hB : B ≤ w.heap.size) (hp : PushEnds B tb o n rc ra fs f w e w') :
    e = .returned (.tuple #[]) ∧ ∃ gg cq, TdAt B tb o gg (n + 1) cq (fs ++ [f]) rs (putC c o (.slice (some ⟨gg, 0, none⟩) (n + 1) cq)) w' ∧ Below B w w' := by
  obtain ⟨he, gg, cq, wz, w4, hbz, hgrow, hat, hown, rfl⟩ := hp
  have hfa := h.forest.on hbz
  have hr : (tdRow gg (n + 1) cq (fs ++ [f])).own B w4 := by
    show w4.ownsRow _ _ _ _ _ _
    simp only [tdRow, List.flatMap_append, List.flatMap_cons, List.flatMap_nil, List.append_nil]
    exact hown
  have hf := hfa.grow hgrow hr (fun k hk => by
    have e : gg = k := by simpa [tdRow, Value.ownBlock] using hk
    subst e; exact hat)
  have hltz : tb < wz.heap.size := Nat.lt_of_lt_of_le h.lt hbz.size
  have hgt : tb ≠ gg := fun e => by
    rcases hat with h1 | h1
    · exact h.ne (by rw [h1, e])
    · omega
  have hfar : (⟨tb, o, none⟩ : Addr).block ∉ blocksOf (tdRow gg (n + 1) cq (fs ++ [f]) :: rs) := by
    rw [blocks_cons]
    simp only [tdRow, Value.ownBlock, Option.toList_some, List.mem_append, List.mem_singleton, not_or]
    exact ⟨hgt, h.out⟩
  have hcell : ∀ q, w4.cell? ⟨tb, q, none⟩ = c q := fun q => (hgrow.cell_far ⟨tb, q, none⟩ hltz (Ne.symm h.ne)).trans ((hbz.cell (p := ⟨tb, q, none⟩) h.lt).trans (h.cells q))
  have hcells : ∀ q, (w4.setCell ⟨tb, o, none⟩ (.slice (some ⟨gg, 0, none⟩) (n + 1) cq)).cell? ⟨tb, q, none⟩ = putC c o (.slice (some ⟨gg, 0, none⟩) (n + 1) cq) q := fun q => by
    unfold putC
    by_cases e : q = o
    · subst e
      rw [if_pos rfl]
      exact World.cell?_setCell_same w4 ⟨tb, q, none⟩ _ ((hcell q).trans h.is)
    · rw [if_neg e, World.cell?_setCell_other _ _ _ _ (fun e' => e (by simpa using (congrArg Addr.off e').symm))]
      exact hcell q
  refine ⟨he, gg, cq, ⟨hf.far hfar _, by simp [h.len], ?_, ?_, hgt, hcells, fun q => ?_⟩, ?_⟩
  · have := hcells o; unfold putC at this; rw [if_pos rfl] at this; exact this
  · rw [World.size_setCell]; exact Nat.lt_of_lt_of_le hltz hgrow.size
  · rw [World.frozen?_setCell]
    exact (hgrow.frozen_far ⟨tb, q, none⟩ hltz (Ne.symm h.ne)).trans ((hbz.frozen (p := ⟨tb, q, none⟩) h.lt).trans (h.frz q))
  · exact ((hbz.mono hB).grown hgrow (by have := hbz.size; omega) (fun j hj => ((h.forest.own _ (List.mem_cons_self ..)).lt j hj).1)).setCell (p := ⟨tb, o, none⟩) h.ge _

set_option maxHeartbeats 1600000 in
set_option maxRecDepth 100000 in
theorem hpush_any (B tb o n rc : Nat) (ra : Option Addr) (fs : List Fact) (rs : List Hold) (c : Nat → Option Value) (f : Fact) (w : World) (h : TdV B tb o n rc ra fs rs c w) (hn : n + 1 ≤ 1048576) (hB : B ≤ w.heap.size) :
    Calls Tryz.prog 165 #[.iface 218 (.pointer (some ⟨tb, o, none⟩)), .iface 216 f.val] w fun e w' => e = .returned (.tuple #[]) ∧ ∃ gg cq, TdAt B tb o gg (n + 1) cq (upL (n + 1) (fs ++ [f]) n) rs (putC c o (.slice (some ⟨gg, 0, none⟩) (n + 1) cq)) w' ∧ Below B w w' := by
  have HP : Hid (Calls Tryz.prog 261 #[.pointer (some ⟨tb, o, none⟩), .iface 216 f.val] w fun e w' => e = .returned (.tuple #[]) ∧ ∃ gg cq, TdAt B tb o gg (n + 1) cq (fs ++ [f]) rs (putC c o (.slice (some ⟨gg, 0, none⟩) (n + 1) cq)) w' ∧ Below B w w') := (tpush_any B tb o n rc ra fs f w (by omega) hB h.lt ((h.cells o).trans h.is) (h.frz o) h.ne (h.forest.own _ (List.mem_cons_self ..))).mono fun e w' hp => h.pushed hB hp
  have hmp := fun w => methodPush ⟨tb, o, none⟩ w
  have HLN : Hid (∀ (a : Option Addr) (n cap : Nat) (w : World), Calls Tryz.prog 97 #[.slice a n cap] w fun e w' => e = .returned (.int .i64 n) ∧ w' = w) := tlen_any
  clear h
  unfold Fact.val at *
  go_enter Tryz.func165, Tryz.ntmps165
  go_wp2_with fail
  refine Calls.mono HP.out ?_
  rintro e w1 ⟨rfl, gg, cq, hat, hb1⟩
  have HAT : Hid (TdAt B tb o gg (n + 1) cq (fs ++ [f]) rs (putC c o (.slice (some ⟨gg, 0, none⟩) (n + 1) cq)) w1) := hat
  have HB1 : Hid (Below B w w1) := hb1
  have cc := hat.cell
  have hlt := hat.lt
  have HUP : Hid (Calls Tryz.prog 202 #[.iface 218 (.pointer (some ⟨tb, o, none⟩)), .int .i64 n] w1 fun e w' => e = .returned (.tuple #[]) ∧ TdAt B tb o gg (n + 1) cq (upL (n + 1) (fs ++ [f]) n) rs (putC c o (.slice (some ⟨gg, 0, none⟩) (n + 1) cq)) w' ∧ Below B w1 w') := up_any B tb o gg (n + 1) cq n (fs ++ [f]) rs _ w1 hat (by omega) hn (Nat.le_trans hB hb1.size)
  have hml := fun w h => methodLen ⟨tb, o, none⟩ (some ⟨gg, 0, none⟩) (n + 1) cq w h
  clear hat hb1 HP hmp
  go_wp2_with fail
  refine (HLN.out _ _ _ _).mono ?_
  rintro e w2 ⟨rfl, rfl⟩
  clear HLN hml
  go_wp2_with fail
  refine Calls.mono HUP.out ?_
  rintro e w3 ⟨rfl, ha3, hb3⟩
  have HX : Hid (TdAt B tb o gg (n + 1) cq (upL (n + 1) (fs ++ [f]) n) rs (putC c o (.slice (some ⟨gg, 0, none⟩) (n + 1) cq)) w3 ∧ Below B w w3) := ⟨ha3, HB1.out.trans hb3⟩
  clear ha3 hb3 HUP HAT
  go_wp2
  go_end0
  exact ⟨rfl, gg, cq, HX.out.1, HX.out.2⟩

end Go.Proofs.YtnmclolbndohiaaGreatDoor

/-
  The walk of container/heap's Pop.
-/
namespace Go.Proofs.YtnmclolbndohiaaGreatDoor
open Go.RowKit
open Ver

/-- The row behind Pop's exchange and 'down'. -/
def popL (fs : List Fact) (n : Nat) : List Fact := match fs[0]?, fs[n]? with
  | some x, some y => downL (n + 1) ((fs.set 0 y).set n x) 0 n
  | _, _ => fs

theorem TdAt.popped {B tb o g n cap : Nat} {fs : List Fact} {rs : List Hold} {c : Nat → Option Value} {w : World} {f : Fact} {X : Obj} (h : TdAt B tb o g (n + 1) cap fs rs c w) (hf : fs[n]? = some f) (hB : B ≤ tb) (hout : tb ∉ blocksOf rs) :
    TdV B tb o n cap (some ⟨g, 0, none⟩) (fs.take n) rs (putC c o (.slice (some ⟨g, 0, none⟩) n cap)) ((w.setCell ⟨tb, o, none⟩ (.slice (some ⟨g, 0, none⟩) n cap)).alloc X) := by
  have hlen := h.len
  have hsp : fs = fs.take n ++ [f] := by
    obtain ⟨hn, e⟩ := List.getElem?_eq_some_iff.1 hf
    have h1 : fs.drop n = [f] := by
      rw [List.drop_eq_getElem_cons hn, e, List.drop_of_length_le (by omega)]
    rw [← h1, List.take_append_drop]
  have ho : w.ownsRow B 216 3 (.slice (some ⟨g, 0, none⟩) (n + 1) cap) (n + 1) (fs.flatMap Fact.cells) := h.forest.own _ (List.mem_cons_self ..)
  have hl3 : ∀ l : List Fact, (l.flatMap Fact.cells).length = l.length * 3 := fun l => by
    induction l with
    | nil => rfl
    | cons a t ih => rw [List.flatMap_cons, List.length_append, ih, Fact.len, List.length_cons]; omega
  have htl : (fs.take n).length = n := by rw [List.length_take]; omega
  have ho2 : (⟨216, 3, .slice (some ⟨g, 0, none⟩) n cap, n, (fs.take n).flatMap Fact.cells⟩ : Hold).own B w := by
    show w.ownsRow _ _ _ _ _ _
    rw [hsp, List.flatMap_append] at ho
    exact ownsRow_pop (by rw [hl3, htl]) ho
  have hf2 : Forest B w (⟨216, 3, .slice (some ⟨g, 0, none⟩) n cap, n, (fs.take n).flatMap Fact.cells⟩ :: rs) := h.forest.tail.cons ho2 (fun k hk => by
    have e : g = k := by simpa [Value.ownBlock] using hk
    subst e
    exact h.forest.alone (k := g) rfl)
  have hfar : (⟨tb, o, none⟩ : Addr).block ∉ blocksOf ((⟨216, 3, .slice (some ⟨g, 0, none⟩) n cap, n, (fs.take n).flatMap Fact.cells⟩ : Hold) :: rs) := by
    rw [blocks_cons]
    simp only [Value.ownBlock, Option.toList_some, List.mem_append, List.mem_singleton, not_or]
    exact ⟨h.ne, hout⟩
  have hlt2 : tb < (w.setCell ⟨tb, o, none⟩ (.slice (some ⟨g, 0, none⟩) n cap)).heap.size := by rw [World.size_setCell]; exact h.lt
  refine ⟨(hf2.far hfar _).alloc _, htl, ?_, ?_, hB, ?_, hout, fun q => ?_, fun q => ?_⟩
  · unfold putC; rw [if_pos rfl]
  · rw [World.size_alloc]; omega
  · simpa [Value.ownBlock] using Ne.symm h.ne
  · rw [World.cell?_alloc_past _ _ _ hlt2]
    unfold putC
    by_cases e : q = o
    · subst e
      rw [if_pos rfl]
      exact World.cell?_setCell_same w ⟨tb, q, none⟩ _ h.cell
    · rw [if_neg e, World.cell?_setCell_other _ _ _ _ (fun e' => e (by simpa using (congrArg Addr.off e').symm))]
      exact h.cells q
  · rw [World.frozen?_alloc_past _ _ _ hlt2, World.frozen?_setCell]
    exact h.frz q

set_option maxHeartbeats 1600000 in
set_option maxRecDepth 100000 in
theorem hpop_any (B tb o g n cap : Nat) (fs : List Fact) (rs : List Hold) (c : Nat → Option Value) (w : World) (h : TdAt B tb o g (n + 1) cap fs rs c w) (hn : n + 1 ≤ 1048576) (hcap : n + 1 ≤ cap) (hB : B ≤ w.heap.size) (hBt : B ≤ tb) (hout : tb ∉ blocksOf rs) :
    Calls Tryz.prog 99 #[.iface 218 (.pointer (some ⟨tb, o, none⟩))] w fun e w' => ∃ f, (popL fs n)[n]? = some f ∧ e = .returned (.iface 216 f.val) ∧ TdV B tb o n cap (some ⟨g, 0, none⟩) ((popL fs n).take n) rs (putC c o (.slice (some ⟨g, 0, none⟩) n cap)) w' ∧ Below B w w' := by
  have HT : Hid (TdAt B tb o g (n + 1) cap fs rs c w) := h
  have hlen := h.len
  obtain ⟨x, hx⟩ : ∃ x, fs[0]? = some x := ⟨_, List.getElem?_eq_getElem (by omega)⟩
  obtain ⟨y, hy⟩ : ∃ y, fs[n]? = some y := ⟨_, List.getElem?_eq_getElem (by omega)⟩
  have HPL : Hid (popL fs n = downL (n + 1) ((fs.set 0 y).set n x) 0 n) := by show _ = _; unfold popL; rw [hx, hy]
  have HLN : Hid (∀ (a : Option Addr) (n cap : Nat) (w : World), Calls Tryz.prog 97 #[.slice a n cap] w fun e w' => e = .returned (.int .i64 n) ∧ w' = w) := tlen_any
  have HSW : Hid (Calls Tryz.prog 250 #[.slice (some ⟨g, 0, none⟩) (n + 1) cap, .int .i64 0, .int .i64 n] w fun e w' => e = .returned (.tuple #[]) ∧ w' = (sw6 w g 0 n x y).drew) := tswap_any g (n + 1) cap 0 n x y w (by omega) (by omega) (fun q hq => h.at hx q hq) (fun q hq => h.at hy q hq) h.fz
  have hm1 := fun w h => methodLen ⟨tb, o, none⟩ (some ⟨g, 0, none⟩) (n + 1) cap w h
  have hm2 := fun w h => methodSwap ⟨tb, o, none⟩ (some ⟨g, 0, none⟩) (n + 1) cap w h
  have hm3 := fun w => methodPop ⟨tb, o, none⟩ w
  have cc := h.cell
  have hlt := h.lt
  generalize hP : popL fs n = PL at *
  clear h hx hy hP hlen
  go_enter Tryz.func99, Tryz.ntmps99
  go_wp2_with fail
  refine (HLN.out _ _ _ _).mono ?_
  rintro e w0 ⟨rfl, rfl⟩
  clear HLN hm1
  go_wp2_with fail
  refine Calls.mono HSW.out ?_
  rintro e w1 ⟨rfl, hw1⟩
  have HA1 : Hid (TdAt B tb o g (n + 1) cap ((fs.set 0 y).set n x) rs c w1) := by
    show TdAt _ _ _ _ _ _ _ _ _ _
    rw [hw1]; exact HT.out.swap (by omega) (by omega)
  have HB1 : Hid (Below B w0 w1) := by
    show Below _ _ _
    rw [hw1]; exact (sw6_below (Below.refl _ _) HT.out.glt.1).drew
  have HDN : Hid (Calls Tryz.prog 145 #[.iface 218 (.pointer (some ⟨tb, o, none⟩)), .int .i64 0, .int .i64 n] w1 fun e w' => (∃ b, e = .returned (.bool b)) ∧ TdAt B tb o g (n + 1) cap PL rs c w' ∧ Below B w1 w') := by
    have := down_any B tb o g (n + 1) cap 0 n ((fs.set 0 y).set n x) rs c w1 HA1.out (by omega) (by omega) hn (Nat.le_trans hB HB1.out.size)
    rw [Nat.sub_zero, ← HPL.out] at this
    exact this
  clear hw1 HSW hm2 cc hlt HPL HT
  go_wp2_with fail
  refine Calls.mono HDN.out ?_
  rintro e w2 ⟨⟨b, rfl⟩, ha2, hb2⟩
  have HA2 : Hid (TdAt B tb o g (n + 1) cap PL rs c w2) := ha2
  have HB2 : Hid (Below B w0 w2) := HB1.out.trans hb2
  obtain ⟨f, hf⟩ : ∃ f, PL[n]? = some f := ⟨_, List.getElem?_eq_getElem (by have := ha2.len; omega)⟩
  have HF : Hid (PL[n]? = some f) := hf
  have HPO : Hid (Calls Tryz.prog 260 #[.pointer (some ⟨tb, o, none⟩)] w2 fun e w' => e = .returned (.iface 216 f.val) ∧ ∃ X, w' = (w2.setCell ⟨tb, o, none⟩ (.slice (some ⟨g, 0, none⟩) n cap)).alloc X) := tpop_any tb o n cap g f w2 hn ha2.lt hcap ha2.cell (ha2.frz o) (fun q hq => ha2.at hf q hq)
  clear ha2 hb2 HDN hf HA1 HB1
  go_wp2_with fail
  refine Calls.mono HPO.out ?_
  rintro e w3 ⟨rfl, X, hw3⟩
  have HV : Hid (TdV B tb o n cap (some ⟨g, 0, none⟩) (PL.take n) rs (putC c o (.slice (some ⟨g, 0, none⟩) n cap)) w3) := by
    show TdV _ _ _ _ _ _ _ _ _ _
    rw [hw3]; exact HA2.out.popped HF.out hBt hout
  have HB3 : Hid (Below B w0 w3) := by
    show Below _ _ _
    rw [hw3]; exact (HB2.out.setCell (p := ⟨tb, o, none⟩) hBt _).alloc (by rw [World.size_setCell]; exact Nat.le_trans hB HB2.out.size) _
  clear hw3 HPO HA2 HB2 hm3
  unfold Fact.val
  go_wp2
  go_ret
  exact ⟨f, HF.out, rfl, HV.out, HB3.out⟩

end Go.Proofs.YtnmclolbndohiaaGreatDoor

/-
  What a fact reads as where it is a key.
-/
namespace Go.Proofs.YtnmclolbndohiaaGreatDoor
open Go.RowKit
open Go.Maps
open Ver

def Fact.okB (f : Fact) : Bool := decide (0 ≤ f.kind) && decide (f.kind ≤ 3) && decide (0 ≤ f.place) && decide (f.place ≤ 1000000) && decide (f.name.size ≤ 1000000)
def Fact.key (f : Fact) : Lit := .string (keyBytes [.int .i64 f.kind, .int .i64 f.place, .string f.name.data.toList])

theorem keyLits_int {P : Program} {n : Nat} {t : TypeId} {k : Int} (hu : P.underlying t = some (.int .i64)) (hw : (Lit.int .i64 k).wf = true) : P.keyLits (n + 1) t [.int .i64 k] = some [.int .i64 k] := by
  unfold Program.keyLits; rw [hu]; simp [hw]
theorem keyLits_str {P : Program} {n : Nat} {t : TypeId} {s : ByteArray} (hu : P.underlying t = some .string) (hw : s.size ≤ maxLen) : P.keyLits (n + 1) t [.string s] = some [.string s.data.toList] := by
  unfold Program.keyLits; rw [hu]; simp [hw]
theorem keyLits_struct3 {P : Program} {n : Nat} {t : TypeId} {a b c : Field} {x y z : Value} {lx ly lz : Lit} (hu : P.underlying t = some (.struct #[a, b, c])) (hc : P.cellsOf t = 3) (hn : #[a, b, c].all (·.name != "_") = true)
    (ha : P.cellsOf a.type = 1) (hb : P.cellsOf b.type = 1) (hc' : P.cellsOf c.type = 1) (oa : a.offset = 0) (ob : b.offset = 1) (oc : c.offset = 2)
    (h1 : P.keyLits n a.type [x] = some [lx]) (h2 : P.keyLits n b.type [y] = some [ly]) (h3 : P.keyLits n c.type [z] = some [lz]) : P.keyLits (n + 1) t [x, y, z] = some [lx, ly, lz] := by
  unfold Program.keyLits
  rw [hu]
  dsimp only
  rw [if_pos ⟨by rw [hc]; rfl, hn⟩]
  simp [ha, hb, hc', oa, ob, oc, h1, h2, h3]

set_option maxRecDepth 100000 in
theorem factKT : Tryz.prog.keyType 216 = true := by kernel_rfl
theorem factCells : Tryz.prog.cellsOf 216 = 3 := by kernel_rfl
theorem factC1 : Tryz.prog.cellsOf 214 = 1 := by kernel_rfl
theorem factC2 : Tryz.prog.cellsOf 3 = 1 := by kernel_rfl
theorem factC3 : Tryz.prog.cellsOf 9 = 1 := by kernel_rfl
theorem factTwo : 2 ≤ Tryz.prog.types.size := of_decide_eq_true (by kernel_rfl)
theorem factKey (f : Fact) (h : f.okB = true) : keyOf Tryz.prog 216 f.val = some f.key := by
  obtain ⟨k, p, nm⟩ := f
  unfold Fact.okB at h
  simp only [Bool.and_eq_true, decide_eq_true_eq] at h
  obtain ⟨⟨⟨⟨h1, h2⟩, h3⟩, h4⟩, h5⟩ := h
  have w1 : (Lit.int .i64 k).wf = true := WalkArith.wf_i64 (by omega)
  have w2 : (Lit.int .i64 p).wf = true := WalkArith.wf_i64 (by omega)
  have w3 : nm.size ≤ maxLen := by unfold maxLen; omega
  obtain ⟨n, hn⟩ : ∃ n, Tryz.prog.types.size = n + 1 := ⟨Tryz.prog.types.size - 1, by have := factTwo; omega⟩
  have hl : Tryz.prog.keyLits (Tryz.prog.types.size + 1) 216 [.int .i64 k, .int .i64 p, .string nm] = some [.int .i64 k, .int .i64 p, .string nm.data.toList] := by
    rw [hn]
    exact keyLits_struct3 Tryz.underlying216 factCells (by simp) factC1 factC2 factC3 rfl rfl rfl (keyLits_int Tryz.underlying214 w1) (keyLits_int Tryz.underlying3 w2) (keyLits_str Tryz.underlying9 w3)
  unfold keyOf Fact.val Fact.key
  rw [Tryz.underlying216]
  have hf : Value.formed Tryz.prog 216 (.agg #[.int .i64 k, .int .i64 p, .string nm]) = true := by
    unfold Value.formed; rw [Tryz.underlying216]; simp [factCells]
  simp only [factKT, hf, Bool.and_self, if_true]
  have hv : (Value.agg #[.int .i64 k, .int .i64 p, .string nm]).cells.toList = [.int .i64 k, .int .i64 p, .string nm] := rfl
  rw [hv, hl]; rfl

theorem unitZero (w : World) : (zeroValue 275).run Tryz.prog w = .ok (.agg #[]) w := by kernel_rfl

end Go.Proofs.YtnmclolbndohiaaGreatDoor
