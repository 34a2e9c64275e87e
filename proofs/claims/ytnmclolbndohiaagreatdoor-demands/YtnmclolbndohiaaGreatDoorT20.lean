/-
  slices.Sort of one text, or none: nothing is changed.
-/
import Derived.Test.YtnmclolbndohiaaGreatDoorT09
import Derived.Test.YtnmclolbndohiaaGreatDoorT03
import Derived.Test.YtnmclolbndohiaaGreatDoorT18
import Derived.BigRegion
import Derived.BigQuiet
import Derived.Deep.AppendLies
namespace Go.Proofs.YtnmclolbndohiaaGreatDoor
open Go.RowKit
open Ver

set_option maxHeartbeats 1600000 in
set_option maxRecDepth 100000 in
theorem len64_any (n : Nat) (w : World) (hn : n ≤ 2) : Calls Tryz.prog 181 #[.int .u64 n] w fun e w' => (∃ k : Int, e = .returned (.int .i64 k)) ∧ w' = w := by
  have : n = 0 ∨ n = 1 ∨ n = 2 := by omega
  rcases this with rfl | rfl | rfl
  all_goals (
    go_enter Tryz.func181, Tryz.ntmps181
    go_wp2
    go_ret
    exact ⟨⟨_, rfl⟩, rfl⟩)

set_option maxHeartbeats 1600000 in
set_option maxRecDepth 100000 in
theorem len_any (n : Nat) (w : World) (hn : n ≤ 2) : Calls Tryz.prog 147 #[.int .u64 n] w fun e w' => (∃ k : Int, e = .returned (.int .i64 k)) ∧ w' = w := by
  have HL : Hid (Calls Tryz.prog 181 #[.int .u64 n] w fun e w' => (∃ k : Int, e = .returned (.int .i64 k)) ∧ w' = w) := len64_any n w hn
  go_enter Tryz.func147, Tryz.ntmps147
  go_wp2_with fail
  refine Calls.mono HL.out ?_
  rintro e w1 ⟨⟨k, rfl⟩, rfl⟩
  clear HL
  go_wp2
  go_ret
  exact ⟨⟨_, rfl⟩, rfl⟩

set_option maxHeartbeats 1600000 in
set_option maxRecDepth 100000 in
theorem insS_small (sv : Value) (n : Nat) (w : World) (hn : n ≤ 1) : Calls Tryz.prog 171 #[sv, .int .i64 0, .int .i64 n] w fun e w' => e = .returned (.tuple #[]) ∧ w' = w := by
  have hk : ¬ (1 : Int) < (n : Int) := by omega
  clear hn
  go_enter Tryz.func171, Tryz.ntmps171
  go_wp2
  go_loopw [6] (fun i wr => i = .int .i64 1 ∧ wr = w) (fun _ _ => 0)
  case atStart => exact ⟨rfl, rfl⟩
  case round =>
    obtain ⟨rfl, hw⟩ := hrel
    obtain rfl : w = wr := hw.symm
    go_wp2
    go_end0
    exact ⟨rfl, rfl⟩

set_option maxHeartbeats 1600000 in
set_option maxRecDepth 100000 in
theorem pdqS_small (sv : Value) (n : Nat) (k : Int) (w : World) (hn : n ≤ 1) : Calls Tryz.prog 146 #[sv, .int .i64 0, .int .i64 n, .int .i64 k] w fun e w' => e = .returned (.tuple #[]) ∧ w' = w := by
  have HI : Hid (Calls Tryz.prog 171 #[sv, .int .i64 0, .int .i64 n] w fun e w' => e = .returned (.tuple #[]) ∧ w' = w) := insS_small sv n w hn
  have hk : (n : Int) ≤ 12 := by omega
  go_enter Tryz.func146, Tryz.ntmps146
  go_wp2
  go_loopw [1, 2] (fun i j wr => i = .int .i64 0 ∧ j = .int .i64 n ∧ wr = w) (fun _ _ _ => 0)
  case atStart => exact ⟨rfl, rfl, rfl⟩
  case round =>
    obtain ⟨rfl, rfl, hw⟩ := hrel
    obtain rfl : w = wr := hw.symm
    have k0 : IntKind.i64.wrap ((n : Int) - 0) = (n : Int) := by
      have : n = 0 ∨ n = 1 := by omega
      rcases this with rfl | rfl <;> rfl
    go_wp2_with fail
    refine Calls.mono HI.out ?_
    rintro e w1 ⟨rfl, hw1⟩
    obtain rfl : w = w1 := hw1.symm
    clear HI
    go_wp2
    exact bodyPost_ret (v := .tuple #[]) (by simp [results, Tryz.results146, go_sem]) rfl ⟨rfl, rfl⟩

set_option maxHeartbeats 1600000 in
set_option maxRecDepth 100000 in
theorem sortS_small (a : Option Addr) (n c : Nat) (w : World) (hn : n ≤ 1) : Calls Tryz.prog 101 #[.slice a n c] w fun e w' => e = .returned (.tuple #[]) ∧ w' = w := by
  have HL : Hid (Calls Tryz.prog 147 #[.int .u64 n] w fun e w' => (∃ k : Int, e = .returned (.int .i64 k)) ∧ w' = w) := len_any n w (by omega)
  have HP : Hid (∀ k, Calls Tryz.prog 146 #[.slice a n c, .int .i64 0, .int .i64 n, .int .i64 k] w fun e w' => e = .returned (.tuple #[]) ∧ w' = w) := fun k => pdqS_small _ n k w hn
  have hw : IntKind.u64.wrap (n : Int) = (n : Int) := by
    have : n = 0 ∨ n = 1 := by omega
    rcases this with rfl | rfl <;> rfl
  go_enter Tryz.func101, Tryz.ntmps101
  go_wp2_with fail
  refine Calls.mono HL.out ?_
  rintro e w1 ⟨⟨k, rfl⟩, hw1⟩
  obtain rfl : w = w1 := hw1.symm
  clear HL
  go_wp2_with fail
  refine Calls.mono (HP.out k) ?_
  rintro e w1 ⟨rfl, hw1⟩
  obtain rfl : w = w1 := hw1.symm
  clear HP
  go_wp2
  go_end0
  exact ⟨rfl, rfl⟩

end Go.Proofs.YtnmclolbndohiaaGreatDoor

/-
  best.options of a package of two versions: nothing, then the newer one, then the elder.
-/
namespace Go.Proofs.YtnmclolbndohiaaGreatDoor
open Go.RowKit
open Ver

/-- The version of an entry, as it lies in memory. -/
def VerAt (w : World) (b : Nat) (x0 x1 x2 : Int) : Prop := w.cell? ⟨b, 0, none⟩ = some (.int .i64 x0) ∧ w.cell? ⟨b, 1, none⟩ = some (.int .i64 x1) ∧ w.cell? ⟨b, 2, none⟩ = some (.int .i64 x2)
theorem VerAt.on {w w' : World} {b B : Nat} {x0 x1 x2 : Int} (h : VerAt w b x0 x1 x2) (hb : Below B w w') (hB : b < B) : VerAt w' b x0 x1 x2 :=
  ⟨(hb.cell (p := ⟨b, 0, none⟩) hB).trans h.1, (hb.cell (p := ⟨b, 1, none⟩) hB).trans h.2.1, (hb.cell (p := ⟨b, 2, none⟩) hB).trans h.2.2⟩

set_option maxHeartbeats 1600000 in
set_option maxRecDepth 100000 in
theorem opt1_any (a b : Nat) (x0 x1 x2 y0 y1 y2 : Int) (w : World) (ha : VerAt w a x0 x1 x2) (hb : VerAt w b y0 y1 y2) (la : a < w.heap.size) (lb : b < w.heap.size) :
    Calls Tryz.prog 131 #[ptrTo a, ptrTo b] w fun e w' => e = .returned (.int .i64 (cmp3 y0 y1 y2 x0 x1 x2)) ∧ Below w.heap.size w w' := by
  have HV : Hid (∀ w : World, Calls Tryz.prog 49 #[.agg #[.int .i64 y0, .int .i64 y1, .int .i64 y2], .agg #[.int .i64 x0, .int .i64 x1, .int .i64 x2]] w fun e w' => e = .returned (.int .i64 (cmp3 y0 y1 y2 x0 x1 x2)) ∧ Below w.heap.size w w') := fun w => vcompare_any _ _ _ _ _ _ w
  have HA : Hid (∀ w', Below w.heap.size w w' → VerAt w' a x0 x1 x2) := fun w' h => ha.on h la
  have HB : Hid (∀ w', Below w.heap.size w w' → VerAt w' b y0 y1 y2) := fun w' h => hb.on h lb
  generalize cmp3 y0 y1 y2 x0 x1 x2 = R at *
  clear ha hb
  unfold ptrTo
  go_enter Tryz.func131, Tryz.ntmps131
  go_wp2
  have q0 : ∀ w', Below w.heap.size w w' → w'.cell? ⟨a, 0, none⟩ = some (.int .i64 x0) := fun w' h => (HA.out w' h).1
  have q1 : ∀ w', Below w.heap.size w w' → w'.cell? ⟨a, 1, none⟩ = some (.int .i64 x1) := fun w' h => (HA.out w' h).2.1
  have q2 : ∀ w', Below w.heap.size w w' → w'.cell? ⟨a, 2, none⟩ = some (.int .i64 x2) := fun w' h => (HA.out w' h).2.2
  have q3 : ∀ w', Below w.heap.size w w' → w'.cell? ⟨b, 0, none⟩ = some (.int .i64 y0) := fun w' h => (HB.out w' h).1
  have q4 : ∀ w', Below w.heap.size w w' → w'.cell? ⟨b, 1, none⟩ = some (.int .i64 y1) := fun w' h => (HB.out w' h).2.1
  have q5 : ∀ w', Below w.heap.size w w' → w'.cell? ⟨b, 2, none⟩ = some (.int .i64 y2) := fun w' h => (HB.out w' h).2.2
  refine wp_region_below (by kernel_rfl) (by kernel_rfl) ?_
  repeat (first
    | go_big_quiet_skip
    | (go_big_quiet_want; go_big_quiet_op; first
        | go_big_quiet_on
        | (apply Exists.intro; refine ⟨fun w' hw' => rfl, ?_⟩; go_big_quiet_on)
        | (apply Exists.intro; refine ⟨fun w' hw' => ?_, ?_⟩; (exact calls_below hw' (HV.out w')); go_big_quiet_on)
        | (apply Exists.intro; refine ⟨fun w' hw' => ?_, ?_⟩; (go_simp; rfl); go_big_quiet_on)))
  refine wpQuiet_nil ?_
  intro w2 hb2
  have HB2 : Hid (Below w.heap.size w w2) := hb2
  clear q0 q1 q2 q3 q4 q5 hb2 HV HA HB
  go_wp2
  go_ret
  exact ⟨rfl, HB2.out⟩

/-- Two pointers of a row, in the order that they have come to. -/
structure SortR (B g o p q : Nat) (w w' : World) : Prop where
  below : Below B w w'
  size : w.heap.size ≤ w'.heap.size
  c0 : w'.cell? ⟨g, o, none⟩ = some (ptrTo p)
  c1 : w'.cell? ⟨g, o + 1, none⟩ = some (ptrTo q)
  rest : ∀ k, k ≠ o → k ≠ o + 1 → w'.cell? ⟨g, k, none⟩ = w.cell? ⟨g, k, none⟩
theorem SortR.same {B g o p q : Nat} {w w' : World} (hb : Below w.heap.size w w') (hB : B ≤ w.heap.size) (hg : g < w.heap.size) (h0 : w.cell? ⟨g, o, none⟩ = some (ptrTo p)) (h1 : w.cell? ⟨g, o + 1, none⟩ = some (ptrTo q)) : SortR B g o p q w w' :=
  ⟨hb.mono hB, hb.size, (hb.cell (p := ⟨g, o, none⟩) hg).trans h0, (hb.cell (p := ⟨g, o + 1, none⟩) hg).trans h1, fun k _ _ => hb.cell (p := ⟨g, k, none⟩) hg⟩
theorem SortR.swap {B g o p q : Nat} {w w1 w2 : World} (hb : Below w.heap.size w w1) (hB : B ≤ w.heap.size) (hBg : B ≤ g) (hg : g < w.heap.size) (h0 : w.cell? ⟨g, o, none⟩ = some (ptrTo p)) (h1 : w.cell? ⟨g, o + 1, none⟩ = some (ptrTo q))
    (hw2 : w2 = ((w1.setCell ⟨g, o + 1, none⟩ (ptrTo p)).setCell ⟨g, o, none⟩ (ptrTo q)).drew) : SortR B g o q p w w2 := by
  have d0 : w1.cell? ⟨g, o, none⟩ = some (ptrTo p) := (hb.cell (p := ⟨g, o, none⟩) hg).trans h0
  have d1 : w1.cell? ⟨g, o + 1, none⟩ = some (ptrTo q) := (hb.cell (p := ⟨g, o + 1, none⟩) hg).trans h1
  have hne : ∀ k, k ≠ o + 1 → (⟨g, k, none⟩ : Addr) ≠ ⟨g, o + 1, none⟩ := fun k hk e => hk (by simpa using congrArg Addr.off e)
  have hne0 : ∀ k, k ≠ o → (⟨g, k, none⟩ : Addr) ≠ ⟨g, o, none⟩ := fun k hk e => hk (by simpa using congrArg Addr.off e)
  have e0 : (w1.setCell ⟨g, o + 1, none⟩ (ptrTo p)).cell? ⟨g, o, none⟩ = some (ptrTo p) := by
    rw [World.cell?_setCell_other _ _ _ _ (hne o (by omega)).symm]; exact d0
  have hb2 : Below B w w2 := by
    rw [hw2]
    exact (((hb.mono hB).setCell (p := ⟨g, o + 1, none⟩) hBg _).setCell (p := ⟨g, o, none⟩) hBg _).drew
  subst hw2
  refine ⟨hb2, ?_, ?_, ?_, fun k k0 k1 => ?_⟩
  · have := hb.size; simp; exact this
  · show ((w1.setCell ⟨g, o + 1, none⟩ (ptrTo p)).setCell ⟨g, o, none⟩ (ptrTo q)).cell? _ = _
    exact World.cell?_setCell_same _ ⟨g, o, none⟩ _ e0
  · show ((w1.setCell ⟨g, o + 1, none⟩ (ptrTo p)).setCell ⟨g, o, none⟩ (ptrTo q)).cell? _ = _
    rw [World.cell?_setCell_other _ _ _ _ (hne0 (o + 1) (by omega)).symm]
    exact World.cell?_setCell_same _ ⟨g, o + 1, none⟩ _ d1
  · show ((w1.setCell ⟨g, o + 1, none⟩ (ptrTo p)).setCell ⟨g, o, none⟩ (ptrTo q)).cell? _ = _
    rw [World.cell?_setCell_other _ _ _ _ (hne0 k k0).symm, World.cell?_setCell_other _ _ _ _ (hne k k1).symm]
    exact hb.cell (p := ⟨g, k, none⟩) hg

end Go.Proofs.YtnmclolbndohiaaGreatDoor

/-
  slices.SortFunc of two entries; best.options of a package of two versions.
-/
namespace Go.Proofs.YtnmclolbndohiaaGreatDoor
open Go.RowKit
open Ver

theorem SortR.on {B g o p q : Nat} {w w1 w2 : World} (h : SortR B g o p q w w1) (hb : Below w1.heap.size w1 w2) (hB : B ≤ w.heap.size) (hg : g < w.heap.size) : SortR B g o p q w w2 :=
  ⟨h.below.trans (hb.mono (Nat.le_trans hB h.size)), Nat.le_trans h.size hb.size, (hb.cell (p := ⟨g, o, none⟩) (Nat.lt_of_lt_of_le hg h.size)).trans h.c0, (hb.cell (p := ⟨g, o + 1, none⟩) (Nat.lt_of_lt_of_le hg h.size)).trans h.c1, fun k k0 k1 => (hb.cell (p := ⟨g, k, none⟩) (Nat.lt_of_lt_of_le hg h.size)).trans (h.rest k k0 k1)⟩

set_option maxHeartbeats 3200000 in
set_option maxRecDepth 100000 in
theorem insF_two (B g o c p q : Nat) (x0 x1 x2 y0 y1 y2 : Int) (w : World) (hB : B ≤ w.heap.size) (hBg : B ≤ g) (hg : g < w.heap.size) (hp : p < w.heap.size) (hq : q < w.heap.size) (h0 : w.cell? ⟨g, o, none⟩ = some (ptrTo p)) (h1 : w.cell? ⟨g, o + 1, none⟩ = some (ptrTo q)) (hf : ∀ k, w.frozen? ⟨g, k, none⟩ = false) (vp : VerAt w p x0 x1 x2) (vq : VerAt w q y0 y1 y2) :
    Calls Tryz.prog 190 #[.slice (some ⟨g, o, none⟩) 2 c, .int .i64 0, .int .i64 2, .func (.func 131) #[] #[]] w fun e w' => e = .returned (.tuple #[]) ∧ (if cmp3 x0 x1 x2 y0 y1 y2 < 0 then SortR B g o q p w w' else SortR B g o p q w w') := by
  have HF : Hid (∀ W, Below w.heap.size w W → Calls Tryz.prog 131 #[ptrTo q, ptrTo p] W fun e w' => e = .returned (.int .i64 (cmp3 x0 x1 x2 y0 y1 y2)) ∧ Below W.heap.size W w') := fun W hW => opt1_any q p _ _ _ _ _ _ W (vq.on hW hq) (vp.on hW hp) (Nat.lt_of_lt_of_le hq hW.size) (Nat.lt_of_lt_of_le hp hW.size)
  have HC0 : Hid (∀ W, Below w.heap.size w W → W.cell? ⟨g, o, none⟩ = some (ptrTo p)) := fun W hW => (hW.cell (p := ⟨g, o, none⟩) hg).trans h0
  have HC1 : Hid (∀ W, Below w.heap.size w W → W.cell? ⟨g, o + 1, none⟩ = some (ptrTo q)) := fun W hW => (hW.cell (p := ⟨g, o + 1, none⟩) hg).trans h1
  have HFZ : Hid (∀ W, Below w.heap.size w W → ∀ k, W.frozen? ⟨g, k, none⟩ = false) := fun W hW k => (hW.frozen (p := ⟨g, k, none⟩) hg).trans (hf k)
  have HS0 : Hid (∀ W, Below w.heap.size w W → SortR B g o p q w W) := fun W hW => SortR.same hW hB hg h0 h1
  have HS1 : Hid (∀ W, Below w.heap.size w W → SortR B g o q p w ((W.setCell ⟨g, o + 1, none⟩ (ptrTo p)).setCell ⟨g, o, none⟩ (ptrTo q)).drew) := fun W hW => SortR.swap hW hB hBg hg h0 h1 rfl
  have HGB : Hid (B ≤ w.heap.size ∧ g < w.heap.size) := ⟨hB, hg⟩
  generalize cmp3 x0 x1 x2 y0 y1 y2 = R at *
  clear vp vq h0 h1 hf hB hBg
  unfold ptrTo at *
  by_cases hR : R < 0
  · simp only [if_pos hR]
    go_enter Tryz.func190, Tryz.ntmps190
    go_wp2
    refine wp_loop_rounds 2 ?_
    rw [rounds_succ]
    go_wp2
    refine wp_loop_rounds 2 ?_
    rw [rounds_succ]
    go_wp2
    have q0 : ∀ W, Below w.heap.size w W → W.cell? ⟨g, o, none⟩ = some (.pointer (some ⟨p, 0, none⟩)) := HC0.out
    have q1 : ∀ W, Below w.heap.size w W → W.cell? ⟨g, o + 1, none⟩ = some (.pointer (some ⟨q, 0, none⟩)) := HC1.out
    refine wp_region_below (by kernel_rfl) (by kernel_rfl) ?_
    repeat (first
      | go_big_quiet_skip
      | (go_big_quiet_want; go_big_quiet_op; first
          | go_big_quiet_on
          | (apply Exists.intro; refine ⟨fun w' hw' => rfl, ?_⟩; go_big_quiet_on)
          | (apply Exists.intro; refine ⟨fun w' hw' => ?_, ?_⟩; (exact calls_below hw' (HF.out w' hw')); go_big_quiet_on)
          | (apply Exists.intro; refine ⟨fun w' hw' => ?_, ?_⟩; (go_simp; rfl); go_big_quiet_on)))
    refine wpQuiet_nil ?_
    intro w2 hb2
    have c0 := HC0.out w2 hb2
    have c1 := HC1.out w2 hb2
    have f0 := HFZ.out w2 hb2 o
    have f1 := HFZ.out w2 hb2 (o + 1)
    have hl2 : g < w2.heap.size := Nat.lt_of_lt_of_le hg hb2.size
    have HS : Hid (SortR B g o q p w ((w2.setCell ⟨g, o + 1, none⟩ (.pointer (some ⟨p, 0, none⟩))).setCell ⟨g, o, none⟩ (.pointer (some ⟨q, 0, none⟩))).drew) := HS1.out w2 hb2
    clear q0 q1 hb2 HF HC0 HC1 HFZ HS0 HS1
    go_wp2
    go_region
    all_goals (
      generalize ((w2.setCell ⟨g, o + 1, none⟩ (.pointer (some ⟨p, 0, none⟩))).setCell ⟨g, o, none⟩ (.pointer (some ⟨q, 0, none⟩))).drew = w3 at *
      clear c0 c1 f0 f1 hl2
      go_wp2
      rw [rounds_succ]
      go_wp2
      refine wp_region_below (by kernel_rfl) (by kernel_rfl) ?_
      repeat (first
        | go_big_quiet_skip
        | (go_big_quiet_want; go_big_quiet_op; first
            | go_big_quiet_on
            | (apply Exists.intro; refine ⟨fun w' hw' => rfl, ?_⟩; go_big_quiet_on)
            | (apply Exists.intro; refine ⟨fun w' hw' => ?_, ?_⟩; (go_simp; rfl); go_big_quiet_on)))
      refine wpQuiet_nil ?_
      intro w4 hb4
      have HS4 : Hid (SortR B g o q p w w4) := HS.out.on hb4 HGB.out.1 HGB.out.2
      clear hb4 HS
      go_wp2
      rw [rounds_succ]
      go_wp2
      go_end0
      exact ⟨rfl, HS4.out⟩)
  · simp only [if_neg hR]
    go_enter Tryz.func190, Tryz.ntmps190
    go_wp2
    refine wp_loop_rounds 2 ?_
    rw [rounds_succ]
    go_wp2
    refine wp_loop_rounds 1 ?_
    rw [rounds_succ]
    go_wp2
    have q0 : ∀ W, Below w.heap.size w W → W.cell? ⟨g, o, none⟩ = some (.pointer (some ⟨p, 0, none⟩)) := HC0.out
    have q1 : ∀ W, Below w.heap.size w W → W.cell? ⟨g, o + 1, none⟩ = some (.pointer (some ⟨q, 0, none⟩)) := HC1.out
    refine wp_region_below (by kernel_rfl) (by kernel_rfl) ?_
    repeat (first
      | go_big_quiet_skip
      | (go_big_quiet_want; go_big_quiet_op; first
          | go_big_quiet_on
          | (apply Exists.intro; refine ⟨fun w' hw' => rfl, ?_⟩; go_big_quiet_on)
          | (apply Exists.intro; refine ⟨fun w' hw' => ?_, ?_⟩; (exact calls_below hw' (HF.out w' hw')); go_big_quiet_on)
          | (apply Exists.intro; refine ⟨fun w' hw' => ?_, ?_⟩; (go_simp; rfl); go_big_quiet_on)))
    refine wpQuiet_nil ?_
    intro w2 hb2
    have HS : Hid (SortR B g o p q w w2) := HS0.out w2 hb2
    clear q0 q1 hb2 HF HC0 HC1 HFZ HS0 HS1
    go_wp2
    rw [rounds_succ]
    go_wp2
    go_end0
    exact ⟨rfl, HS.out⟩

set_option maxHeartbeats 1600000 in
theorem pdqF_two (sv fv : Value) (k : Int) (Q : World → Prop) (w : World) (HI : Hid (Calls Tryz.prog 190 #[sv, .int .i64 0, .int .i64 2, fv] w fun e w' => e = .returned (.tuple #[]) ∧ Q w')) :
    Calls Tryz.prog 163 #[sv, .int .i64 0, .int .i64 2, .int .i64 k, fv] w fun e w' => e = .returned (.tuple #[]) ∧ Q w' := by
  go_enter Tryz.func163, Tryz.ntmps163
  go_wp2
  refine wp_loop_rounds 1 ?_
  rw [rounds_succ]
  go_wp2_with fail
  refine Calls.mono HI.out ?_
  rintro e w1 ⟨rfl, hQ⟩
  have HQ : Hid (Q w1) := hQ
  clear HI hQ
  go_wp2
  exact bodyPost_ret (v := .tuple #[]) (by simp [results, Tryz.results163, go_sem]) rfl ⟨rfl, HQ.out⟩

set_option maxHeartbeats 1600000 in
theorem sortF_two (a : Option Addr) (c : Nat) (fv : Value) (Q : World → Prop) (w : World) (HI : Hid (Calls Tryz.prog 190 #[.slice a 2 c, .int .i64 0, .int .i64 2, fv] w fun e w' => e = .returned (.tuple #[]) ∧ Q w')) :
    Calls Tryz.prog 130 #[.slice a 2 c, fv] w fun e w' => e = .returned (.tuple #[]) ∧ Q w' := by
  have HL : Hid (Calls Tryz.prog 147 #[.int .u64 2] w fun e w' => (∃ k : Int, e = .returned (.int .i64 k)) ∧ w' = w) := len_any 2 w (by omega)
  have HP : Hid (∀ k, Calls Tryz.prog 163 #[.slice a 2 c, .int .i64 0, .int .i64 2, .int .i64 k, fv] w fun e w' => e = .returned (.tuple #[]) ∧ Q w') := fun k => pdqF_two _ fv k Q w HI
  clear HI
  go_enter Tryz.func130, Tryz.ntmps130
  go_wp2_with fail
  refine Calls.mono HL.out ?_
  rintro e w1 ⟨⟨k, rfl⟩, hw1⟩
  obtain rfl : w = w1 := hw1.symm
  clear HL
  go_wp2_with fail
  refine Calls.mono (HP.out k) ?_
  rintro e w1 ⟨rfl, hQ⟩
  have HQ : Hid (Q w1) := hQ
  clear HP hQ
  go_wp2
  go_end0
  exact ⟨rfl, HQ.out⟩

end Go.Proofs.YtnmclolbndohiaaGreatDoor

/-
  best.options of a package of two versions.
-/
namespace Go.Proofs.YtnmclolbndohiaaGreatDoor
open Go.RowKit
open Ver

theorem Tryz.infoEntB : (Tryz.prog.info? 124).map (fun i => (i.zero, i.size, i.bytes)) = some (some (.pointer none), 1, 8) := by kernel_rfl
/-- What options gives: nothing, then the one, then the other. -/
structure OptAt (w : World) (p q g : Nat) (w' : World) : Prop where
  ge : w.heap.size ≤ g
  lt : g < w'.heap.size
  below : Below w.heap.size w w'
  c0 : w'.cell? ⟨g, 0, none⟩ = some (.pointer none)
  c1 : w'.cell? ⟨g, 1, none⟩ = some (ptrTo p)
  c2 : w'.cell? ⟨g, 2, none⟩ = some (ptrTo q)

set_option maxHeartbeats 3200000 in
set_option maxRecDepth 100000 in
theorem bopt_two (pb eg ec p q : Nat) (x0 x1 x2 y0 y1 y2 : Int) (w : World) (hpb : pb < w.heap.size) (hev : w.cell? ⟨pb, 1, none⟩ = some (.slice (some ⟨eg, 0, none⟩) 2 ec)) (heg : eg < w.heap.size) (c0 : w.cell? ⟨eg, 0, none⟩ = some (ptrTo p)) (c1 : w.cell? ⟨eg, 1, none⟩ = some (ptrTo q)) (hp : p < w.heap.size) (hq : q < w.heap.size) (vp : VerAt w p x0 x1 x2) (vq : VerAt w q y0 y1 y2) :
    Calls Tryz.prog 92 #[ptrTo pb] w fun e w' => ∃ g cap, e = .returned (.slice (some ⟨g, 0, none⟩) 3 cap) ∧ (if cmp3 x0 x1 x2 y0 y1 y2 < 0 then OptAt w q p g w' else OptAt w p q g w') := by
  obtain ⟨j0, hj0, hy0, hy1, hy2⟩ := info_parts Tryz.infoEntB
  have hev' : (w.alloc (.cells #[.pointer none] 124)).cell? ⟨pb, 1, none⟩ = some (.slice (some ⟨eg, 0, none⟩) 2 ec) := (World.cell?_alloc_past _ _ _ hpb).trans hev
  have HO : Hid ((w.alloc (.cells #[.pointer none] 124)).ownsRow w.heap.size 124 1 (.slice (some ⟨w.heap.size, 0, none⟩) 1 1) 1 [.pointer none]) :=
    ⟨by simp, Or.inr ⟨w.heap.size, 1, #[.pointer none], rfl, Nat.le_refl _, heap_alloc_new w _, Nat.le_refl _, by unfold maxLen; omega, by simp, by simp⟩⟩
  have HN : Hid (∀ j u, [ptrTo p, ptrTo q][j]? = some u → (w.alloc (.cells #[.pointer none] 124)).cell? ((⟨eg, 0, none⟩ : Addr).add j) = some u) := fun j u hu => by
    have e : (⟨eg, 0, none⟩ : Addr).add j = ⟨eg, j, none⟩ := by simp [Addr.add]; omega
    rw [e, World.cell?_alloc_past _ _ _ heg]
    match j, hu with
    | 0, hu => rw [c0]; exact hu
    | 1, hu => rw [c1]; exact hu
  have HS : Hid (∀ (g c : Nat) (W : World), w.heap.size ≤ g → g < W.heap.size → Below w.heap.size w W → (∀ k, W.frozen? ⟨g, k, none⟩ = false) → W.cell? ⟨g, 0, none⟩ = some (.pointer none) → W.cell? ⟨g, 1, none⟩ = some (ptrTo p) → W.cell? ⟨g, 2, none⟩ = some (ptrTo q) → Calls Tryz.prog 130 #[.slice (some ⟨g, 1, none⟩) 2 c, .func (.func 131) #[] #[]] W fun e w' => e = .returned (.tuple #[]) ∧ (if cmp3 x0 x1 x2 y0 y1 y2 < 0 then OptAt w q p g w' else OptAt w p q g w')) := fun g c W hge hlt hb hf d0 d1 d2 => by
    refine (sortF_two _ c _ _ W (insF_two w.heap.size g 1 c p q x0 x1 x2 y0 y1 y2 W hb.size hge hlt (Nat.lt_of_lt_of_le hp hb.size) (Nat.lt_of_lt_of_le hq hb.size) d1 d2 hf (vp.on hb hp) (vq.on hb hq))).mono ?_
    rintro e w' ⟨rfl, h⟩
    refine ⟨rfl, ?_⟩
    have fin : ∀ p q, SortR w.heap.size g 1 p q W w' → OptAt w p q g w' := fun p q h => ⟨hge, Nat.lt_of_lt_of_le hlt h.size, hb.trans h.below, (h.rest 0 (by omega) (by omega)).trans d0, h.c0, h.c1⟩
    split
    · rename_i hR; rw [if_pos hR] at h; exact fin _ _ h
    · rename_i hR; rw [if_neg hR] at h; exact fin _ _ h
  generalize hQ : (fun (g : Nat) (w' : World) => if cmp3 x0 x1 x2 y0 y1 y2 < 0 then OptAt w q p g w' else OptAt w p q g w') = Q at *
  have hQ' : ∀ g w', (if cmp3 x0 x1 x2 y0 y1 y2 < 0 then OptAt w q p g w' else OptAt w p q g w') = Q g w' := fun g w' => by rw [← hQ]
  simp only [hQ'] at HS ⊢
  clear hQ hQ' hev c0 c1 vp vq
  unfold ptrTo at *
  go_enter Tryz.func92, Tryz.ntmps92
  go_wp2_with (at_builtin; refine wpList_append_lies _ (by rfl) _ _ _ (by rfl) w.heap.size 124 j0 _ 1 8 Tryz.underlying74 hj0 hy0 hy1 hy2 rfl (by omega) (.slice (some ⟨w.heap.size, 0, none⟩) 1 1) 1 [.pointer none] (by rfl) HO.out ⟨eg, 0, none⟩ 2 ec [.pointer (some ⟨p, 0, none⟩), .pointer (some ⟨q, 0, none⟩)] (by rfl) (by rfl) HN.out (by simp [Value.oneCell']) (by omega) (by unfold maxLen; omega) (by omega) (by simp) (w.heap.size + 1) (by simp) ?_)
  intro gg cq w4 hown1 hgrow hat hlt3
  have hge : w.heap.size ≤ gg := by
    rcases hat with e | e
    · have : w.heap.size = gg := by simpa [Value.ownBlock] using e
      omega
    · omega
  have hcq : 3 ≤ cq := by
    rcases hown1.2 with ⟨e, _⟩ | ⟨g', cap', cur, e, _, _, h3, _⟩
    · cases e
    · obtain ⟨_, rfl⟩ : gg = g' ∧ cq = cap' := by simpa using e
      exact h3
  have hbl : Below w.heap.size w w4 := ((Below.refl _ _).alloc (Nat.le_refl _) _).grown hgrow (by simp) (fun k hk => by
    have : w.heap.size = k := by simpa [Value.ownBlock] using hk
    omega)
  have HS' : Hid _ := HS.out gg (cq - 1) w4 hge hlt3 hbl (fun k => hown1.frozenAt k) (hown1.cellAt 0 (by omega)) (hown1.cellAt 1 (by omega)) (hown1.cellAt 2 (by omega))
  clear hown1 hgrow hat hlt3 hge hbl HO HN HS hev'
  go_wp2_with fail
  refine Calls.mono HS'.out ?_
  rintro e w5 ⟨rfl, h5⟩
  have H5 : Hid (Q gg w5) := h5
  clear h5 HS'
  go_wp2
  go_ret
  exact ⟨gg, cq, rfl, H5.out⟩

end Go.Proofs.YtnmclolbndohiaaGreatDoor

/-
  Find, and which entry is found.
-/
namespace Go.Proofs.YtnmclolbndohiaaGreatDoor
open Go.RowKit
open Ver

set_option maxHeartbeats 800000 in
theorem find_which (pb : Nat) (ev : Value) (ents : List CEnt) (q0 q1 q2 : Int) (w : World) (hl : ents.length ≤ 1048576) (hi : pb < w.heap.size) (hc : w.cell? ⟨pb, 1, none⟩ = some ev)
    (hr : RowR w ev ents.length 1 (ents.map fun p => ptrTo p.b)) (hn : ∀ p ∈ ents, p.b < w.heap.size ∧ ∀ o, o < 3 → w.cell? ⟨p.b, o, none⟩ = p.cells[o]?) :
    Calls Tryz.prog 95 #[ptrTo pb, .agg #[.int .i64 q0, .int .i64 q1, .int .i64 q2]] w fun e w' => (∃ v, e = .returned (.pointer v) ∧ (idxV (ents.map CEnt.ver) (q0, q1, q2) < 0 → v = none) ∧ ∀ k : Nat, idxV (ents.map CEnt.ver) (q0, q1, q2) = k → ∃ en, ents[k]? = some en ∧ v = some ⟨en.b, 0, none⟩) ∧ Below w.heap.size w w' := by
  have hb0 : Below w.heap.size w (w.alloc (.cells #[.int .i64 q0, .int .i64 q1, .int .i64 q2] 56)) := (Below.refl _ _).alloc (Nat.le_refl _) _
  have HB0 : Hid (Below w.heap.size w (w.alloc (.cells #[.int .i64 q0, .int .i64 q1, .int .i64 q2] 56))) := hb0
  have hE : idxV (ents.map CEnt.ver) (q0, q1, q2) = findL (ents.map fun p => decide (p.v0 = q0 ∧ p.v1 = q1 ∧ p.v2 = q2)) := by
    unfold idxV; rw [List.map_map]; rfl
  rw [hE]
  clear hE
  rcases hr.2 with ⟨rfl, h0⟩ | ⟨g, cap, rfl, hg, hcells⟩
  · have hP : ents = [] := List.length_eq_zero_iff.1 h0
    subst hP
    have HF : Hid (∀ (fv : Value) (w : World), Calls Tryz.prog 134 #[.slice none 0 0, fv] w fun e w' => e = .returned (.int .i64 (-1)) ∧ w' = w) := idxFuncE_nil
    clear hr hn hb0
    unfold ptrTo
    go_enter Tryz.func95, Tryz.ntmps95
    go_wp2_with fail
    refine (HF.out _ _).mono ?_
    rintro e w' ⟨rfl, rfl⟩
    go_wp2
    go_ret
    exact ⟨⟨none, rfl, fun _ => rfl, fun k hk => by simp [findL] at hk⟩, HB0.out⟩
  · have HF : Hid (Calls Tryz.prog 134 #[.slice (some ⟨g, 0, none⟩) ents.length cap, .func (.func 135) #[] #[.pointer (some ⟨w.heap.size, 0, none⟩)]] (w.alloc (.cells #[.int .i64 q0, .int .i64 q1, .int .i64 q2] 56)) fun e w' => e = .returned (.int .i64 (findL (ents.map fun p => decide (p.v0 = q0 ∧ p.v1 = q1 ∧ p.v2 = q2)))) ∧ Below (w.alloc (.cells #[.int .i64 q0, .int .i64 q1, .int .i64 q2] 56)).heap.size (w.alloc (.cells #[.int .i64 q0, .int .i64 q1, .int .i64 q2] 56)) w') := by
      have := idxFuncE g cap w.heap.size (ents.map fun p => decide (p.v0 = q0 ∧ p.v1 = q1 ∧ p.v2 = q2)) (fun j => (ents[j]?.map fun p => p.b).getD 0) (w.alloc (.cells #[.int .i64 q0, .int .i64 q1, .int .i64 q2] 56)) (by simpa using hl) (by simp; omega)
        (fun j hj => by
          have hj' : j < ents.length := by simpa using hj
          rw [hb0.cell (p := ⟨g, j, none⟩) hg, hcells j (by omega)]
          simp [hj'])
        (fun j hj W hW => by
          have hj' : j < ents.length := by simpa using hj
          have hp := hn ents[j] (List.getElem_mem _)
          have e1 : (ents[j]?.map fun p => p.b).getD 0 = ents[j].b := by simp [hj']
          have e2 : (ents.map fun p => decide (p.v0 = q0 ∧ p.v1 = q1 ∧ p.v2 = q2))[j] = decide (ents[j].v0 = q0 ∧ ents[j].v1 = q1 ∧ ents[j].v2 = q2) := by simp
          rw [e1, e2]
          have hcc : ∀ o, o < 3 → W.cell? ⟨ents[j].b, o, none⟩ = ents[j].cells[o]? := fun o ho => by
            rw [hW.cell (p := ⟨ents[j].b, o, none⟩) (by simp; omega), hb0.cell (p := ⟨ents[j].b, o, none⟩) hp.1]; exact hp.2 o ho
          have hqq : ∀ o, W.cell? ⟨w.heap.size, o, none⟩ = #[Value.int .i64 q0, .int .i64 q1, .int .i64 q2][o]? := fun o => by
            rw [hW.cell (p := ⟨w.heap.size, o, none⟩) (by simp), World.cell?_alloc_at _ _ _ _ rfl]
          exact find1_any _ _ _ _ _ _ _ _ W (hcc 0 (by omega)) (hcc 1 (by omega)) (hcc 2 (by omega)) (hqq 0) (hqq 1) (hqq 2))
      rw [List.length_map] at this
      exact this
    have hc' : (w.alloc (.cells #[.int .i64 q0, .int .i64 q1, .int .i64 q2] 56)).cell? ⟨pb, 1, none⟩ = some (.slice (some ⟨g, 0, none⟩) ents.length cap) := (hb0.cell (p := ⟨pb, 1, none⟩) hi).trans hc
    have hbd := findL_bd (ents.map fun p => decide (p.v0 = q0 ∧ p.v1 = q1 ∧ p.v2 = q2))
    rw [List.length_map] at hbd
    obtain ⟨hbd1, hbd2⟩ := hbd
    have HCE : Hid (∀ j, j < ents.length → ∃ en, ents[j]? = some en ∧ w.cell? ⟨g, j, none⟩ = some (.pointer (some ⟨en.b, 0, none⟩))) := fun j hj => ⟨ents[j], by simp [hj], by rw [hcells j (by omega)]; simp [hj, ptrTo]⟩
    generalize findL (ents.map fun p => decide (p.v0 = q0 ∧ p.v1 = q1 ∧ p.v2 = q2)) = R at *
    clear hr hn hcells hb0 hc
    unfold ptrTo
    go_enter Tryz.func95, Tryz.ntmps95
    go_wp2_with fail
    refine Calls.mono HF.out ?_
    rintro e w' ⟨rfl, hb1⟩
    have HB1 : Hid (Below w.heap.size w w') := HB0.out.trans (hb1.mono (by simp))
    by_cases hR : R < 0
    · clear hb1 HF HB0 hc'
      have HD : Hid (decide (R < 0) = true) := decide_eq_true hR
      go_wp2
      go_ret
      exact ⟨⟨none, rfl, fun _ => rfl, fun k hk => absurd (of_decide_eq_true HD.out) (by omega)⟩, HB1.out⟩
    · obtain ⟨k, rfl⟩ : ∃ k : Nat, R = k := ⟨R.toNat, by omega⟩
      have hk : k < ents.length := by omega
      obtain ⟨en, hen, hcb⟩ := HCE.out k hk
      have HEN : Hid (ents[k]? = some en) := hen
      have c1 : w'.cell? ⟨g, k, none⟩ = some (.pointer (some ⟨en.b, 0, none⟩)) := (HB1.out.cell (p := ⟨g, k, none⟩) hg).trans hcb
      have c2 : w'.cell? ⟨pb, 1, none⟩ = some (.slice (some ⟨g, 0, none⟩) ents.length cap) := (hb1.cell (p := ⟨pb, 1, none⟩) (by simp; omega)).trans hc'
      clear hb1 HF HB0 hc' hcb HCE hen
      go_wp2
      go_ret
      exact ⟨⟨some _, rfl, fun h => by omega, fun k' hk' => ⟨en, by rw [← HEN.out]; congr 1; omega, rfl⟩⟩, HB1.out⟩

end Go.Proofs.YtnmclolbndohiaaGreatDoor
