/-
  The walk of 'decide'.
-/
import Derived.Test.YtnmclolbndohiaaGreatDoorT42
import Derived.Deep.RegionWith
import Derived.Test.YtnmclolbndohiaaGreatDoorT20
import Derived.Test.YtnmclolbndohiaaGreatDoorT44
namespace Go.Proofs.YtnmclolbndohiaaGreatDoor
open Go.RowKit
open Go.Maps
open Ver

/-- All but these two blocks is as it was. -/
structure KeepC (sb cb : Nat) (w w' : World) : Prop where
  size : w.heap.size ≤ w'.heap.size
  cell : ∀ b o, b < w.heap.size → b ≠ sb → b ≠ cb → w'.cell? ⟨b, o, none⟩ = w.cell? ⟨b, o, none⟩
theorem KeepC.of {sb cb : Nat} {w w' : World} (h : Below w.heap.size w w') : KeepC sb cb w w' := ⟨h.size, fun b o hb _ _ => h.cell (p := ⟨b, o, none⟩) hb⟩
theorem KeepC.trans {sb cb : Nat} {w w' w'' : World} (h : KeepC sb cb w w') (h2 : KeepC sb cb w' w'') : KeepC sb cb w w'' := ⟨Nat.le_trans h.size h2.size, fun b o hb h3 h4 => (h2.cell b o (Nat.lt_of_lt_of_le hb h.size) h3 h4).trans (h.cell b o hb h3 h4)⟩
theorem KeepC.set {sb cb : Nat} {w w' : World} (h : KeepC sb cb w w') (a : Addr) (ha : a.block = sb ∨ a.block = cb) (u : Value) : KeepC sb cb w (w'.setCell a u) := ⟨by rw [World.size_setCell]; exact h.size, fun b o hb h3 h4 => by
  rw [World.cell?_setCell_other _ _ _ _ (fun e => by have e' := congrArg Addr.block e; rcases ha with ha | ha <;> rw [ha] at e' <;> simp at e' <;> omega)]
  exact h.cell b o hb h3 h4⟩

/-- What 'decide' leaves. -/
def DecEnds (w1 : World) (sb cb ib : Nat) (rv : Value) (packs : List CPack) (r : DRes) (w : World) (e : Ending) (w' : World) : Prop :=
  e = .returned (.bool r.ok) ∧ KeepC sb cb w w' ∧ ∃ ch', SeAt w1 sb cb ib rv ch' w' ∧ ChOf packs ch' ∧ chD ch' = r.ch ∧ (r.ok = true → ∃ ab, w'.cell? ⟨sb, 3, none⟩ = some (.slice (some ⟨ab, 0, none⟩) 2 2) ∧ AllAt w1 ab 2 (featRow r.st r.ch) w')

set_option maxHeartbeats 1600000 in
set_option maxRecDepth 100000 in
theorem bdec_end (w1 : World) (sb cb ib : Nat) (pv rv : Value) (packs : List CPack) (ras : List CAsk) (gf : Nat) (ch : List (Option CEnt)) (s : FSt) (w : World) (hI : IxAt w1 ib pv packs) (hR : RootsAt w1 rv ras) (h : SeAt w1 sb cb ib rv ch w) (hO : ChOf packs ch) (hs : gatherP (packs.map fun p => p.name.data.toList) (chD ch) gf (ras.map CAsk.ask) = s) (hbad : s.bad = false) (hok : (s.wr || unwantedP s (chD ch)) = false → featOk s (chD ch) = true) :
    Calls Tryz.prog 55 #[ptrTo sb, .int .i64 2] w fun e w' => DecEnds w1 sb cb ib rv packs ⟨!(s.wr || unwantedP s (chD ch)), chD ch, s, false⟩ w e w' := by
  have hC := h.row.chAt hI hO (by rw [h.len]; omega)
  have HF : Hid (∀ W, Below w.heap.size w W → Calls Tryz.prog 35 #[ptrTo ib, .slice (some ⟨cb, 0, none⟩) 2 2, rv] W fun e w' => FeatsOne W s (chD ch) e w') := fun W hW => by
    have := ffeatures_any W ib pv packs cb 2 ch rv ras gf s hs h.len (hC.on hW) (hR.on (h.row.below.trans (hW.mono h.row.below.size))) hbad hok
    unfold chV at this
    rw [h.len] at this
    exact this.mono (fun _ _ h => h.one)
  have HSE : Hid (SeAt w1 sb cb ib rv ch w) := h
  have HO : Hid (ChOf packs ch) := hO
  obtain ⟨ra, rc, rfl⟩ := hR.row.len
  have c0 := h.s0
  have c1 := h.s1
  have c2 := h.s2
  have hsl := h.slt
  unfold FeatsOne at HF
  generalize hU : (s.wr || unwantedP s (chD ch)) = U at *
  clear h hI hR hC hO hs hok hU
  unfold ptrTo at *
  go_enter Tryz.func55, Tryz.ntmps55
  go_wp2
  go_region_with (go_at_call 35; refine Calls.mono (HF.out _ ?_) ?_; (first | exact Below.refl _ _ | exact (Below.refl _ _).drew); rintro e w3 ⟨fa, fn, fc, rfl, hb3, h3⟩)
  all_goals (
    have hb3' : Below w.heap.size w w3 := ((Below.refl w.heap.size w).drew).trans hb3
    have HS3 : Hid (SeAt w1 sb cb ib (.slice ra ras.length rc) ch w3) := HSE.out.on hb3'
    obtain ⟨xa, xn, xc, d3⟩ := HS3.out.s3
    have f3 := HS3.out.sfrz 3
    have hl3 := HS3.out.slt
    have HA3 : Hid (U = false → ∃ ab, (w3.setCell ⟨sb, 3, none⟩ (.slice fa fn fc)).cell? ⟨sb, 3, none⟩ = some (.slice (some ⟨ab, 0, none⟩) 2 2) ∧ AllAt w1 ab 2 (featRow s (chD ch)) (w3.setCell ⟨sb, 3, none⟩ (.slice fa fn fc))) := fun hu => by
      obtain ⟨ab, ⟨rfl, rfl, rfl⟩, hA⟩ := h3 hu
      exact ⟨ab, World.cell?_setCell_same _ ⟨sb, 3, none⟩ _ d3, hA.stored (a := ⟨sb, 3, none⟩) HSE.out.row.below.drew HSE.out.sge HSE.out.slt _⟩
    have HKP : Hid (KeepC sb cb w (w3.setCell ⟨sb, 3, none⟩ (.slice fa fn fc))) := (KeepC.of hb3').set ⟨sb, 3, none⟩ (Or.inl rfl) _
    clear h3 hb3 hb3' HF HSE c0 c1 c2
    go_wp2
    go_ret
    exact ⟨rfl, HKP.out, ch, HS3.out.feat fa fn fc, HO.out, rfl, fun hu => HA3.out (by cases U; rfl; cases hu)⟩)

end Go.Proofs.YtnmclolbndohiaaGreatDoor

/-
  The walk of 'decide' ahead of the last package.
-/
namespace Go.Proofs.YtnmclolbndohiaaGreatDoor
open Go.RowKit
open Go.Maps
open Ver

theorem possible_take (w1 : World) (sb cb ib : Nat) (pv rv : Value) (packs : List CPack) (ras : List CAsk) (gf : Nat) (ch : List (Option CEnt)) (s : FSt) (place : Nat) (w : World) (hI : IxAt w1 ib pv packs) (hR : RootsAt w1 rv ras) (h : SeAt w1 sb cb ib rv ch w) (hO : ChOf packs ch) (hpl : place < 2) (hs : gatherP (packs.map fun p => p.name.data.toList) ((chD ch).take place) gf (ras.map CAsk.ask) = s) (hbad : s.bad = false) (W : World) (hW : Below w.heap.size w W) :
    Calls Tryz.prog 91 #[.pointer (some ⟨ib, 0, none⟩), .slice (some ⟨cb, 0, none⟩) place 2, rv] W fun e w' => e = .returned (.bool (!s.wr)) ∧ Below W.heap.size W w' := by
  have hC := (h.row.chAt hI hO (by rw [h.len]; omega)).on hW
  have := fpossible_any W ib pv packs cb 2 (ch.take place) rv ras gf s (by rw [chD_take]; exact hs) (hC.take place) (hR.on (h.row.below.trans (hW.mono h.row.below.size))) hbad
  unfold chV at this
  rw [List.length_take, h.len, Nat.min_eq_left (by omega)] at this
  exact this

set_option maxHeartbeats 1600000 in
set_option maxRecDepth 100000 in
/-- Possible says no. -/
theorem bdec_no (w1 : World) (sb cb ib : Nat) (pv rv : Value) (packs : List CPack) (ras : List CAsk) (gf : Nat) (ch : List (Option CEnt)) (s : FSt) (place : Nat) (w : World) (hI : IxAt w1 ib pv packs) (hR : RootsAt w1 rv ras) (h : SeAt w1 sb cb ib rv ch w) (hO : ChOf packs ch) (hpl : place < 2) (hs : gatherP (packs.map fun p => p.name.data.toList) ((chD ch).take place) gf (ras.map CAsk.ask) = s) (hbad : s.bad = false) (hwr : s.wr = true) :
    Calls Tryz.prog 55 #[ptrTo sb, .int .i64 place] w fun e w' => DecEnds w1 sb cb ib rv packs ⟨false, chD ch, FSt.start, false⟩ w e w' := by
  have HP : Hid (∀ W, Below w.heap.size w W → Calls Tryz.prog 91 #[.pointer (some ⟨ib, 0, none⟩), .slice (some ⟨cb, 0, none⟩) place 2, rv] W fun e w' => e = .returned (.bool false) ∧ Below W.heap.size W w') := fun W hW => by
    have := possible_take w1 sb cb ib pv rv packs ras gf ch s place w hI hR h hO hpl hs hbad W hW
    rw [hwr] at this; exact this
  have HX : Hid (∀ w2, Below w.heap.size w w2 → DecEnds w1 sb cb ib rv packs ⟨false, chD ch, FSt.start, false⟩ w (.returned (.bool false)) w2) := fun w2 hb => ⟨rfl, KeepC.of hb, ch, h.on hb, hO, rfl, fun h => by cases h⟩
  have HSE : Hid (∀ W, Below w.heap.size w W → SeAt w1 sb cb ib rv ch W) := fun W hW => h.on hW
  obtain ⟨ra, rc, rfl⟩ := hR.row.len
  have c2 := h.s2
  have hsl := h.slt
  have k0 : ((place : Int) == 2) = false := by simp; omega
  have k1 : (0 : Int) ≤ (place : Int) := by omega
  have k2 : (place : Int) ≤ 2 := by omega
  clear h hI hR hO hs hbad hwr
  unfold ptrTo at *
  go_enter Tryz.func55, Tryz.ntmps55
  go_wp2
  have q0 : ∀ W, Below w.heap.size w W → W.cell? ⟨sb, 0, none⟩ = some (.pointer (some ⟨ib, 0, none⟩)) := fun W hW => (HSE.out W hW).s0
  have q1 : ∀ W, Below w.heap.size w W → W.cell? ⟨sb, 1, none⟩ = some (.slice ra ras.length rc) := fun W hW => (HSE.out W hW).s1
  have q2 : ∀ W, Below w.heap.size w W → W.cell? ⟨sb, 2, none⟩ = some (.slice (some ⟨cb, 0, none⟩) 2 2) := fun W hW => (HSE.out W hW).s2
  refine wp_region_below (by kernel_rfl) (by kernel_rfl) ?_
  repeat (first
    | go_big_quiet_skip
    | (go_big_quiet_want; go_big_quiet_op; first
        | go_big_quiet_on
        | (apply Exists.intro; refine ⟨fun w' hw' => rfl, ?_⟩; go_big_quiet_on)
        | (apply Exists.intro; refine ⟨fun w' hw' => ?_, ?_⟩; (exact calls_below hw' (HP.out w' hw')); go_big_quiet_on)
        | (apply Exists.intro; refine ⟨fun w' hw' => ?_, ?_⟩; (go_simp; rfl); go_big_quiet_on)))
  refine wpQuiet_nil ?_
  intro w2 hb2
  have HX2 : Hid (DecEnds w1 sb cb ib (.slice ra ras.length rc) packs ⟨false, chD ch, FSt.start, false⟩ w (.returned (.bool false)) w2) := HX.out w2 hb2
  clear q0 q1 q2 hb2 HP HX HSE
  go_wp2
  go_ret
  exact HX2.out

end Go.Proofs.YtnmclolbndohiaaGreatDoor

/-
  The walk of 'decide': the options of a package, one after another.
-/
namespace Go.Proofs.YtnmclolbndohiaaGreatDoor
open Go.RowKit
open Go.Maps
open Ver

def copts (a b : CEnt) : List (Option CEnt) := if cmp3 a.v0 a.v1 a.v2 b.v0 b.v1 b.v2 < 0 then [none, some b, some a] else [none, some a, some b]
theorem copts_abs (a b : CEnt) : (copts a b).map (Option.map CEnt.abs) = optsP a.abs b.abs := by
  unfold copts optsP
  show _ = if cmp3 a.v0 a.v1 a.v2 b.v0 b.v1 b.v2 < 0 then _ else _
  split <;> rfl
theorem copts_len (a b : CEnt) : (copts a b).length = 3 := by unfold copts; split <;> rfl
theorem copts_mem {a b : CEnt} {k : Nat} {e : CEnt} (h : (copts a b)[k]? = some (some e)) : e = a ∨ e = b := by
  have hm := List.mem_of_getElem? h
  unfold copts at hm
  split at hm <;> simp at hm <;> rcases hm with rfl | rfl <;> simp
theorem entV_ptr (o : Option CEnt) : ∃ x, entV o = .pointer x := by
  cases o with
  | none => exact ⟨none, rfl⟩
  | some e => exact ⟨_, rfl⟩
/-- One more try. -/
theorem try_step {f : List (Option DEnt) → DRes} {place : Nat} {o : Option DEnt} {os ch : List (Option DEnt)} {R : DRes} (h : tryP f place (o :: os) ch = R) (hb : R.bad = false) : (f (ch.set place o)).bad = false ∧ ((f (ch.set place o)).ok = true → f (ch.set place o) = R) ∧ ((f (ch.set place o)).ok = false → tryP f place os (f (ch.set place o)).ch = R) := by
  unfold tryP at h
  by_cases h1 : (f (ch.set place o)).bad = true ∨ (f (ch.set place o)).ok = true
  · rw [if_pos h1] at h
    refine ⟨by rw [h]; exact hb, fun _ => h, fun h2 => ?_⟩
    rcases h1 with h1 | h1
    · rw [h, hb] at h1; cases h1
    · rw [h2] at h1; cases h1
  · rw [if_neg h1] at h
    refine ⟨?_, fun h2 => absurd (Or.inr h2) h1, fun _ => h⟩
    cases hx : (f (ch.set place o)).bad with
    | false => rfl
    | true => exact absurd (Or.inl hx) h1
theorem copt_at {w w' : World} {g : Nat} {a b : CEnt} (h : if cmp3 a.v0 a.v1 a.v2 b.v0 b.v1 b.v2 < 0 then OptAt w b.b a.b g w' else OptAt w a.b b.b g w') : (w.heap.size ≤ g ∧ g < w'.heap.size ∧ Below w.heap.size w w') ∧ ∀ (k : Nat) (o : Option CEnt), (copts a b)[k]? = some o → w'.cell? ⟨g, k, none⟩ = some (entV o) := by
  unfold copts
  split at h
  · rename_i hc
    rw [if_pos hc]
    refine ⟨⟨h.ge, h.lt, h.below⟩, fun k o hk => ?_⟩
    match k, hk with
    | 0, hk => cases hk; exact h.c0
    | 1, hk => cases hk; exact h.c1
    | 2, hk => cases hk; exact h.c2
  · rename_i hc
    rw [if_neg hc]
    refine ⟨⟨h.ge, h.lt, h.below⟩, fun k o hk => ?_⟩
    match k, hk with
    | 0, hk => cases hk; exact h.c0
    | 1, hk => cases hk; exact h.c1
    | 2, hk => cases hk; exact h.c2

/-- Where the loop of 'decide' stands. -/
structure TryAt (w1 w : World) (sb cb ib : Nat) (rv : Value) (packs : List CPack) (f : List (Option DEnt) → DRes) (place g : Nat) (a b : CEnt) (R : DRes) (k : Nat) (wr : World) : Prop where
  keep : KeepC sb cb w wr
  opt : g < wr.heap.size ∧ g ≠ sb ∧ g ≠ cb ∧ ∀ (j : Nat) (o : Option CEnt), (copts a b)[j]? = some o → wr.cell? ⟨g, j, none⟩ = some (entV o)
  chk : ∃ ch, SeAt w1 sb cb ib rv ch wr ∧ ChOf packs ch ∧ tryP f place ((optsP a.abs b.abs).drop k) (chD ch) = R

set_option maxHeartbeats 1600000 in
set_option maxRecDepth 100000 in
theorem bdec_yes (w1 : World) (sb cb ib : Nat) (pv rv : Value) (packs : List CPack) (ras : List CAsk) (gf : Nat) (ch : List (Option CEnt)) (s : FSt) (place : Nat) (w : World) (hI : IxAt w1 ib pv packs) (hR : RootsAt w1 rv ras) (h : SeAt w1 sb cb ib rv ch w) (hO : ChOf packs ch) (hpl : place < 2) (hs : gatherP (packs.map fun p => p.name.data.toList) ((chD ch).take place) gf (ras.map CAsk.ask) = s) (hbad : s.bad = false) (hwr : s.wr = false)
    (p : CPack) (a b : CEnt) (hp : packs[place]? = some p) (hpe : p.ents = [a, b]) (f : List (Option DEnt) → DRes) (R : DRes) (hRt : tryP f place (optsP a.abs b.abs) (chD ch) = R) (hRb : R.bad = false)
    (HD : Hid (∀ (ch : List (Option CEnt)) (w : World), SeAt w1 sb cb ib rv ch w → ChOf packs ch → (f (chD ch)).bad = false → Calls Tryz.prog 55 #[.pointer (some ⟨sb, 0, none⟩), .int .i64 ((place : Int) + 1)] w fun e w' => DecEnds w1 sb cb ib rv packs (f (chD ch)) w e w')) :
    Calls Tryz.prog 55 #[ptrTo sb, .int .i64 place] w fun e w' => DecEnds w1 sb cb ib rv packs R w e w' := by
  have HP : Hid (∀ W, Below w.heap.size w W → Calls Tryz.prog 91 #[.pointer (some ⟨ib, 0, none⟩), .slice (some ⟨cb, 0, none⟩) place 2, rv] W fun e w' => e = .returned (.bool true) ∧ Below W.heap.size W w') := fun W hW => by
    have := possible_take w1 sb cb ib pv rv packs ras gf ch s place w hI hR h hO hpl hs hbad W hW
    rw [hwr] at this; exact this
  have hpm : p ∈ packs := List.mem_of_getElem? hp
  have ham : a ∈ p.ents := by rw [hpe]; simp
  have hbm : b ∈ p.ents := by rw [hpe]; simp
  have HMEM : Hid (∀ (k : Nat) (e : CEnt), (copts a b)[k]? = some (some e) → ∃ p ∈ packs, e ∈ p.ents) := fun k e hk => by
    rcases copts_mem hk with rfl | rfl
    · exact ⟨p, hpm, ham⟩
    · exact ⟨p, hpm, hbm⟩
  -- options, in any world behind this one
  have HOP : Hid (∀ W, Below w.heap.size w W → Calls Tryz.prog 92 #[.pointer (some ⟨p.b, 0, none⟩)] W fun e w' => ∃ g cap, e = .returned (.slice (some ⟨g, 0, none⟩) 3 cap) ∧ TryAt w1 w sb cb ib rv packs f place g a b R 0 w') := fun W hW => by
    have hi := hI.on (h.row.below.trans (hW.mono h.row.below.size))
    obtain ⟨hev, her⟩ := hi.erow p hpm
    rw [hpe] at her
    rcases her.2 with ⟨_, e0⟩ | ⟨eg, ec, e1, hg, hcells⟩
    · cases e0
    · have ea := hi.ents p hpm a ham
      have eb := hi.ents p hpm b hbm
      refine (bopt_two p.b eg ec a.b b.b a.v0 a.v1 a.v2 b.v0 b.v1 b.v2 W (hi.inames p hpm).1 (hev.trans (by rw [e1]; rfl)) hg (hcells 0 (by simp)) (hcells 1 (by simp)) ea.lt eb.lt ⟨ea.cells 0 (by omega), ea.cells 1 (by omega), ea.cells 2 (by omega)⟩ ⟨eb.cells 0 (by omega), eb.cells 1 (by omega), eb.cells 2 (by omega)⟩).mono ?_
      rintro e w' ⟨g, cap, rfl, ho⟩
      obtain ⟨⟨h1, h2, h3⟩, h4⟩ := copt_at ho
      have hw' : Below w.heap.size w w' := hW.trans (h3.mono hW.size)
      have hsl := h.slt
      have hcl := h.row.clt
      have hWs := hW.size
      exact ⟨g, cap, rfl, KeepC.of hw', ⟨h2, by omega, by omega, h4⟩, ch, h.on hw', hO, hRt⟩
  have HSE : Hid (∀ W, Below w.heap.size w W → SeAt w1 sb cb ib rv ch W) := fun W hW => h.on hW
  have HIW : Hid (∀ W, Below w.heap.size w W → IxAt W ib pv packs) := fun W hW => hI.on (h.row.below.trans (hW.mono h.row.below.size))
  have HPK : Hid (packs[place]? = some p) := hp
  obtain ⟨ra, rc, rfl⟩ := hR.row.len
  obtain ⟨pa, pc, rfl⟩ := hI.irow.len
  have c2 := h.s2
  have hsl := h.slt
  have k0 : ((place : Int) == 2) = false := by simp; omega
  have k1 : (0 : Int) ≤ (place : Int) := by omega
  have k2 : (place : Int) ≤ 2 := by omega
  have HRB : Hid (R.bad = false) := hRb
  clear h hI hR hO hs hbad hwr hpe hRt hRb hp hpm ham hbm
  unfold ptrTo at *
  go_enter Tryz.func55, Tryz.ntmps55
  go_wp2
  have q0 : ∀ W, Below w.heap.size w W → W.cell? ⟨sb, 0, none⟩ = some (.pointer (some ⟨ib, 0, none⟩)) := fun W hW => (HSE.out W hW).s0
  have q1 : ∀ W, Below w.heap.size w W → W.cell? ⟨sb, 1, none⟩ = some (.slice ra ras.length rc) := fun W hW => (HSE.out W hW).s1
  have q2 : ∀ W, Below w.heap.size w W → W.cell? ⟨sb, 2, none⟩ = some (.slice (some ⟨cb, 0, none⟩) 2 2) := fun W hW => (HSE.out W hW).s2
  refine wp_region_below (by kernel_rfl) (by kernel_rfl) ?_
  repeat (first
    | go_big_quiet_skip
    | (go_big_quiet_want; go_big_quiet_op; first
        | go_big_quiet_on
        | (apply Exists.intro; refine ⟨fun w' hw' => rfl, ?_⟩; go_big_quiet_on)
        | (apply Exists.intro; refine ⟨fun w' hw' => ?_, ?_⟩; (exact calls_below hw' (HP.out w' hw')); go_big_quiet_on)
        | (apply Exists.intro; refine ⟨fun w' hw' => ?_, ?_⟩; (go_simp; rfl); go_big_quiet_on)))
  refine wpQuiet_nil ?_
  intro w2 hb2
  have hi2 := HIW.out w2 hb2
  have d0 := (HSE.out w2 hb2).s0
  have hsl2 := (HSE.out w2 hb2).slt
  have hix := hi2.icell
  have hil := hi2.ilt
  obtain ⟨pg, pc', e1, hpgl, hpcell, hplt⟩ : ∃ pg pc', Value.slice pa packs.length pc = .slice (some ⟨pg, 0, none⟩) packs.length pc' ∧ pg < w2.heap.size ∧ w2.cell? ⟨pg, place, none⟩ = some (.pointer (some ⟨p.b, 0, none⟩)) ∧ place < packs.length := by
    obtain ⟨hlt, _⟩ := List.getElem?_eq_some_iff.1 HPK.out
    rcases hi2.irow.2 with ⟨_, e0⟩ | ⟨pg, pc', e1, hg, hcells⟩
    · omega
    · exact ⟨pg, pc', e1, hg, by rw [hcells place (by omega), List.getElem?_map, HPK.out]; rfl, hlt⟩
  obtain ⟨rfl, rfl⟩ : pa = some ⟨pg, 0, none⟩ ∧ pc = pc' := by simpa using e1
  have k3 : (place : Int) < (packs.length : Int) := by omega
  have HOP' : Hid _ := HOP.out w2 hb2
  clear q0 q1 q2 hb2 HP hi2 e1 HIW HSE HPK HOP
  unfold ptrTo at d0
  go_wp2_with fail
  refine Calls.mono HOP'.out ?_
  rintro e w3 ⟨g, gcap, rfl, h3⟩
  have HT0 : Hid (TryAt w1 w sb cb ib (.slice ra ras.length rc) packs f place g a b R 0 w3) := h3
  clear h3 HOP' d0 hsl2 hix hil hpgl hpcell
  go_wp2
  go_loopw [65] (fun i wr => ∃ k : Nat, k ≤ 3 ∧ i = .int .i64 k ∧ TryAt w1 w sb cb ib (.slice ra ras.length rc) packs f place g a b R k wr) (fun i _ => 3 - (intOf i).toNat)
  case atStart => exact ⟨0, by omega, rfl, HT0.out⟩
  case round =>
    clear HT0
    obtain ⟨k, hk, rfl, htr⟩ := hrel
    have HT : Hid (TryAt w1 w sb cb ib (.slice ra ras.length rc) packs f place g a b R k wr) := htr
    clear htr
    by_cases hlt : k < 3
    · obtain ⟨o, ho⟩ : ∃ o, (copts a b)[k]? = some o := ⟨_, List.getElem?_eq_getElem (by rw [copts_len]; exact hlt)⟩
      obtain ⟨chk, hse, hof, htry⟩ := HT.out.chk
      have hdrop : (optsP a.abs b.abs).drop k = (o.map CEnt.abs) :: (optsP a.abs b.abs).drop (k + 1) := by
        rw [← copts_abs]
        have hl : k < ((copts a b).map (Option.map CEnt.abs)).length := by rw [List.length_map, copts_len]; exact hlt
        rw [List.drop_eq_getElem_cons hl]
        congr 1
        have : ((copts a b).map (Option.map CEnt.abs))[k]? = some (o.map CEnt.abs) := by rw [List.getElem?_map, ho]; rfl
        rw [List.getElem?_eq_getElem hl] at this
        exact Option.some.inj this
      rw [hdrop] at htry
      obtain ⟨hfb, hfok, hfno⟩ := try_step htry HRB.out
      rw [← chD_set] at hfb hfok hfno
      have hof' : ChOf packs (chk.set place o) := hof.set place o (fun e he => HMEM.out k e (by rw [ho, he]))
      have hput := hse.put o hpl
      have HD' := HD.out (chk.set place o) _ hput hof' hfb
      have cg := HT.out.opt.2.2.2 k o ho
      have hgl := HT.out.opt.1
      have cs2 := hse.s2
      have hsl4 := hse.slt
      have hcl4 := hse.row.clt
      obtain ⟨y, hy⟩ := List.getElem?_eq_some_iff.1 (List.getElem?_eq_getElem (show place < chk.length by rw [hse.len]; exact hpl))
      have cc0 := hse.row.cells place _ (List.getElem?_eq_getElem (show place < chk.length by rw [hse.len]; exact hpl))
      obtain ⟨y1, hy1⟩ := entV_ptr chk[place]
      rw [hy1] at cc0
      have cf0 := hse.row.frz place
      have HKN : Hid (KeepC sb cb w (wr.setCell ⟨cb, place, none⟩ (entV o))) := HT.out.keep.set ⟨cb, place, none⟩ (Or.inr rfl) _
      have HON : Hid (∀ w5, KeepC sb cb (wr.setCell ⟨cb, place, none⟩ (entV o)) w5 → g < w5.heap.size ∧ g ≠ sb ∧ g ≠ cb ∧ ∀ (j : Nat) (o : Option CEnt), (copts a b)[j]? = some o → w5.cell? ⟨g, j, none⟩ = some (entV o)) := fun w5 h5 => by
        obtain ⟨g1, g2, g3, g4⟩ := HT.out.opt
        refine ⟨Nat.lt_of_lt_of_le g1 (by have := h5.size; rw [World.size_setCell] at this; exact this), g2, g3, fun j o ho => ?_⟩
        rw [h5.cell g j (by rw [World.size_setCell]; exact g1) g2 g3, World.cell?_setCell_other _ _ _ _ (fun e => g3 (congrArg Addr.block e).symm)]
        exact g4 j o ho
      generalize hfr : f (chD (chk.set place o)) = r at *
      obtain ⟨x, hx⟩ := entV_ptr o
      rw [hx] at cg hput HD' HKN HON
      have HD2 : Hid (Calls Tryz.prog 55 #[.pointer (some ⟨sb, 0, none⟩), .int .i64 ((place : Int) + 1)] (wr.setCell ⟨cb, place, none⟩ (.pointer x)) fun e w' => DecEnds w1 sb cb ib (.slice ra ras.length rc) packs r (wr.setCell ⟨cb, place, none⟩ (.pointer x)) e w') := HD'
      have HOK : Hid (r.ok = true → r = R) := hfok
      have HNO : Hid (r.ok = false → tryP f place ((optsP a.abs b.abs).drop (k + 1)) r.ch = R) := hfno
      have i0 : (0 : Int) ≤ (k : Int) := by omega
      have i1 : (k : Int) < 3 := by omega
      have i2 : (place : Int) < 2 := by omega
      clear hfr hfb hfok hfno htry hdrop hput HD' hof hof' hse ho hx hy hy1 HT HD
      go_wp2_with fail
      refine Calls.mono HD2.out ?_
      rintro e w5 ⟨rfl, hk5, ch5, hse5, hof5, hcd5, hft5⟩
      cases hrok : r.ok with
      | true =>
        have HX : Hid (DecEnds w1 sb cb ib (.slice ra ras.length rc) packs R w (.returned (.bool true)) w5) := by
          have e := HOK.out hrok
          subst e
          exact ⟨by rw [hrok], HKN.out.trans hk5, ch5, hse5, hof5, hcd5, hft5⟩
        clear hk5 hse5 hof5 hcd5 hft5 HD2 HOK HNO HKN HON hrok
        go_wp2
        go_ret
        exact HX.out
      | false =>
        have HX : Hid (TryAt w1 w sb cb ib (.slice ra ras.length rc) packs f place g a b R (k + 1) w5) := ⟨HKN.out.trans hk5, HON.out w5 hk5, ch5, hse5, hof5, by rw [hcd5]; exact HNO.out hrok⟩
        clear hk5 hse5 hof5 hcd5 hft5 HD2 HOK HNO HKN HON hrok
        go_wp2
        go_roundw
        case rel => exact ⟨k + 1, by omega, by go_num, HX.out⟩
        case measure => simp [intOf]; omega
    · have e : k = 3 := by omega
      subst e
      have HX : Hid (DecEnds w1 sb cb ib (.slice ra ras.length rc) packs R w (.returned (.bool false)) wr) := by
        obtain ⟨chk, hse, hof, htry⟩ := HT.out.chk
        rw [List.drop_of_length_le (by rw [← copts_abs, List.length_map, copts_len]; omega)] at htry
        unfold tryP at htry
        subst htry
        exact ⟨rfl, HT.out.keep, chk, hse, hof, rfl, fun h => by cases h⟩
      clear HT
      go_wp2
      go_ret
      exact HX.out

end Go.Proofs.YtnmclolbndohiaaGreatDoor

/-
  'decide' whole, and 'Solution'.
-/
namespace Go.Proofs.YtnmclolbndohiaaGreatDoor
open Go.RowKit
open Go.Maps
open Ver

def packN (packs : List CPack) : List (List UInt8) := packs.map fun p => p.name.data.toList
def dsOf (packs : List CPack) : List (List DEnt) := packs.map fun p => p.ents.map CEnt.abs
theorem dsOf_two {packs : List CPack} {k : Nat} {x y : DEnt} (h : (dsOf packs)[k]? = some [x, y]) : ∃ p a b, packs[k]? = some p ∧ p.ents = [a, b] ∧ x = a.abs ∧ y = b.abs := by
  unfold dsOf at h
  rw [List.getElem?_map] at h
  cases hp : packs[k]? with
  | none => rw [hp] at h; cases h
  | some p =>
    rw [hp] at h
    have h' : p.ents.map CEnt.abs = [x, y] := Option.some.inj h
    match hpe : p.ents, h' with
    | [a, b], h' =>
      simp only [List.map_cons, List.map_nil, List.cons.injEq, and_true] at h'
      exact ⟨p, a, b, rfl, hpe, h'.1.symm, h'.2.symm⟩

theorem bdec_any (w1 : World) (sb cb ib : Nat) (pv rv : Value) (packs : List CPack) (ras : List CAsk) (gf : Nat) (hI : IxAt w1 ib pv packs) (hR : RootsAt w1 rv ras) : ∀ (n place : Nat) (ch : List (Option CEnt)) (w : World), place ≤ 2 → SeAt w1 sb cb ib rv ch w → ChOf packs ch → (decP (packN packs) (dsOf packs) (ras.map CAsk.ask) gf n place (chD ch)).bad = false →
    Calls Tryz.prog 55 #[.pointer (some ⟨sb, 0, none⟩), .int .i64 place] w fun e w' => DecEnds w1 sb cb ib rv packs (decP (packN packs) (dsOf packs) (ras.map CAsk.ask) gf n place (chD ch)) w e w'
  | 0, _, _, _, _, _, _, hbad => by unfold decP at hbad; cases hbad
  | n + 1, place, ch, w, hpl, h, hO, hbad => by
    unfold decP at hbad ⊢
    by_cases h2 : place = 2
    · subst h2
      rw [if_pos rfl] at hbad ⊢
      by_cases g1 : (gatherP (packN packs) (chD ch) gf (ras.map CAsk.ask)).bad = true
      · rw [if_pos g1] at hbad; cases hbad
      · rw [if_neg g1] at hbad ⊢
        have hb : (gatherP (packN packs) (chD ch) gf (ras.map CAsk.ask)).bad = false := by simpa using g1
        have key := fun hok => bdec_end w1 sb cb ib pv rv packs ras gf ch _ w hI hR h hO rfl hb hok
        by_cases g2 : ((gatherP (packN packs) (chD ch) gf (ras.map CAsk.ask)).wr || unwantedP (gatherP (packN packs) (chD ch) gf (ras.map CAsk.ask)) (chD ch)) = true
        · rw [if_pos g2] at hbad ⊢
          have k := key (fun h' => by have e := g2.symm.trans h'; cases e)
          refine k.mono ?_
          rintro e w' ⟨e1, e2, ch', e3, e4, e5, _⟩
          refine ⟨?_, e2, ch', e3, e4, e5, fun h => by cases h⟩
          rw [e1]
          show _ = Ending.returned (.bool false)
          have g3 : ((gatherP (packs.map fun p => p.name.data.toList) (chD ch) gf (ras.map CAsk.ask)).wr || unwantedP (gatherP (packs.map fun p => p.name.data.toList) (chD ch) gf (ras.map CAsk.ask)) (chD ch)) = true := g2
          rw [g3]; rfl
        · have g2' : ((gatherP (packN packs) (chD ch) gf (ras.map CAsk.ask)).wr || unwantedP (gatherP (packN packs) (chD ch) gf (ras.map CAsk.ask)) (chD ch)) = false := by simpa using g2
          rw [if_neg g2] at hbad ⊢
          by_cases g3 : featOk (gatherP (packN packs) (chD ch) gf (ras.map CAsk.ask)) (chD ch) = true
          · rw [if_pos g3] at hbad ⊢
            refine (key (fun _ => g3)).mono ?_
            rintro e w' ⟨e1, e2, ch', e3, e4, e5, e6⟩
            have g4 : ((gatherP (packs.map fun p => p.name.data.toList) (chD ch) gf (ras.map CAsk.ask)).wr || unwantedP (gatherP (packs.map fun p => p.name.data.toList) (chD ch) gf (ras.map CAsk.ask)) (chD ch)) = false := g2'
            refine ⟨?_, e2, ch', e3, e4, e5, fun _ => e6 (by show (!_) = true; rw [g4]; rfl)⟩
            rw [e1]
            show Ending.returned (.bool (!_)) = Ending.returned (.bool true)
            rw [g4]; rfl
          · rw [if_neg g3] at hbad; cases hbad
    · rw [if_neg h2] at hbad ⊢
      have hpl2 : place < 2 := by omega
      by_cases g1 : (gatherP (packN packs) ((chD ch).take place) gf (ras.map CAsk.ask)).bad = true
      · rw [if_pos g1] at hbad; cases hbad
      · rw [if_neg g1] at hbad ⊢
        have hb : (gatherP (packN packs) ((chD ch).take place) gf (ras.map CAsk.ask)).bad = false := by simpa using g1
        by_cases g2 : (gatherP (packN packs) ((chD ch).take place) gf (ras.map CAsk.ask)).wr = true
        · rw [if_pos g2]
          exact bdec_no w1 sb cb ib pv rv packs ras gf ch _ place w hI hR h hO hpl2 rfl hb g2
        · rw [if_neg g2] at hbad ⊢
          have g2' : (gatherP (packN packs) ((chD ch).take place) gf (ras.map CAsk.ask)).wr = false := by simpa using g2
          split at hbad
          · rename_i x y hxy
            obtain ⟨p, a, b, hp, hpe, rfl, rfl⟩ := dsOf_two hxy
            exact bdec_yes w1 sb cb ib pv rv packs ras gf ch _ place w hI hR h hO hpl2 rfl hb g2' p a b hp hpe _ _ rfl hbad (fun ch w h hO hbad => by
              have := bdec_any w1 sb cb ib pv rv packs ras gf hI hR n (place + 1) ch w (by omega) h hO hbad
              rw [show ((place + 1 : Nat) : Int) = (place : Int) + 1 from by omega] at this
              exact this)
          · cases hbad

/-- What 'Solution' answers. -/
def SolEnds (w : World) (packs : List CPack) (r : DRes) (e : Ending) (w' : World) : Prop :=
  (r.ok = false ∧ e = .returned (.tuple #[.slice none 0 0, .slice none 0 0, .bool false]) ∧ Below w.heap.size w w') ∨
  (r.ok = true ∧ ∃ cb ab ch', e = .returned (.tuple #[.slice (some ⟨cb, 0, none⟩) 2 2, .slice (some ⟨ab, 0, none⟩) 2 2, .bool true]) ∧ RowC w cb ch' w' ∧ ch'.length = 2 ∧ ChOf packs ch' ∧ chD ch' = r.ch ∧ AllAt w ab 2 (featRow r.st r.ch) w')

theorem SeAt.new (w : World) (ib : Nat) (rv : Value) : SeAt w (w.heap.size + 1) w.heap.size ib rv [none, none] ((w.alloc (.cells #[.pointer none, .pointer none] 124)).alloc (.cells #[ptrTo ib, rv, .slice (some ⟨w.heap.size, 0, none⟩) 2 2, .slice none 0 0] 118)) := by
  have hs : ∀ o, ((w.alloc (.cells #[.pointer none, .pointer none] 124)).alloc (.cells #[ptrTo ib, rv, .slice (some ⟨w.heap.size, 0, none⟩) 2 2, .slice none 0 0] 118)).cell? ⟨w.heap.size + 1, o, none⟩ = #[ptrTo ib, rv, .slice (some ⟨w.heap.size, 0, none⟩) 2 2, .slice none 0 0][o]? := fun o => World.cell?_alloc_at _ _ _ _ (by simp)
  refine ⟨⟨((Below.refl _ _).alloc (Nat.le_refl _) _).alloc (by simp) _, Nat.le_refl _, by simp; omega, fun i e he => ?_, fun i => ?_⟩, by omega, by simp, by omega, hs 0, hs 1, hs 2, ⟨none, 0, 0, hs 3⟩, fun i => World.frozen?_alloc_at _ _ _ _ (by simp), rfl⟩
  · rw [World.cell?_alloc_past _ _ _ (by simp), World.cell?_alloc_at _ _ _ _ rfl]
    match i, he with
    | 0, he => cases he; rfl
    | 1, he => cases he; rfl
  · rw [World.frozen?_alloc_past _ _ _ (by simp)]; exact World.frozen?_alloc_at _ _ _ _ rfl

set_option maxHeartbeats 1600000 in
set_option maxRecDepth 100000 in
theorem bsol_any (ib : Nat) (pv rv : Value) (packs : List CPack) (ras : List CAsk) (gf n : Nat) (w : World) (hI : IxAt w ib pv packs) (hR : RootsAt w rv ras) (hl : packs.length = 2) (r : DRes) (hr : decP (packN packs) (dsOf packs) (ras.map CAsk.ask) gf n 0 [none, none] = r) (hbad : r.bad = false) :
    Calls Tryz.prog 32 #[ptrTo ib, rv] w fun e w' => SolEnds w packs r e w' := by
  have HD : Hid (Calls Tryz.prog 55 #[.pointer (some ⟨w.heap.size + 1, 0, none⟩), .int .i64 0] ((w.alloc (.cells #[.pointer none, .pointer none] 124)).alloc (.cells #[ptrTo ib, rv, .slice (some ⟨w.heap.size, 0, none⟩) 2 2, .slice none 0 0] 118)) fun e w' => e = .returned (.bool r.ok) ∧ ∃ ch', SeAt w (w.heap.size + 1) w.heap.size ib rv ch' w' ∧ ChOf packs ch' ∧ chD ch' = r.ch ∧ (r.ok = true → ∃ ab, w'.cell? ⟨w.heap.size + 1, 3, none⟩ = some (.slice (some ⟨ab, 0, none⟩) 2 2) ∧ AllAt w ab 2 (featRow r.st r.ch) w')) := by
    have hc : chD [none, none] = [none, none] := rfl
    have := bdec_any w (w.heap.size + 1) w.heap.size ib pv rv packs ras gf hI hR n 0 [none, none] _ (by omega) (SeAt.new w ib rv) (fun e he => by simp at he) (by rw [hc, hr]; exact hbad)
    rw [hc, hr] at this
    exact this.mono (fun e w' ⟨h1, _, h2⟩ => ⟨h1, h2⟩)
  obtain ⟨ra, rc, rfl⟩ := hR.row.len
  obtain ⟨pa, pc, hpv⟩ := hI.irow.len
  rw [hl] at hpv
  subst hpv
  have ci := hI.icell
  have hil := hI.ilt
  have hmk : ∀ w : World, (Instr.makeSlice 75 (.int .i64 2) (.int .i64 2)).run Tryz.prog w = .ok (.slice (some ⟨w.heap.size, 0, none⟩) 2 2) (w.alloc (.cells #[.pointer none, .pointer none] 124)) := fun _ => by kernel_rfl
  clear hI hR hl hr hbad
  unfold ptrTo at *
  go_enter Tryz.func32, Tryz.ntmps32
  go_wp2_with fail
  refine Calls.mono HD.out ?_
  rintro e w3 ⟨rfl, ch, hse, hof, hcd, hft⟩
  clear HD
  cases hok : r.ok with
  | false =>
    have HX : Hid (SolEnds w packs r (.returned (.tuple #[.slice none 0 0, .slice none 0 0, .bool false])) w3) := Or.inl ⟨hok, rfl, hse.row.below⟩
    clear hse hof hcd hft hok
    go_wp2
    exact bodyPost_ret (v := .tuple #[.slice none 0 0, .slice none 0 0, .bool false]) (by simp [results, Tryz.results32, go_sem]) rfl HX.out
  | true =>
    obtain ⟨ab, c3, hA⟩ := hft hok
    have HX : Hid (∀ w4, Below w3.heap.size w3 w4 → SolEnds w packs r (.returned (.tuple #[.slice (some ⟨w.heap.size, 0, none⟩) 2 2, .slice (some ⟨ab, 0, none⟩) 2 2, .bool true])) w4) := fun w4 h4 => Or.inr ⟨hok, w.heap.size, ab, ch, rfl, hse.row.on h4, hse.len, hof, hcd, hA.on h4⟩
    have c2 := hse.s2
    have hsl := hse.slt
    clear hse hof hcd hft hok hA
    go_wp2
    go_quiet (fail)
    have HX4 : Hid (SolEnds w packs r (.returned (.tuple #[.slice (some ⟨w.heap.size, 0, none⟩) 2 2, .slice (some ⟨ab, 0, none⟩) 2 2, .bool true])) (w3.drewN nq)) := HX.out _ (below_drewN _ _)
    clear HX
    go_wp2
    exact bodyPost_ret (v := .tuple #[.slice (some ⟨w.heap.size, 0, none⟩) 2 2, .slice (some ⟨ab, 0, none⟩) 2 2, .bool true]) (by simp [results, Tryz.results32, go_sem]) rfl HX4.out

end Go.Proofs.YtnmclolbndohiaaGreatDoor

/-
  The walk of locks.choose.
-/
namespace Go.Proofs.YtnmclolbndohiaaGreatDoor
open Go.RowKit
open Go.Maps
open Ver

theorem idxV_bd (l : List (Int × Int × Int)) (v : Int × Int × Int) : -1 ≤ idxV l v ∧ idxV l v < l.length := by
  unfold idxV
  have := findL_bd (l.map fun a => decide (a.1 = v.1 ∧ a.2.1 = v.2.1 ∧ a.2.2 = v.2.2))
  rw [List.length_map] at this
  exact this
/-- The entry of a version, by its number. -/
def findE (l : List CEnt) (v : Int) : Option CEnt := l[(idxV (l.map CEnt.ver) (v / 1000000, v / 1000 % 1000, v % 1000)).toNat]?
def chooseP (packs : List CPack) (ch : List (Option CEnt)) : List (List UInt8) → Option (List (Option CEnt))
  | a :: b :: _ =>
    if idxL (packN packs) a < 0 then none else if verI b < 0 then none else
    match packs[(idxL (packN packs) a).toNat]? with
    | none => none
    | some p => if idxV (p.ents.map CEnt.ver) (verI b / 1000000, verI b / 1000 % 1000, verI b % 1000) < 0 then none else
      match findE p.ents (verI b) with
      | some e => some (ch.set (idxL (packN packs) a).toNat (some e))
      | none => none
  | _ => none
/-- What 'choose' leaves. -/
def ChoEnds (wA : World) (cb : Nat) (packs : List CPack) (r : Option (List (Option CEnt))) (w : World) (e : Ending) (w' : World) : Prop :=
  ((r = none → ∃ t p, e = .returned (.iface t p)) ∧ ∀ s', r = some s' → e = .returned .nilIface ∧ RowC wA cb s' w' ∧ s'.length = 2 ∧ ChOf packs s') ∧ KeepC cb cb w w' ∧ Below wA.heap.size w w'
theorem ChoEnds.no {wA : World} {cb : Nat} {packs : List CPack} {r : Option (List (Option CEnt))} {w w' : World} {t : TypeId} {p : Value} (hr : r = none) (hb : Below w.heap.size w w') (hA : wA.heap.size ≤ w.heap.size) : ChoEnds wA cb packs r w (.returned (.iface t p)) w' :=
  ⟨⟨fun _ => ⟨t, p, rfl⟩, fun s' h => by rw [hr] at h; cases h⟩, KeepC.of hb, hb.mono hA⟩

set_option maxHeartbeats 1600000 in
set_option maxRecDepth 100000 in
theorem choose_any (wA : World) (ib cb g gc : Nat) (pv : Value) (packs : List CPack) (ch : List (Option CEnt)) (P : List ByteArray) (w : World) (t0 t1 : TypeId) (p0 p1 : Value) (m : Int) (hI : IxAt wA ib pv packs) (h : RowC wA cb ch w) (hlen : ch.length = 2) (hO : ChOf packs ch) (h2 : packs.length = 2) (hents : ∀ p ∈ packs, p.ents.length ≤ 1000) (S : Sent w) (G : Glob t0 t1 p0 p1 m w) (hP0 : 0 < P.length) (hPl : P.length ≤ 3001) (hPs : ∀ x ∈ P, x.size ≤ 3000) (hg : g < w.heap.size) (hcells : ∀ j (hj : j < P.length), w.cell? ⟨g, j, none⟩ = some (.string P[j])) :
    Calls Tryz.prog 60 #[.pointer (some ⟨ib, 0, none⟩), .slice (some ⟨cb, 0, none⟩) 2 2, .slice (some ⟨g, 0, none⟩) P.length gc] w fun e w' => ChoEnds wA cb packs (chooseP packs ch (P.map fun x => x.data.toList)) w e w' := by
  have hAw : wA.heap.size ≤ w.heap.size := h.below.size
  have HNO : Hid (∀ (t : TypeId) (p : Value) (w' : World), chooseP packs ch (P.map fun x => x.data.toList) = none → Below w.heap.size w w' → ChoEnds wA cb packs (chooseP packs ch (P.map fun x => x.data.toList)) w (.returned (.iface t p)) w') := fun t p w' h1 h2 => ChoEnds.no h1 h2 hAw
  by_cases hp2 : P.length < 2
  · have hE : chooseP packs ch (P.map fun x => x.data.toList) = none := by
      match P, hp2 with
      | [], _ => rfl
      | [_], _ => rfl
    obtain ⟨t, p, hc⟩ := S.cell 8 (by decide)
    have HX : Hid (ChoEnds wA cb packs (chooseP packs ch (P.map fun x => x.data.toList)) w (.returned (.iface t p)) w) := HNO.out t p w hE (Below.refl _ _)
    have k : (P.length : Int) < 2 := by omega
    clear HNO hE hp2 hcells hPs
    go_enter Tryz.func60, Tryz.ntmps60
    go_wp2
    go_ret
    exact HX.out
  · obtain ⟨a, b, P', rfl⟩ : ∃ a b P', P = a :: b :: P' := by
      match P, hp2 with
      | a :: b :: P', _ => exact ⟨a, b, P', rfl⟩
      | [_], h => simp at h
    have d0 : w.cell? ⟨g, 0, none⟩ = some (.string a) := hcells 0 (by simp)
    have d1 : w.cell? ⟨g, 1, none⟩ = some (.string b) := hcells 1 (by simp)
    have hbs : b.size ≤ 3000 := hPs b (by simp)
    have k : ¬ ((a :: b :: P').length : Int) < 2 := by simp; omega
    have hi := hI.on h.below
    have HPL : Hid (Calls Tryz.prog 53 #[.pointer (some ⟨ib, 0, none⟩), .string a] w fun e w' => e = .returned (.int .i64 (idxL (packN packs) a.data.toList)) ∧ Below w.heap.size w w') := place_any ib pv packs a w (by have := hI.ifew; omega) hi.ilt hi.icell hi.irow hi.inames
    have HPA : Hid (∀ W, Below w.heap.size w W → Glob t0 t1 p0 p1 m W) := fun W hW => G.on hW G.lt
    have HSW : Hid (∀ W, Below w.heap.size w W → Sent W) := fun W hW => S.on hW
    have HIW : Hid (∀ W, Below w.heap.size w W → IxAt W ib pv packs ∧ RowC wA cb ch W) := fun W hW => ⟨hi.on hW, h.on hW⟩
    generalize hch : chooseP packs ch ((a :: b :: P').map fun x => x.data.toList) = r at *
    have HCH : Hid (chooseP packs ch ((a :: b :: P').map fun x => x.data.toList) = r) := hch
    generalize hK : idxL (packN packs) a.data.toList = K at *
    have HKK : Hid (idxL (packN packs) a.data.toList = K) := hK
    have hKb := idxL_bd (packN packs) a.data.toList
    have hlN : (packN packs).length = 2 := by unfold packN; simpa using h2
    rw [hK, hlN] at hKb
    obtain ⟨hKb1, hKb2⟩ := hKb
    clear hcells hPs hp2 hP0 hPl
    generalize (a :: b :: P').length = n at *
    have HLN : Hid (ch.length = 2 ∧ ChOf packs ch ∧ packs.length = 2 ∧ wA.heap.size ≤ w.heap.size ∧ b.size ≤ 3000 ∧ (∀ p ∈ packs, p.ents.length ≤ 1000)) := ⟨hlen, hO, h2, hAw, hbs, hents⟩
    clear hi hI h S G hch hK hlN hlen hO h2 hAw hbs hents
    by_cases hK0 : K < 0
    · have hE : r = none := by
        rw [← HCH.out]; unfold chooseP; simp only [List.map_cons]; rw [HKK.out, if_pos hK0]
      go_enter Tryz.func60, Tryz.ntmps60
      go_wp2_with fail
      refine Calls.mono HPL.out ?_
      rintro e w2 ⟨rfl, hb2⟩
      obtain ⟨t, p, hc⟩ := (HSW.out w2 hb2).cell 9 (by decide)
      have HX : Hid (ChoEnds wA cb packs r w (.returned (.iface t p)) w2) := HNO.out t p w2 hE hb2
      clear HNO hE hb2 HPL HPA HSW HIW HCH HKK
      go_wp2
      go_ret
      exact HX.out
    · obtain ⟨kk, rfl⟩ : ∃ kk : Nat, K = (kk : Int) := ⟨K.toNat, by omega⟩
      have hkk : kk < 2 := by omega
      obtain ⟨p, hp⟩ : ∃ p, packs[kk]? = some p := ⟨_, List.getElem?_eq_getElem (by rw [HLN.out.2.2.1]; exact hkk)⟩
      have hpm : p ∈ packs := List.mem_of_getElem? hp
      by_cases hv : verI b.data.toList < 0
      · have hE : r = none := by
          rw [← HCH.out]; unfold chooseP; simp only [List.map_cons]; rw [HKK.out, if_neg hK0, if_pos hv]
        have HPR : Hid (∀ W, Below w.heap.size w W → Calls Tryz.prog 26 #[.string b] W fun e w' => e = .returned (.tuple #[.agg #[.int .i64 0, .int .i64 0, .int .i64 0], .iface t0 p0]) ∧ Below W.heap.size W w') := fun W hW => parse_no b t0 t1 p0 p1 m W (by have := HLN.out.2.2.2.2.1; omega) (HPA.out W hW) hv
        go_enter Tryz.func60, Tryz.ntmps60
        go_wp2_with fail
        refine Calls.mono HPL.out ?_
        rintro e w2 ⟨rfl, hb2⟩
        have HB2 : Hid (Below w.heap.size w w2) := hb2
        have d1' : w2.cell? ⟨g, 1, none⟩ = some (.string b) := (hb2.cell (p := ⟨g, 1, none⟩) hg).trans d1
        have hg2 : g < w2.heap.size := Nat.lt_of_lt_of_le hg hb2.size
        have HPR' : Hid _ := HPR.out w2 hb2
        clear hb2 HPL HPR
        go_wp2_with fail
        refine Calls.mono HPR'.out ?_
        rintro e w3 ⟨rfl, hb3⟩
        have HX : Hid (∀ o, ChoEnds wA cb packs r w (.returned (.iface t0 p0)) (w3.alloc o)) := fun o => HNO.out t0 p0 _ hE ((HB2.out.trans (hb3.mono HB2.out.size)).alloc (Nat.le_trans HB2.out.size hb3.size) o)
        clear HNO hE hb3 HPR' HB2 HPA HSW HIW HCH HKK
        go_wp2
        go_ret
        exact HX.out _
      · have hv0 : 0 ≤ verI b.data.toList := by omega
        have HPR : Hid (∀ W, Below w.heap.size w W → Calls Tryz.prog 26 #[.string b] W fun e w' => e = .returned (.tuple #[.agg #[.int .i64 (verI b.data.toList / 1000000), .int .i64 (verI b.data.toList / 1000 % 1000), .int .i64 (verI b.data.toList % 1000)], .nilIface]) ∧ Below W.heap.size W w') := fun W hW => parse_yes b t0 t1 p0 p1 m W (by have := HLN.out.2.2.2.2.1; omega) (HPA.out W hW) hv0
        have hFI := fun W (hW : Below w.heap.size w W) => find_which p.b p.ev p.ents (verI b.data.toList / 1000000) (verI b.data.toList / 1000 % 1000) (verI b.data.toList % 1000) W (by have := HLN.out.2.2.2.2.2 p hpm; omega) ((HIW.out W hW).1.inames p hpm).1 ((HIW.out W hW).1.erow p hpm).1 ((HIW.out W hW).1.erow p hpm).2 (fun e he => ⟨((HIW.out W hW).1.ents p hpm e he).lt, fun o ho => ((HIW.out W hW).1.ents p hpm e he).cells o (by omega)⟩)
        have hR : r = if idxV (p.ents.map CEnt.ver) (verI b.data.toList / 1000000, verI b.data.toList / 1000 % 1000, verI b.data.toList % 1000) < 0 then none else match findE p.ents (verI b.data.toList) with
            | some e => some (ch.set kk (some e))
            | none => none := by
          rw [← HCH.out]; unfold chooseP; simp only [List.map_cons]; rw [HKK.out, if_neg hK0, if_neg hv, Int.toNat_natCast, hp]
        have hib := idxV_bd (p.ents.map CEnt.ver) (verI b.data.toList / 1000000, verI b.data.toList / 1000 % 1000, verI b.data.toList % 1000)
        unfold findE at hR
        generalize verI b.data.toList / 1000000 = x0 at *
        generalize verI b.data.toList / 1000 % 1000 = x1 at *
        generalize verI b.data.toList % 1000 = x2 at *
        generalize hIx : idxV (p.ents.map CEnt.ver) (x0, x1, x2) = I at *
        rw [List.length_map] at hib
        -- one value for each way
        obtain ⟨v, hfv, hrv⟩ : ∃ v : Option Addr, (∀ W, Below w.heap.size w W → Calls Tryz.prog 95 #[.pointer (some ⟨p.b, 0, none⟩), .agg #[.int .i64 x0, .int .i64 x1, .int .i64 x2]] W fun e w' => e = .returned (.pointer v) ∧ Below W.heap.size W w') ∧ ((v = none ∧ r = none) ∨ ∃ en, v = some ⟨en.b, 0, none⟩ ∧ en ∈ p.ents ∧ r = some (ch.set kk (some en))) := by
          by_cases hI0 : I < 0
          · refine ⟨none, fun W hW => (hFI W hW).mono ?_, Or.inl ⟨rfl, by rw [hR, if_pos hI0]⟩⟩
            rintro e w' ⟨⟨v, rfl, h1, _⟩, hb⟩
            exact ⟨by rw [h1 hI0], hb⟩
          · obtain ⟨j, rfl⟩ : ∃ j : Nat, I = (j : Int) := ⟨I.toNat, by omega⟩
            have hj : j < p.ents.length := by omega
            refine ⟨some ⟨p.ents[j].b, 0, none⟩, fun W hW => (hFI W hW).mono ?_, Or.inr ⟨p.ents[j], rfl, List.getElem_mem _, ?_⟩⟩
            · rintro e w' ⟨⟨v, rfl, _, h2⟩, hb⟩
              obtain ⟨en, hen, rfl⟩ := h2 j rfl
              rw [List.getElem?_eq_getElem hj] at hen
              obtain rfl := Option.some.inj hen
              exact ⟨rfl, hb⟩
            · rw [hR, if_neg hI0, Int.toNat_natCast, List.getElem?_eq_getElem hj]
        have HFV : Hid (∀ W, Below w.heap.size w W → Calls Tryz.prog 95 #[.pointer (some ⟨p.b, 0, none⟩), .agg #[.int .i64 x0, .int .i64 x1, .int .i64 x2]] W fun e w' => e = .returned (.pointer v) ∧ Below W.heap.size W w') := hfv
        obtain ⟨pg, pc, hpv, hpgl, hpcell⟩ : ∃ pg pc, pv = .slice (some ⟨pg, 0, none⟩) 2 pc ∧ pg < w.heap.size ∧ w.cell? ⟨pg, kk, none⟩ = some (.pointer (some ⟨p.b, 0, none⟩)) := by
          have hir := (HIW.out w (Below.refl _ _)).1.irow
          rw [HLN.out.2.2.1] at hir
          rcases hir.2 with ⟨_, e0⟩ | ⟨pg, pc, e1, hg, hcc⟩
          · cases e0
          · exact ⟨pg, pc, e1, hg, by rw [hcc kk (by omega), List.getElem?_map, hp]; rfl⟩
        have HIC : Hid (w.cell? ⟨ib, 0, none⟩ = some (.slice (some ⟨pg, 0, none⟩) 2 pc) ∧ ib < w.heap.size) := ⟨by rw [← hpv]; exact (HIW.out w (Below.refl _ _)).1.icell, (HIW.out w (Below.refl _ _)).1.ilt⟩
        have HRV : Hid _ := hrv
        have k3 : (0 : Int) ≤ (kk : Int) := by omega
        have k4 : (kk : Int) < 2 := by omega
        clear hFI hR hib hIx hfv hrv HCH HKK hpv hv hv0
        go_enter Tryz.func60, Tryz.ntmps60
        go_wp2_with fail
        refine Calls.mono HPL.out ?_
        rintro e w2 ⟨rfl, hb2⟩
        have HB2 : Hid (Below w.heap.size w w2) := hb2
        have d1' : w2.cell? ⟨g, 1, none⟩ = some (.string b) := (hb2.cell (p := ⟨g, 1, none⟩) hg).trans d1
        have hg2 : g < w2.heap.size := Nat.lt_of_lt_of_le hg hb2.size
        have HPR' : Hid _ := HPR.out w2 hb2
        clear hb2 HPL HPR
        go_wp2_with fail
        refine Calls.mono HPR'.out ?_
        rintro e w3 ⟨rfl, hb3⟩
        have hb3' : Below w.heap.size w (w3.alloc (.cells #[.int .i64 x0, .int .i64 x1, .int .i64 x2] 56)) := (HB2.out.trans (hb3.mono HB2.out.size)).alloc (Nat.le_trans HB2.out.size hb3.size) _
        have hvb : ∀ o, (w3.alloc (.cells #[.int .i64 x0, .int .i64 x1, .int .i64 x2] 56)).cell? ⟨w3.heap.size, o, none⟩ = #[Value.int .i64 x0, .int .i64 x1, .int .i64 x2][o]? := fun o => World.cell?_alloc_at _ _ _ _ rfl
        have HVB : Hid (∀ o, (w3.alloc (.cells #[.int .i64 x0, .int .i64 x1, .int .i64 x2] 56)).cell? ⟨w3.heap.size, o, none⟩ = #[Value.int .i64 x0, .int .i64 x1, .int .i64 x2][o]?) := hvb
        have HB3 : Hid (Below w.heap.size w (w3.alloc (.cells #[.int .i64 x0, .int .i64 x1, .int .i64 x2] 56))) := hb3'
        clear hb3 hb3' HPR' HB2 d1' hg2 hvb
        go_wp2
        have hv4 : w3.heap.size < (w3.alloc (.cells #[.int .i64 x0, .int .i64 x1, .int .i64 x2] 56)).heap.size := by simp
        generalize w3.alloc (.cells #[.int .i64 x0, .int .i64 x1, .int .i64 x2] 56) = w4 at *
        have q0 : ∀ W, Below w4.heap.size w4 W → W.cell? ⟨ib, 0, none⟩ = some (.slice (some ⟨pg, 0, none⟩) 2 pc) := fun W hW => ((HB3.out.trans (hW.mono HB3.out.size)).cell (p := ⟨ib, 0, none⟩) HIC.out.2).trans HIC.out.1
        have q1 : ∀ W, Below w4.heap.size w4 W → W.cell? ⟨pg, kk, none⟩ = some (.pointer (some ⟨p.b, 0, none⟩)) := fun W hW => ((HB3.out.trans (hW.mono HB3.out.size)).cell (p := ⟨pg, kk, none⟩) hpgl).trans hpcell
        have q2 : ∀ W, Below w4.heap.size w4 W → W.cell? ⟨w3.heap.size, 0, none⟩ = some (.int .i64 x0) := fun W hW => (hW.cell (p := ⟨w3.heap.size, 0, none⟩) hv4).trans (HVB.out 0)
        have q3 : ∀ W, Below w4.heap.size w4 W → W.cell? ⟨w3.heap.size, 1, none⟩ = some (.int .i64 x1) := fun W hW => (hW.cell (p := ⟨w3.heap.size, 1, none⟩) hv4).trans (HVB.out 1)
        have q4 : ∀ W, Below w4.heap.size w4 W → W.cell? ⟨w3.heap.size, 2, none⟩ = some (.int .i64 x2) := fun W hW => (hW.cell (p := ⟨w3.heap.size, 2, none⟩) hv4).trans (HVB.out 2)
        refine wp_region_below (by kernel_rfl) (by kernel_rfl) ?_
        repeat (first
          | go_big_quiet_skip
          | (go_big_quiet_want; go_big_quiet_op; first
              | go_big_quiet_on
              | (apply Exists.intro; refine ⟨fun w' hw' => rfl, ?_⟩; go_big_quiet_on)
              | (apply Exists.intro; refine ⟨fun w' hw' => ?_, ?_⟩; (exact calls_below hw' (HFV.out w' (HB3.out.trans (hw'.mono HB3.out.size)))); go_big_quiet_on)
              | (apply Exists.intro; refine ⟨fun w' hw' => ?_, ?_⟩; (go_simp; rfl); go_big_quiet_on)))
        refine wpQuiet_nil ?_
        intro w5 hb5
        have hb5' : Below w.heap.size w w5 := HB3.out.trans (hb5.mono HB3.out.size)
        have HB5 : Hid (Below w.heap.size w w5) := hb5'
        clear q0 q1 q2 q3 q4 hb5 HFV HVB HB3 hb5' hpcell d0 d1 hv4
        rcases HRV.out with ⟨rfl, hr⟩ | ⟨en, rfl, hen, hr⟩
        · obtain ⟨t, q, hc⟩ := (HSW.out w5 HB5.out).cell 10 (by decide)
          have HX : Hid (ChoEnds wA cb packs r w (.returned (.iface t q)) w5) := HNO.out t q w5 hr HB5.out
          clear HNO HRV hr HPA HSW HIW
          go_wp2
          go_ret
          exact HX.out
        · have hrow := (HIW.out w5 HB5.out).2
          have hl2 : ch.length = 2 := HLN.out.1
          have HX : Hid (ChoEnds wA cb packs r w (.returned .nilIface) (w5.setCell ⟨cb, kk, none⟩ (.pointer (some ⟨en.b, 0, none⟩)))) := by
            refine ⟨⟨fun h => (by rw [hr] at h; cases h), fun s' hs' => ?_⟩, (KeepC.of HB5.out).set ⟨cb, kk, none⟩ (Or.inl rfl) _, (HB5.out.mono HLN.out.2.2.2.1).setCell (p := ⟨cb, kk, none⟩) hrow.cge _⟩
            rw [hr] at hs'
            obtain rfl := Option.some.inj hs'
            exact ⟨rfl, hrow.put (some en) (by rw [hl2]; exact hkk), by rw [List.length_set]; exact hl2, HLN.out.2.1.set kk (some en) (fun e he => by cases he; exact ⟨p, hpm, hen⟩)⟩
          obtain ⟨y, hy⟩ := entV_ptr (ch[kk]'(by rw [hl2]; exact hkk))
          have cc0 := hrow.cells kk _ (List.getElem?_eq_getElem (by rw [hl2]; exact hkk))
          rw [hy] at cc0
          have cf0 := hrow.frz kk
          have hcl := hrow.clt
          clear HNO HRV hr HPA HSW HIW hrow hl2 hy HLN
          go_wp2
          go_ret
          exact HX.out

end Go.Proofs.YtnmclolbndohiaaGreatDoor

/-
  The walk of locks.Read, of a text that it takes.
-/
namespace Go.Proofs.YtnmclolbndohiaaGreatDoor
open Go.RowKit
open Go.Maps
open Ver

def stepL (packs : List CPack) (ch : List (Option CEnt)) (ws : List (List UInt8)) (_ : Int) : Option (List (Option CEnt)) := chooseP packs ch ws
/-- What the reading of a lock keeps: the choice, and the two variables that the function literal holds. -/
structure LkAt (wA : World) (ib xb cb vb : Nat) (packs : List CPack) (t0 t1 : TypeId) (p0 p1 : Value) (m : Int) (ch : List (Option CEnt)) (w : World) : Prop where
  row : RowC wA cb ch w
  len : ch.length = 2
  of : ChOf packs ch
  xc : w.cell? ⟨xb, 0, none⟩ = some (.pointer (some ⟨ib, 0, none⟩))
  xlt : xb < w.heap.size
  xne : xb ≠ cb
  vc : w.cell? ⟨vb, 0, none⟩ = some (.slice (some ⟨cb, 0, none⟩) 2 2)
  vlt : vb < w.heap.size
  vne : vb ≠ cb
  S : Sent w
  G : Glob t0 t1 p0 p1 m w
theorem LkAt.on {wA w w' : World} {ib xb cb vb : Nat} {packs : List CPack} {t0 t1 : TypeId} {p0 p1 : Value} {m : Int} {ch : List (Option CEnt)} (h : LkAt wA ib xb cb vb packs t0 t1 p0 p1 m ch w) (hb : Below w.heap.size w w') : LkAt wA ib xb cb vb packs t0 t1 p0 p1 m ch w' :=
  ⟨h.row.on hb, h.len, h.of, (hb.cell (p := ⟨xb, 0, none⟩) h.xlt).trans h.xc, Nat.lt_of_lt_of_le h.xlt hb.size, h.xne, (hb.cell (p := ⟨vb, 0, none⟩) h.vlt).trans h.vc, Nat.lt_of_lt_of_le h.vlt hb.size, h.vne, h.S.on hb, h.G.on hb h.G.lt⟩
def LkSt (wA : World) (ib xb cb vb : Nat) (packs : List CPack) (t0 t1 : TypeId) (p0 p1 : Value) (m : Int) (ch : List (Option CEnt)) (_ : Int) (w : World) : Prop := LkAt wA ib xb cb vb packs t0 t1 p0 p1 m ch w

set_option maxHeartbeats 1600000 in
set_option maxRecDepth 100000 in
theorem read1_any (wA : World) (ib xb cb vb g : Nat) (pv : Value) (packs : List CPack) (t0 t1 : TypeId) (p0 p1 : Value) (m : Int) (ch : List (Option CEnt)) (P : List ByteArray) (k : Int) (w : World) (hI : IxAt wA ib pv packs) (h2 : packs.length = 2) (hents : ∀ p ∈ packs, p.ents.length ≤ 1000) (h : LkAt wA ib xb cb vb packs t0 t1 p0 p1 m ch w) (hP0 : 0 < P.length) (hPl : P.length ≤ 3001) (hPs : ∀ x ∈ P, x.size ≤ 3000) (hg : g < w.heap.size) (hcells : ∀ j (hj : j < P.length), w.cell? ⟨g, j, none⟩ = some (.string P[j])) :
    Calls Tryz.prog 59 #[.int .i64 k, .slice (some ⟨g, 0, none⟩) P.length P.length, .pointer (some ⟨xb, 0, none⟩), .pointer (some ⟨vb, 0, none⟩)] w fun e w' => ChoEnds wA cb packs (chooseP packs ch (P.map fun x => x.data.toList)) w e w' := by
  have HC : Hid (Calls Tryz.prog 60 #[.pointer (some ⟨ib, 0, none⟩), .slice (some ⟨cb, 0, none⟩) 2 2, .slice (some ⟨g, 0, none⟩) P.length P.length] w fun e w' => ∃ er, e = .returned er ∧ (er = .nilIface ∨ ∃ t p, er = .iface t p) ∧ ChoEnds wA cb packs (chooseP packs ch (P.map fun x => x.data.toList)) w (.returned er) w') := by
    refine (choose_any wA ib cb g P.length pv packs ch P w t0 t1 p0 p1 m hI h.row h.len h.of h2 hents h.S h.G hP0 hPl hPs hg hcells).mono ?_
    intro e w' he
    cases hr : chooseP packs ch (P.map fun x => x.data.toList) with
    | none =>
      obtain ⟨t, p, rfl⟩ := he.1.1 hr
      exact ⟨_, rfl, Or.inr ⟨t, p, rfl⟩, by rw [hr] at he; exact he⟩
    | some s' =>
      obtain ⟨rfl, _⟩ := he.1.2 s' hr
      exact ⟨_, rfl, Or.inl rfl, by rw [hr] at he; exact he⟩
  have c0 := h.xc
  have c1 := h.vc
  generalize chooseP packs ch (P.map fun x => x.data.toList) = r at *
  clear hI h hcells hPs
  go_enter Tryz.func59, Tryz.ntmps59
  go_wp2_with fail
  refine Calls.mono HC.out ?_
  rintro e w2 ⟨er, rfl, hf, h2'⟩
  have HX : Hid (ChoEnds wA cb packs r w (.returned er) w2) := h2'
  clear h2' HC c0 c1
  rcases hf with rfl | ⟨t, p, rfl⟩
  · go_wp2
    go_ret
    exact HX.out
  · go_wp2
    go_ret
    exact HX.out

theorem takesL (wA : World) (ib xb cb vb : Nat) (pv : Value) (packs : List CPack) (t0 t1 : TypeId) (p0 p1 : Value) (m : Int) (hI : IxAt wA ib pv packs) (h2 : packs.length = 2) (hents : ∀ p ∈ packs, p.ents.length ≤ 1000) (hSA : Sent wA) (hGA : Glob t0 t1 p0 p1 m wA) :
    TakesL (LkSt wA ib xb cb vb packs t0 t1 p0 p1 m) (stepL packs) (.pointer (some ⟨xb, 0, none⟩)) (.pointer (some ⟨vb, 0, none⟩)) wA.heap.size m where
  on := fun s k w w' h hb => LkAt.on h hb
  sent := fun s k w h => LkAt.S h
  max := fun s k w h => (LkAt.G h).c2
  base := fun s k w h => (LkAt.row h).below.size
  take := fun s k w0 w g P h hb hgw hP0 hPl hPs hown => by
    have hw : LkAt wA ib xb cb vb packs t0 t1 p0 p1 m s w := LkAt.on h hb
    have hgl := (hown.lt g rfl).2
    refine (read1_any wA ib xb cb vb g pv packs t0 t1 p0 p1 m s P k w hI h2 hents hw hP0 hPl hPs hgl (fun j hj => ?_)).mono ?_
    · rw [hown.cellAt j (by omega), List.getElem?_map, List.getElem?_eq_getElem hj]; rfl
    · intro e w' he
      obtain ⟨⟨h1, h3⟩, hk, hbA⟩ := he
      refine ⟨⟨h1, fun s' hs' => ?_⟩, hbA, fun _ => hw.S.above hbA hSA.lt⟩
      obtain ⟨e1, hr, hl, ho⟩ := h3 s' hs'
      refine ⟨e1, ?_⟩
      exact ⟨hr, hl, ho, (hk.cell xb 0 hw.xlt hw.xne hw.xne).trans hw.xc, Nat.lt_of_lt_of_le hw.xlt hk.size, hw.xne, (hk.cell vb 0 hw.vlt hw.vne hw.vne).trans hw.vc, Nat.lt_of_lt_of_le hw.vlt hk.size, hw.vne, hw.S.above hbA hSA.lt, hw.G.on hbA hGA.lt⟩

theorem RowC.new (w : World) (o : Obj) : RowC w (w.heap.size + 1) [none, none] ((w.alloc o).alloc (.cells #[.pointer none, .pointer none] 124)) := by
  refine ⟨((Below.refl _ _).alloc (Nat.le_refl _) _).alloc (by simp) _, by omega, by simp, fun i e he => ?_, fun i => ?_⟩
  · rw [World.cell?_alloc_at _ _ _ _ (by simp)]
    match i, he with
    | 0, he => cases he; rfl
    | 1, he => cases he; rfl
  · exact World.frozen?_alloc_at _ _ _ _ (by simp)

set_option maxHeartbeats 1600000 in
set_option maxRecDepth 100000 in
theorem lread_any (ib : Nat) (pv : Value) (packs : List CPack) (t0 t1 : TypeId) (p0 p1 : Value) (m : Int) (text : ByteArray) (ch : List (Option CEnt)) (w : World) (hI : IxAt w ib pv packs) (h2 : packs.length = 2) (hents : ∀ p ∈ packs, p.ents.length ≤ 1000) (S : Sent w) (G : Glob t0 t1 p0 p1 m w) (hE : eachP (stepL packs) [none, none] text.data.toList = .ok ch) :
    Calls Tryz.prog 34 #[ptrTo ib, .string text] w fun e w' => e = .returned (.tuple #[.slice (some ⟨w.heap.size + 1, 0, none⟩) 2 2, .nilIface]) ∧ RowC w (w.heap.size + 1) ch w' ∧ ch.length = 2 ∧ ChOf packs ch := by
  have hb3 : Below w.heap.size w (((w.alloc (.cells #[ptrTo ib] 70)).alloc (.cells #[.pointer none, .pointer none] 124)).alloc (.cells #[.slice (some ⟨w.heap.size + 1, 0, none⟩) 2 2] 75)) := (((Below.refl _ _).alloc (Nat.le_refl _) _).alloc (by simp) _).alloc (by simp; omega) _
  have hst : LkSt w ib w.heap.size (w.heap.size + 1) (w.heap.size + 2) packs t0 t1 p0 p1 m [none, none] 1 (((w.alloc (.cells #[ptrTo ib] 70)).alloc (.cells #[.pointer none, .pointer none] 124)).alloc (.cells #[.slice (some ⟨w.heap.size + 1, 0, none⟩) 2 2] 75)) := by
    refine ⟨(RowC.new w _).on ((Below.refl _ _).alloc (Nat.le_refl _) _), rfl, fun e he => by simp at he, ?_, by simp; omega, by omega, ?_, by simp, by omega, S.on hb3, G.on hb3 G.lt⟩
    · rw [World.cell?_alloc_past _ _ _ (by simp; omega), World.cell?_alloc_past _ _ _ (by simp), World.cell?_alloc_at _ _ _ _ rfl]; rfl
    · rw [World.cell?_alloc_at _ _ _ _ (by simp)]; rfl
  have HEA : Hid (Calls Tryz.prog 50 #[.string text, .func (.func 59) #[] #[.pointer (some ⟨w.heap.size, 0, none⟩), .pointer (some ⟨w.heap.size + 2, 0, none⟩)]] (((w.alloc (.cells #[ptrTo ib] 70)).alloc (.cells #[.pointer none, .pointer none] 124)).alloc (.cells #[.slice (some ⟨w.heap.size + 1, 0, none⟩) 2 2] 75)) fun e w' => e = .returned .nilIface ∧ LkAt w ib w.heap.size (w.heap.size + 1) (w.heap.size + 2) packs t0 t1 p0 p1 m ch w') := by
    refine (each_takeL _ (stepL packs) _ _ w.heap.size m (takesL w ib w.heap.size (w.heap.size + 1) (w.heap.size + 2) pv packs t0 t1 p0 p1 m hI h2 hents S G) [none, none] text _ hst).mono ?_
    rintro e w' ⟨he, _⟩
    rw [hE] at he
    obtain ⟨rfl, k, hk⟩ := he
    exact ⟨rfl, hk⟩
  obtain ⟨pa, pc, hpv⟩ := hI.irow.len
  rw [h2] at hpv
  subst hpv
  have ci := hI.icell
  have hil := hI.ilt
  have hmk : ∀ w : World, (Instr.makeSlice 75 (.int .i64 2) (.int .i64 2)).run Tryz.prog w = .ok (.slice (some ⟨w.heap.size, 0, none⟩) 2 2) (w.alloc (.cells #[.pointer none, .pointer none] 124)) := fun _ => by kernel_rfl
  clear hI h2 hents S G hE hb3 hst
  unfold ptrTo at *
  go_enter Tryz.func34, Tryz.ntmps34
  go_wp2_with fail
  refine Calls.mono HEA.out ?_
  rintro e w3 ⟨rfl, h3⟩
  have HX : Hid (RowC w (w.heap.size + 1) ch w3 ∧ ch.length = 2 ∧ ChOf packs ch) := ⟨h3.row, h3.len, h3.of⟩
  have cv := h3.vc
  have hvl := h3.vlt
  clear h3 HEA
  go_wp2
  go_ret2
  exact ⟨rfl, HX.out.1, HX.out.2.1, HX.out.2.2⟩

end Go.Proofs.YtnmclolbndohiaaGreatDoor

/-
  What a choice's lock is, in plain; the roots of a request, in memory.
-/
namespace Go.Proofs.YtnmclolbndohiaaGreatDoor
open Go.RowKit
open Go.Maps
open Ver

def baOf (l : List UInt8) : ByteArray := ⟨l.toArray⟩
theorem baOf_eq {a : ByteArray} {l : List UInt8} (h : a.data.toList = l) : a = baOf l := by
  subst h; cases a; simp [baOf]
def askD (q : PNeed) : DAsk := ⟨baOf q.name, stOf q.c q.v, q.v / 1000000, q.v / 1000 % 1000, q.v % 1000, q.bare, q.feats.map baOf⟩
theorem feats_eq : ∀ (F : List ByteArray) (fs : List (List UInt8)), datas F = fs → F = fs.map baOf
  | [], fs, h => by subst h; rfl
  | a :: r, fs, h => by
    subst h
    show a :: r = baOf a.data.toList :: (datas r).map baOf
    rw [← feats_eq r _ rfl, ← baOf_eq rfl]
theorem ask_rel {c : CAsk} {q : PNeed} (h : AskRel c q) : c.ask = askD q := by
  unfold CAsk.ask askD
  rw [baOf_eq h.name, h.bare, h.st, h.a, h.b, h.d, feats_eq _ _ h.feats]
def qOk (q : PNeed) : Bool := decide (q.feats.length ≤ 1000) && decide (stOf q.c q.v = 0 ∨ stOf q.c q.v = 1 ∨ stOf q.c q.v = 2 ∨ stOf q.c q.v = 3 ∨ stOf q.c q.v = 4)
theorem roots_of {B cb : Nat} {rv : Value} {rs : List CAsk} {qs : List PNeed} {w : World} (h : Forest B w (askHolds cb rv rs)) (ha : All2 AskRel rs qs) (h4 : qs.length ≤ 4) (hq : qs.all qOk = true) : RootsAt w rv rs ∧ rs.map CAsk.ask = qs.map askD := by
  have key : ∀ c ∈ rs, ∃ q, AskRel c q ∧ qOk q = true := fun c hc => by
    obtain ⟨i, hi, rfl⟩ := List.getElem_of_mem hc
    have hl : i < qs.length := by have := ha.len; omega
    exact ⟨qs[i], ha.each i _ _ (List.getElem?_eq_getElem hi) (List.getElem?_eq_getElem hl), List.all_eq_true.1 hq _ (List.getElem_mem _)⟩
  refine ⟨⟨h.row (r := askRow rv rs) (by simp [askHolds]), fun q hq' => h.row (r := q.hold) (by unfold askHolds; simp only [List.mem_cons]; exact Or.inr (Or.inr (List.mem_map.2 ⟨q, hq', rfl⟩))), by have := ha.len; omega, fun c hc => ?_, fun c hc => ?_⟩, ha.map _ _ (fun a b h => ask_rel h)⟩
  · obtain ⟨q, hr, hk⟩ := key c hc
    unfold qOk at hk
    rw [Bool.and_eq_true] at hk
    have := of_decide_eq_true hk.1
    have e : c.feats.length = q.feats.length := by rw [feats_eq _ _ hr.feats, List.length_map]
    omega
  · obtain ⟨q, hr, hk⟩ := key c hc
    unfold qOk at hk
    rw [Bool.and_eq_true] at hk
    rw [hr.st]
    exact of_decide_eq_true hk.2

def lineD (nm : ByteArray) (o : Option DEnt) (row : List ByteArray) : List UInt8 := match o with
  | none => []
  | some e => lineL nm e.v0.toNat e.v1.toNat e.v2.toNat row
def lineOk (nm : ByteArray) (o : Option DEnt) (row : List ByteArray) : Bool := match o with
  | none => true
  | some e => decide (0 ≤ e.v0 ∧ e.v0 < 10 ∧ 0 ≤ e.v1 ∧ e.v1 < 10 ∧ 0 ≤ e.v2 ∧ e.v2 < 10) && decide (nm.size ≤ 1000) && row.all fun x => decide (x.size ≤ 1000)

theorem line_of {w1 w2 w : World} {ib pg pc cb ab k : Nat} {packs : List CPack} {ch : List (Option CEnt)} {F : Nat → List ByteArray} {p : CPack} {o : Option CEnt} (hI : IxAt w ib (.slice (some ⟨pg, 0, none⟩) 2 pc) packs) (h2 : packs.length = 2) (hr : RowC w1 cb ch w) (hO : ChOf packs ch) (hA : AllAt w2 ab 2 F w) (hk : k < 2) (hp : packs[k]? = some p) (ho : ch[k]? = some o) (hok : lineOk p.name (o.map CEnt.abs) (F k) = true) : LineOf w pg cb ab k (lineD p.name (o.map CEnt.abs) (F k)) := by
  have hc := hr.cells k o ho
  cases o with
  | none => exact Or.inl ⟨hc, rfl⟩
  | some e =>
    obtain ⟨p', hp', he'⟩ := hO e (List.mem_of_getElem? ho)
    have hE := hI.ents p' hp' e he'
    have hpm : p ∈ packs := List.mem_of_getElem? hp
    simp only [lineOk, Option.map_some, Bool.and_eq_true, decide_eq_true_eq] at hok
    obtain ⟨⟨⟨a0, a1, b0, b1, c0, c1⟩, hnm⟩, hrow⟩ := hok
    have e0 : (CEnt.abs e).v0 = e.v0 := rfl
    have e1 : (CEnt.abs e).v1 = e.v1 := rfl
    have e2 : (CEnt.abs e).v2 = e.v2 := rfl
    rw [e0] at a0 a1
    rw [e1] at b0 b1
    rw [e2] at c0 c1
    obtain ⟨v, hv, hone⟩ := hA.rows k hk
    obtain ⟨fa, fc, rfl, hrw⟩ : ∃ fa fc, v = .slice fa (F k).length fc ∧ ((F k = [] ∧ fa = none) ∨ ∃ x g, F k = [x] ∧ fa = some ⟨g, 0, none⟩ ∧ g < w.heap.size ∧ w.cell? ⟨g, 0, none⟩ = some (.string x) ∧ x.size ≤ 1000) := by
      rcases hone with ⟨h1, rfl⟩ | ⟨x, g, cap, h1, rfl, h3, h4, h5⟩
      · exact ⟨none, 0, by rw [h1]; rfl, Or.inl ⟨h1, rfl⟩⟩
      · refine ⟨some ⟨g, 0, none⟩, cap, by rw [h1]; rfl, Or.inr ⟨x, g, h1, rfl, h3, h5, ?_⟩⟩
        rw [h1] at hrow
        simpa using hrow
    have hcp : w.cell? ⟨pg, k, none⟩ = some (ptrTo p.b) := by
      have hir := hI.irow
      rw [h2] at hir
      rcases hir.2 with ⟨_, e0⟩ | ⟨pg', pc', e1, hg, hcc⟩
      · cases e0
      · obtain ⟨rfl, _⟩ : pg = pg' ∧ pc = pc' := by simpa using e1
        rw [hcc k (by omega), List.getElem?_map, hp]; rfl
    refine Or.inr ⟨e.b, p.b, p.name, e.v0.toNat, e.v1.toNat, e.v2.toNat, fa, fc, F k, ⟨hc, hE.lt, hcp, (hI.inames p hpm).1, (hI.inames p hpm).2, ⟨?_, ?_, ?_⟩, ⟨by omega, by omega, by omega⟩, hv, hrw, hnm⟩, rfl⟩
    · rw [hE.cells 0 (by omega)]; show some (Value.int .i64 e.v0) = _; rw [Int.toNat_of_nonneg a0]
    · rw [hE.cells 1 (by omega)]; show some (Value.int .i64 e.v1) = _; rw [Int.toNat_of_nonneg b0]
    · rw [hE.cells 2 (by omega)]; show some (Value.int .i64 e.v2) = _; rw [Int.toNat_of_nonneg c0]

def lockD : List ByteArray → List (Option DEnt) → (Nat → List ByteArray) → List UInt8
  | [a, b], [x, y], F => lineD a x (F 0) ++ lineD b y (F 1)
  | _, _, _ => []
def lockOk : List ByteArray → List (Option DEnt) → (Nat → List ByteArray) → Bool
  | [a, b], [x, y], F => lineOk a x (F 0) && lineOk b y (F 1) && decide ((lineD a x (F 0)).length ≤ 5000)
  | _, _, _ => false

theorem lock_any {w1 w2 : World} (ib : Nat) (pv : Value) (packs : List CPack) (cb ab : Nat) (ch : List (Option CEnt)) (F : Nat → List ByteArray) (w : World) (hI : IxAt w ib pv packs) (h2 : packs.length = 2) (hr : RowC w1 cb ch w) (hl : ch.length = 2) (hO : ChOf packs ch) (hA : AllAt w2 ab 2 F w) (hok : lockOk (packs.map CPack.name) (chD ch) F = true) :
    Calls Tryz.prog 33 #[ptrTo ib, .slice (some ⟨cb, 0, none⟩) 2 2, .slice (some ⟨ab, 0, none⟩) 2 2] w fun e w' => e = .returned (.string (baOf (lockD (packs.map CPack.name) (chD ch) F))) ∧ Below w.heap.size w w' := by
  match packs, h2, ch, hl with
  | [p0, p1], h2, [x, y], hl =>
    obtain ⟨pg, pc, rfl, hpg⟩ : ∃ pg pc, pv = .slice (some ⟨pg, 0, none⟩) 2 pc ∧ pg < w.heap.size := by
      rcases hI.irow.2 with ⟨_, e0⟩ | ⟨pg', pc', e1, hg, hcc⟩
      · cases e0
      · exact ⟨pg', pc', e1, hg⟩
    simp only [lockOk, List.map_cons, List.map_nil, chD, Bool.and_eq_true, decide_eq_true_eq] at hok
    exact lwrite_two ib pg pc cb 2 ab 2 _ _ w hI.ilt hpg hr.clt hA.lt hI.icell (line_of (k := 0) hI rfl hr hO hA (by omega) rfl rfl hok.1.1) (line_of (k := 1) hI rfl hr hO hA (by omega) rfl rfl hok.1.2) hok.2

end Go.Proofs.YtnmclolbndohiaaGreatDoor

/-
  The walk of Resolve, of an index of two packages and a request that may be.
-/
namespace Go.Proofs.YtnmclolbndohiaaGreatDoor
open Go.RowKit
open Go.Maps
open Ver

/-- A request that may be, read. -/
theorem roots_any (ib : Nat) (pv : Value) (packs : List CPack) (t0 t1 : TypeId) (p0 p1 : Value) (m : Int) (text : ByteArray) (qs : List PNeed) (w : World) (hI : IxAt w ib pv packs) (S : Sent w) (G : Glob t0 t1 p0 p1 m w) (hreq : eachP stepQ [] text.data.toList = .ok qs) (hmiss : missQ (packN packs) qs 1 = none) (hq : qs.all qOk = true) :
    Calls Tryz.prog 29 #[.string text, .func (.func 30) #[.pointer (some ⟨ib, 0, none⟩)] #[]] w fun e w' => ∃ a n c ras, e = .returned (.tuple #[.slice a n c, .nilIface]) ∧ RootsAt w' (.slice a n c) ras ∧ ras.map CAsk.ask = qs.map askD ∧ Below w.heap.size w w' := by
  refine (readReq_any text (packN packs) ib w t0 t1 p0 p1 m S G (fun W x hW => ?_)).mono ?_
  · have hi := hI.on hW
    exact has_any ib pv packs x W (by have := hI.ifew; omega) hi.ilt hi.icell hi.irow hi.inames
  · rintro e w' ⟨he, hb⟩
    unfold ReqREnds at he
    rw [hreq] at he
    simp only [hmiss] at he
    obtain ⟨cb, rv, rs, rfl, hf, ha, h4⟩ := he
    obtain ⟨hr, hd⟩ := roots_of hf ha h4 hq
    obtain ⟨a, c, hrv⟩ := hr.row.len
    subst hrv
    exact ⟨a, _, c, rs, rfl, hr, hd, hb⟩

/-- What 'Resolve' answers. -/
def resV (nms : List ByteArray) (r : DRes) : Value := if r.ok = true then .tuple #[.string (baOf (lockD nms r.ch (featRow r.st r.ch))), .int .i64 0, .int .i64 0] else .tuple #[.string ⟨#[]⟩, .int .i64 4, .int .i64 0]

set_option maxHeartbeats 1600000 in
set_option maxRecDepth 100000 in
theorem resolve_any (xb ib : Nat) (pv : Value) (packs : List CPack) (t0 t1 : TypeId) (p0 p1 : Value) (m : Int) (text : ByteArray) (qs : List PNeed) (gf n : Nat) (w : World) (hx : w.cell? ⟨xb, 0, none⟩ = some (ptrTo ib)) (hxl : xb < w.heap.size) (hI : IxAt w ib pv packs) (h2 : packs.length = 2) (S : Sent w) (G : Glob t0 t1 p0 p1 m w) (hreq : eachP stepQ [] text.data.toList = .ok qs) (hmiss : missQ (packN packs) qs 1 = none) (hq : qs.all qOk = true)
    (r : DRes) (hr : decP (packN packs) (dsOf packs) (qs.map askD) gf n 0 [none, none] = r) (hbad : r.bad = false) (hlk : r.ok = true → lockOk (packs.map CPack.name) r.ch (featRow r.st r.ch) = true) :
    Calls Tryz.prog 18 #[ptrTo xb, .string text] w fun e w' => e = .returned (resV (packs.map CPack.name) r) ∧ Below w.heap.size w w' := by
  have HRT : Hid _ := roots_any ib pv packs t0 t1 p0 p1 m text qs w hI S G hreq hmiss hq
  have HSO : Hid (∀ (rv : Value) (ras : List CAsk) (W : World), Below w.heap.size w W → RootsAt W rv ras → ras.map CAsk.ask = qs.map askD → Calls Tryz.prog 32 #[.pointer (some ⟨ib, 0, none⟩), rv] W fun e w' => SolEnds W packs r e w') := fun rv ras W hW hR hd => bsol_any ib pv rv packs ras gf n W (hI.on hW) hR h2 r (by rw [hd]; exact hr) hbad
  have HLK : Hid (r.ok = true → ∀ (cb ab : Nat) (ch : List (Option CEnt)) (w1 W : World), Below w.heap.size w W → RowC w1 cb ch W → ch.length = 2 → ChOf packs ch → chD ch = r.ch → AllAt w1 ab 2 (featRow r.st r.ch) W → Calls Tryz.prog 33 #[.pointer (some ⟨ib, 0, none⟩), .slice (some ⟨cb, 0, none⟩) 2 2, .slice (some ⟨ab, 0, none⟩) 2 2] W fun e w' => e = .returned (.string (baOf (lockD (packs.map CPack.name) r.ch (featRow r.st r.ch)))) ∧ Below W.heap.size W w') := fun hok cb ab ch w1 W hW h1 hl hO hcd hA => by
    have := lock_any ib pv packs cb ab ch _ W (hI.on hW) h2 h1 hl hO hA (by rw [hcd]; exact hlk hok)
    rw [hcd] at this
    exact this
  have HV1 : Hid (r.ok = true → resV (packs.map CPack.name) r = .tuple #[.string (baOf (lockD (packs.map CPack.name) r.ch (featRow r.st r.ch))), .int .i64 0, .int .i64 0]) := fun h => by show _ = _; unfold resV; rw [if_pos h]
  have HV0 : Hid (r.ok = false → resV (packs.map CPack.name) r = .tuple #[.string ⟨#[]⟩, .int .i64 4, .int .i64 0]) := fun h => by show _ = _; unfold resV; rw [if_neg (by rw [h]; decide)]
  generalize resV (packs.map CPack.name) r = RV at *
  generalize baOf (lockD (packs.map CPack.name) r.ch (featRow r.st r.ch)) = L at *
  clear hI h2 S G hreq hmiss hq hr hbad hlk
  unfold ptrTo at *
  go_enter Tryz.func18, Tryz.ntmps18
  go_wp2_with fail
  refine Calls.mono HRT.out ?_
  rintro e w2 ⟨ra, rn, rc, ras, rfl, hR, hd, hb2⟩
  have HB2 : Hid (Below w.heap.size w w2) := hb2
  have HSO' : Hid _ := HSO.out _ ras w2 hb2 hR hd
  have hx2 : w2.cell? ⟨xb, 0, none⟩ = some (.pointer (some ⟨ib, 0, none⟩)) := (hb2.cell (p := ⟨xb, 0, none⟩) hxl).trans hx
  have hxl2 : xb < w2.heap.size := Nat.lt_of_lt_of_le hxl hb2.size
  clear hb2 hR hd HRT HSO
  go_wp2_with fail
  refine Calls.mono HSO'.out ?_
  rintro e w3 (⟨hok, rfl, hb3⟩ | ⟨hok, cb, ab, ch, rfl, hrow, hl, hO, hcd, hA⟩)
  · have HX : Hid (RV = .tuple #[.string ⟨#[]⟩, .int .i64 4, .int .i64 0] ∧ Below w.heap.size w w3) := ⟨HV0.out hok, HB2.out.trans (hb3.mono HB2.out.size)⟩
    clear hok hb3 HSO' HB2 HLK HV1 HV0
    go_wp2
    exact bodyPost_ret (v := .tuple #[.string ⟨#[]⟩, .int .i64 4, .int .i64 0]) (by simp [results, Tryz.results18, go_sem]) rfl ⟨by rw [HX.out.1], HX.out.2⟩
  · have HB3 : Hid (Below w.heap.size w w3) := HB2.out.trans (hrow.below.mono HB2.out.size)
    have HLK' : Hid _ := HLK.out hok cb ab ch w2 w3 HB3.out hrow hl hO hcd hA
    have HE : Hid (RV = .tuple #[.string L, .int .i64 0, .int .i64 0]) := HV1.out hok
    have hx3 : w3.cell? ⟨xb, 0, none⟩ = some (.pointer (some ⟨ib, 0, none⟩)) := (HB3.out.cell (p := ⟨xb, 0, none⟩) hxl).trans hx
    have hxl3 : xb < w3.heap.size := Nat.lt_of_lt_of_le hxl HB3.out.size
    clear hok HSO' HB2 HLK HV1 HV0 hrow hl hO hcd hA
    go_wp2_with fail
    refine Calls.mono HLK'.out ?_
    rintro e w4 ⟨rfl, hb4⟩
    have HB4 : Hid (Below w.heap.size w w4) := HB3.out.trans (hb4.mono HB3.out.size)
    clear hb4 HB3 HLK'
    go_wp2
    exact bodyPost_ret (v := .tuple #[.string L, .int .i64 0, .int .i64 0]) (by simp [results, Tryz.results18, go_sem]) rfl ⟨by rw [HE.out], HB4.out⟩

end Go.Proofs.YtnmclolbndohiaaGreatDoor

/-
  The walk of Check, of an index of two packages, a request that may be, and a lock that reads as a choice.
-/
namespace Go.Proofs.YtnmclolbndohiaaGreatDoor
open Go.RowKit
open Go.Maps
open Ver

set_option maxHeartbeats 1600000 in
set_option maxRecDepth 100000 in
theorem check_any (xb ib : Nat) (pv : Value) (packs : List CPack) (t0 t1 : TypeId) (p0 p1 : Value) (m : Int) (text lock : ByteArray) (qs : List PNeed) (ch : List (Option CEnt)) (gf : Nat) (w : World) (hx : w.cell? ⟨xb, 0, none⟩ = some (ptrTo ib)) (hxl : xb < w.heap.size) (hI : IxAt w ib pv packs) (h2 : packs.length = 2) (hents : ∀ p ∈ packs, p.ents.length ≤ 1000) (S : Sent w) (G : Glob t0 t1 p0 p1 m w) (hreq : eachP stepQ [] text.data.toList = .ok qs) (hmiss : missQ (packN packs) qs 1 = none) (hq : qs.all qOk = true)
    (hlock : eachP (stepL packs) [none, none] lock.data.toList = .ok ch) (s : FSt) (hs : gatherP (packN packs) (chD ch) gf (qs.map askD) = s) (hbad : s.bad = false) (A : Int)
    (hcase : ((s.wr || unwantedP s (chD ch)) = true ∧ A = 5) ∨ ((s.wr || unwantedP s (chD ch)) = false ∧ featOk s (chD ch) = true ∧ lockOk (packs.map CPack.name) (chD ch) (featRow s (chD ch)) = true ∧ lockD (packs.map CPack.name) (chD ch) (featRow s (chD ch)) = lock.data.toList ∧ A = 0)) :
    Calls Tryz.prog 19 #[ptrTo xb, .string text, .string lock] w fun e w' => e = .returned (.tuple #[.int .i64 A, .int .i64 0]) ∧ Below w.heap.size w w' := by
  have HRT : Hid _ := roots_any ib pv packs t0 t1 p0 p1 m text qs w hI S G hreq hmiss hq
  have HRD : Hid (∀ W, Below w.heap.size w W → Calls Tryz.prog 34 #[.pointer (some ⟨ib, 0, none⟩), .string lock] W fun e w' => e = .returned (.tuple #[.slice (some ⟨W.heap.size + 1, 0, none⟩) 2 2, .nilIface]) ∧ RowC W (W.heap.size + 1) ch w' ∧ ch.length = 2 ∧ ChOf packs ch) := fun W hW => lread_any ib pv packs t0 t1 p0 p1 m lock ch W (hI.on hW) h2 hents (S.on hW) (G.on hW G.lt) hlock
  have HFT : Hid (∀ (cb : Nat) (rv : Value) (ras : List CAsk) (w1 W : World), Below w.heap.size w W → RowC w1 cb ch W → ch.length = 2 → ChOf packs ch → RootsAt W rv ras → ras.map CAsk.ask = qs.map askD → Calls Tryz.prog 35 #[.pointer (some ⟨ib, 0, none⟩), .slice (some ⟨cb, 0, none⟩) 2 2, rv] W fun e w' => FtEnds W s (chD ch) e w') := fun cb rv ras w1 W hW hr hl hO hR hd => by
    have hiW := hI.on hW
    have hC : ChAt W ib pv packs cb ch := ⟨hiW.ilt, hiW.icell, hiW.irow, hiW.inames, hiW.ifew, hr.clt, hr.cells, fun e he => by
      obtain ⟨p, hp, hep⟩ := hO e he
      exact hiW.ents p hp e hep, by rw [hl]; omega⟩
    have := ffeatures_any W ib pv packs cb 2 ch rv ras gf s (by rw [hd]; exact hs) hl hC hR hbad (fun h0 => by
      rcases hcase with ⟨h1, _⟩ | ⟨_, h1, _⟩
      · rw [h1] at h0; cases h0
      · exact h1)
    unfold chV at this
    rw [hl] at this
    exact this
  have HLK : Hid ((s.wr || unwantedP s (chD ch)) = false → ∀ (cb ab : Nat) (w1 w2 W : World), Below w.heap.size w W → RowC w1 cb ch W → ch.length = 2 → ChOf packs ch → AllAt w2 ab 2 (featRow s (chD ch)) W → Calls Tryz.prog 33 #[.pointer (some ⟨ib, 0, none⟩), .slice (some ⟨cb, 0, none⟩) 2 2, .slice (some ⟨ab, 0, none⟩) 2 2] W fun e w' => e = .returned (.string lock) ∧ Below W.heap.size W w') := fun h0 cb ab w1 w2 W hW h1 hl hO hA => by
    rcases hcase with ⟨h3, _⟩ | ⟨_, _, h3, h4, _⟩
    · rw [h3] at h0; cases h0
    · have := lock_any ib pv packs cb ab ch _ W (hI.on hW) h2 h1 hl hO hA h3
      rw [h4, ← baOf_eq rfl] at this
      exact this
  have HA5 : Hid ((s.wr || unwantedP s (chD ch)) = true → A = 5) := fun h => by
    rcases hcase with ⟨_, h1⟩ | ⟨h1, _⟩
    · exact h1
    · rw [h] at h1; cases h1
  have HA0 : Hid ((s.wr || unwantedP s (chD ch)) = false → A = 0) := fun h => by
    rcases hcase with ⟨h1, _⟩ | ⟨_, _, _, _, h1⟩
    · rw [h] at h1; cases h1
    · exact h1
  clear hI h2 S G hreq hmiss hq hs hbad hcase hents hlock
  unfold ptrTo at *
  go_enter Tryz.func19, Tryz.ntmps19
  go_wp2_with fail
  refine Calls.mono HRT.out ?_
  rintro e w2 ⟨ra, rn, rc, ras, rfl, hR, hd, hb2⟩
  have HB2 : Hid (Below w.heap.size w w2) := hb2
  have HR2 : Hid (RootsAt w2 (.slice ra rn rc) ras ∧ ras.map CAsk.ask = qs.map askD) := ⟨hR, hd⟩
  have HRD' : Hid _ := HRD.out w2 hb2
  have hx2 : w2.cell? ⟨xb, 0, none⟩ = some (.pointer (some ⟨ib, 0, none⟩)) := (hb2.cell (p := ⟨xb, 0, none⟩) hxl).trans hx
  have hxl2 : xb < w2.heap.size := Nat.lt_of_lt_of_le hxl hb2.size
  clear hb2 hR hd HRT HRD
  go_wp2_with fail
  refine Calls.mono HRD'.out ?_
  rintro e w3 ⟨rfl, hrow, hl, hO⟩
  have HB3 : Hid (Below w.heap.size w w3) := HB2.out.trans (hrow.below.mono HB2.out.size)
  have HRW : Hid (RowC w2 (w2.heap.size + 1) ch w3 ∧ ch.length = 2 ∧ ChOf packs ch) := ⟨hrow, hl, hO⟩
  have HFT' : Hid _ := HFT.out (w2.heap.size + 1) _ ras w2 w3 HB3.out hrow hl hO (HR2.out.1.on hrow.below) HR2.out.2
  have hx3 : w3.cell? ⟨xb, 0, none⟩ = some (.pointer (some ⟨ib, 0, none⟩)) := (HB3.out.cell (p := ⟨xb, 0, none⟩) hxl).trans hx
  have hxl3 : xb < w3.heap.size := Nat.lt_of_lt_of_le hxl HB3.out.size
  clear hrow hl hO HR2 HRD' HFT HB2
  go_wp2_with fail
  refine Calls.mono HFT'.out ?_
  rintro e w4 (⟨hu, rfl, hb4⟩ | ⟨hu, ab, rfl, hA⟩)
  · have HX : Hid (A = 5 ∧ Below w.heap.size w w4) := ⟨HA5.out hu, HB3.out.trans (hb4.mono HB3.out.size)⟩
    clear hu hb4 HFT' HB3 HLK HA5 HA0 HRW
    go_wp2
    go_ret2
    exact ⟨by rw [HX.out.1]; rfl, HX.out.2⟩
  · have HB4 : Hid (Below w.heap.size w w4) := HB3.out.trans (hA.below.mono HB3.out.size)
    have HLK' : Hid _ := HLK.out hu (w2.heap.size + 1) ab w2 w3 w4 HB4.out (HRW.out.1.on hA.below) HRW.out.2.1 HRW.out.2.2 hA
    have HA : Hid (A = 0) := HA0.out hu
    have hx4 : w4.cell? ⟨xb, 0, none⟩ = some (.pointer (some ⟨ib, 0, none⟩)) := (HB4.out.cell (p := ⟨xb, 0, none⟩) hxl).trans hx
    have hxl4 : xb < w4.heap.size := Nat.lt_of_lt_of_le hxl HB4.out.size
    clear hu hA HFT' HB3 HLK HA5 HA0 HRW
    go_wp2_with fail
    refine Calls.mono HLK'.out ?_
    rintro e w5 ⟨rfl, hb5⟩
    have HB5 : Hid (Below w.heap.size w w5) := HB4.out.trans (hb5.mono HB4.out.size)
    clear hb5 HB4 HLK'
    go_wp2
    go_ret2
    exact ⟨by rw [HA.out]; rfl, HB5.out⟩

end Go.Proofs.YtnmclolbndohiaaGreatDoor

/-
  The index that Load gives, as the search and the lock's reading want it; its entries in plain.
-/
namespace Go.Proofs.YtnmclolbndohiaaGreatDoor
open Go.RowKit
open Go.Maps
open Ver

theorem All2.mem {α β : Type} {R : α → β → Prop} {l : List α} {m : List β} (h : All2 R l m) {a : α} (ha : a ∈ l) : ∃ b ∈ m, R a b := by
  obtain ⟨i, hi, rfl⟩ := List.getElem_of_mem ha
  have hl : i < m.length := by have := h.len; omega
  exact ⟨m[i], List.getElem_mem _, h.each i _ _ (List.getElem?_eq_getElem hi) (List.getElem?_eq_getElem hl)⟩
/-- The demands of a line, and how many features it asks for. -/
def needOk (n : PNeed × Int) : Bool := qOk n.1
theorem RdRel.ent {r : CRd} {p : PIdx} (h : RdRel r p) {q : CPack} (hq : q ∈ r.packs) {c : CEnt} (hc : c ∈ q.ents) : ∃ e ∈ p.ents, EntRel c e := by
  obtain ⟨k, hk, rfl⟩ := List.getElem_of_mem hq
  obtain ⟨e, he, hr⟩ := (h.ents k _ (List.getElem?_eq_getElem hk)).mem hc
  exact ⟨e, (List.mem_filter.1 he).1, hr⟩
theorem ent_at {B rb : Nat} {r : CRd} {w : World} {p : PIdx} (h : RdR B rb [] r w) (hr : RdRel r p) (hb : Bd p) (hn : p.ents.all (fun e => e.needs.all needOk) = true) {q : CPack} (hq : q ∈ r.packs) {c : CEnt} (hc : c ∈ q.ents) : EntAt w c := by
  obtain ⟨e, he, hrel⟩ := hr.ent hq hc
  have mem : ∀ x ∈ c.holds, x.own B w := fun x hx => h.own (by
    simp only [CRd.holds, List.mem_cons, List.mem_flatMap]
    refine Or.inr (Or.inr (Or.inr (Or.inr ⟨q, hq, ?_⟩)))
    simp only [CPack.holds, List.mem_cons, List.mem_flatMap]
    exact Or.inr (Or.inr ⟨c, hc, hx⟩))
  have hne : ∀ n ∈ e.needs, qOk n.1 = true := fun n hn' => List.all_eq_true.1 (List.all_eq_true.1 hn e he) n hn'
  have hbx : c.hb.own B w := mem _ (by simp [CEnt.holds])
  have l1 : c.needs.length = e.needs.length := hrel.needs.len
  have l2 : c.feats.length = e.feats.length := hrel.feats.len
  have b1 := hb.each e he
  refine ⟨(boxed_lt hbx).2, fun o ho => boxed_cell hbx o ho, RowR.of_owns (mem c.hn (by simp [CEnt.holds])), RowR.of_owns (mem c.hf (by simp [CEnt.holds])), fun n hn' => RowR.of_owns (mem n.hold ?_), fun f hf => RowR.of_owns (mem f.hold ?_), ⟨by omega, by omega⟩, ⟨fun n hn' => ?_, fun f hf => ?_⟩, fun n hn' => ?_⟩
  · unfold CEnt.holds
    simp only [List.mem_cons, List.mem_append]
    exact Or.inr (Or.inr (Or.inr (Or.inl (List.mem_map.2 ⟨n, hn', rfl⟩))))
  · unfold CEnt.holds
    simp only [List.mem_cons, List.mem_append]
    exact Or.inr (Or.inr (Or.inr (Or.inr (List.mem_map.2 ⟨f, hf, rfl⟩))))
  · obtain ⟨y, hy, hyr⟩ := hrel.needs.mem hn'
    have hk := hne y hy
    unfold qOk at hk
    rw [Bool.and_eq_true] at hk
    have := of_decide_eq_true hk.1
    have e1 : n.feats.length = y.1.feats.length := by rw [feats_eq _ _ hyr.feats, List.length_map]
    omega
  · obtain ⟨y, hy, hyr⟩ := hrel.feats.mem hf
    have := hb.items e he y hy
    have e1 : f.items.length = y.items.length := by rw [← hyr.items, List.length_map]
    omega
  · obtain ⟨y, hy, hyr⟩ := hrel.needs.mem hn'
    have hk := hne y hy
    unfold qOk at hk
    rw [Bool.and_eq_true] at hk
    rw [hyr.st]
    exact of_decide_eq_true hk.2

theorem ix_of {B rb : Nat} {r : CRd} {w : World} {p : PIdx} (h : RdR B rb [] r w) (hr : RdRel r p) (hb : Bd p) (hn : p.ents.all (fun e => e.needs.all needOk) = true) : IxAt w r.ib r.pv r.packs := by
  have hi := h.index
  have hl : r.packs.length = p.names.length := by rw [← hr.names, List.length_map]
  refine ⟨hi.1, hi.2.2.1, RowR.of_owns (h.own (x := r.hp) (by simp [CRd.holds])), fun q hq => ⟨(h.pack hq).1, (h.pack hq).2.2.1⟩, by have := hb.names; omega, fun q hq => ⟨(h.pack hq).2.2.2, RowR.of_owns (h.own (x := q.he) ?_)⟩, fun q hq c hc => ent_at h hr hb hn hq hc⟩
  simp only [CRd.holds, List.mem_cons, List.mem_flatMap]
  exact Or.inr (Or.inr (Or.inr (Or.inr ⟨q, hq, by simp [CPack.holds]⟩)))

/-- An entry of the text, in plain: of the items 'dep:' alone. -/
def itemD (y : List UInt8 × List UInt8 × Bool) : CItem := ⟨1, baOf y.1, baOf y.2.1⟩
def entD (e : PEnt) : DEnt := ⟨e.ver / 1000000, e.ver / 1000 % 1000, e.ver % 1000, e.needs.map fun n => (askD n.1, n.1.opt), e.feats.map fun f => (baOf f.name, f.items.map itemD)⟩
def itemOk (y : List UInt8 × List UInt8 × Bool) : Bool := !y.1.isEmpty && y.2.1.isEmpty
theorem item_rel {y : CItem} (h : y.Ok) (hk : itemOk y.abs = true) : y = itemD y.abs := by
  obtain ⟨k, pk, ft⟩ := y
  unfold itemOk CItem.abs at hk
  simp only [Bool.and_eq_true, Bool.not_eq_true', List.isEmpty_iff, List.isEmpty_eq_false_iff] at hk
  have hk1 : k = 1 := h.dep.2 hk
  subst hk1
  unfold itemD CItem.abs
  rw [← baOf_eq rfl, ← baOf_eq rfl]
theorem need_rel {c : CNeed} {n : PNeed × Int} (h : NeedRel c n) : (c.ask, c.opt) = (askD n.1, n.1.opt) := by
  unfold CNeed.ask askD
  rw [baOf_eq h.name, h.bare, h.st, h.a, h.b, h.d, feats_eq _ _ h.feats, h.opt]
theorem ent_rel {c : CEnt} {e : PEnt} (h : EntRel c e) (hk : e.feats.all (fun f => f.items.all itemOk) = true) : c.abs = entD e := by
  unfold CEnt.abs entD
  rw [h.v0, h.v1, h.v2, h.needs.map (fun n => (n.ask, n.opt)) (fun n => (askD n.1, n.1.opt)) (fun a b hab => need_rel hab)]
  congr 1
  have hl := h.feats.len
  apply List.ext_getElem?
  intro i
  rw [List.getElem?_map, List.getElem?_map]
  rcases Nat.lt_or_ge i c.feats.length with hi | hi
  · have hi2 : i < e.feats.length := by omega
    rw [List.getElem?_eq_getElem hi, List.getElem?_eq_getElem hi2]
    simp only [Option.map_some]
    have hr := h.feats.each i _ _ (List.getElem?_eq_getElem hi) (List.getElem?_eq_getElem hi2)
    have hki := List.all_eq_true.1 hk _ (List.getElem_mem hi2)
    congr 1
    rw [Prod.mk.injEq]
    refine ⟨baOf_eq hr.name, ?_⟩
    rw [← hr.items, List.map_map]
    have : ∀ y ∈ c.feats[i].items, y = (itemD ∘ CItem.abs) y := fun y hy => item_rel (hr.ok y hy) (List.all_eq_true.1 hki _ (by rw [← hr.items]; exact List.mem_map.2 ⟨y, hy, rfl⟩))
    exact (List.map_id _).symm.trans (List.map_congr_left this)
  · rw [List.getElem?_eq_none hi, List.getElem?_eq_none (by omega)]; rfl

def entsD (p : PIdx) (k : Nat) : List DEnt := (p.ents.filter fun e => decide (e.pack = (k : Int))).map entD
theorem ds_of {r : CRd} {p : PIdx} (h : RdRel r p) (hk : p.ents.all (fun e => e.feats.all (fun f => f.items.all itemOk)) = true) : dsOf r.packs = (List.range p.names.length).map (entsD p) := by
  have hl : r.packs.length = p.names.length := by rw [← h.names, List.length_map]
  unfold dsOf
  apply List.ext_getElem?
  intro k
  rw [List.getElem?_map, List.getElem?_map]
  rcases Nat.lt_or_ge k r.packs.length with hkl | hkl
  · rw [List.getElem?_eq_getElem hkl, List.getElem?_eq_getElem (by simpa using (by omega : k < p.names.length))]
    simp only [Option.map_some, List.getElem_range]
    congr 1
    unfold entsD
    have ha := h.ents k _ (List.getElem?_eq_getElem hkl)
    have ha' : All2 (fun c e => EntRel c e ∧ e ∈ p.ents) r.packs[k].ents (p.ents.filter fun e => decide (e.pack = (k : Int))) := ha.mono (fun a b _ hb hab => ⟨hab, (List.mem_filter.1 hb).1⟩)
    exact ha'.map _ _ (fun a b hab => ent_rel hab.1 (List.all_eq_true.1 hk _ hab.2))
  · rw [List.getElem?_eq_none hkl, List.getElem?_eq_none (by simp; omega)]; rfl
theorem name_of {r : CRd} {p : PIdx} (h : RdRel r p) : r.packs.map CPack.name = p.names.map baOf := by
  rw [← h.names, List.map_map]
  exact List.map_congr_left (fun q _ => baOf_eq rfl)

end Go.Proofs.YtnmclolbndohiaaGreatDoor

/-
  A lock's choice, in plain.
-/
namespace Go.Proofs.YtnmclolbndohiaaGreatDoor
open Go.RowKit
open Go.Maps
open Ver

def DEnt.ver (e : DEnt) : Int × Int × Int := (e.v0, e.v1, e.v2)
def chooseD (names : List (List UInt8)) (ds : List (List DEnt)) (ch : List (Option DEnt)) : List (List UInt8) → Option (List (Option DEnt))
  | a :: b :: _ =>
    if idxL names a < 0 then none else if verI b < 0 then none else
    match ds[(idxL names a).toNat]? with
    | none => none
    | some l => if idxV (l.map DEnt.ver) (verI b / 1000000, verI b / 1000 % 1000, verI b % 1000) < 0 then none else
      match l[(idxV (l.map DEnt.ver) (verI b / 1000000, verI b / 1000 % 1000, verI b % 1000)).toNat]? with
      | some e => some (ch.set (idxL names a).toNat (some e))
      | none => none
  | _ => none
theorem choose_map (packs : List CPack) (ch : List (Option CEnt)) : ∀ ws : List (List UInt8), (chooseP packs ch ws).map chD = chooseD (packN packs) (dsOf packs) (chD ch) ws
  | [] => rfl
  | [_] => rfl
  | a :: b :: r => by
    unfold chooseP chooseD
    dsimp only
    by_cases h1 : idxL (packN packs) a < 0
    · rw [if_pos h1, if_pos h1]; rfl
    · rw [if_neg h1, if_neg h1]
      by_cases h2 : verI b < 0
      · rw [if_pos h2, if_pos h2]; rfl
      · rw [if_neg h2, if_neg h2]
        have hd : (dsOf packs)[(idxL (packN packs) a).toNat]? = (packs[(idxL (packN packs) a).toNat]?).map fun p => p.ents.map CEnt.abs := by unfold dsOf; rw [List.getElem?_map]
        rw [hd]
        cases packs[(idxL (packN packs) a).toNat]? with
        | none => rfl
        | some p =>
          have hv : (p.ents.map CEnt.abs).map DEnt.ver = p.ents.map CEnt.ver := by rw [List.map_map]; rfl
          simp only [Option.map_some]
          rw [hv]
          by_cases h3 : idxV (p.ents.map CEnt.ver) (verI b / 1000000, verI b / 1000 % 1000, verI b % 1000) < 0
          · rw [if_pos h3, if_pos h3]; rfl
          · rw [if_neg h3, if_neg h3]
            unfold findE
            rw [List.getElem?_map]
            cases p.ents[(idxV (p.ents.map CEnt.ver) (verI b / 1000000, verI b / 1000 % 1000, verI b % 1000)).toNat]? with
            | none => rfl
            | some e =>
              simp only [Option.map_some]
              rw [chD_set]; rfl

theorem stepAll_map {σ τ : Type} (φ : σ → τ) (f : σ → List (List UInt8) → Int → Option σ) (g : τ → List (List UInt8) → Int → Option τ) (h : ∀ s ws k, (f s ws k).map φ = g (φ s) ws k) : ∀ (l : List (List UInt8)) (s : σ) (k : Int) (t : τ), stepAll g (φ s) l k = .ok t → ∃ s', stepAll f s l k = .ok s' ∧ φ s' = t
  | [], s, k, t, ht => ⟨s, rfl, by cases ht; rfl⟩
  | a :: r, s, k, t, ht => by
    unfold stepAll at ht ⊢
    rw [← h] at ht
    cases hf : f s (cutL 32 a) k with
    | none => rw [hf] at ht; cases ht
    | some s1 =>
      rw [hf] at ht
      exact stepAll_map φ f g h r s1 (k + 1) t ht
theorem each_map {σ τ : Type} (φ : σ → τ) (f : σ → List (List UInt8) → Int → Option σ) (g : τ → List (List UInt8) → Int → Option τ) (h : ∀ s ws k, (f s ws k).map φ = g (φ s) ws k) (l : List UInt8) (s : σ) (t : τ) (ht : eachP g (φ s) l = .ok t) : ∃ s', eachP f s l = .ok s' ∧ φ s' = t := by
  unfold eachP at ht ⊢
  by_cases h1 : 3000 < l.length
  · rw [if_pos h1] at ht; cases ht
  · rw [if_neg h1] at ht ⊢
    unfold contL at ht ⊢
    cases hs : stepAll g (φ s) (cutL 10 l).dropLast 1 with
    | error j => rw [hs] at ht; cases ht
    | ok t1 =>
      rw [hs] at ht
      obtain ⟨s1, e1, e2⟩ := stepAll_map φ f g h _ s 1 t1 hs
      rw [e1]
      simp only at ht ⊢
      by_cases h2 : (cutL 10 l).getLast?.getD [] ≠ []
      · rw [if_pos h2] at ht; cases ht
      · rw [if_neg h2] at ht ⊢
        exact ⟨s1, rfl, by rw [e2]; cases ht; rfl⟩
def stepD (names : List (List UInt8)) (ds : List (List DEnt)) (ch : List (Option DEnt)) (ws : List (List UInt8)) (_ : Int) : Option (List (Option DEnt)) := chooseD names ds ch ws
theorem lock_map (packs : List CPack) (l : List UInt8) (d : List (Option DEnt)) (h : eachP (stepD (packN packs) (dsOf packs)) [none, none] l = .ok d) : ∃ ch, eachP (stepL packs) [none, none] l = .ok ch ∧ chD ch = d :=
  each_map chD (stepL packs) (stepD (packN packs) (dsOf packs)) (fun s ws _ => choose_map packs s ws) l [none, none] d h

end Go.Proofs.YtnmclolbndohiaaGreatDoor

/-
  The document's first example, reckoned in plain.
-/
namespace Go.Proofs.YtnmclolbndohiaaGreatDoor
open Go.RowKit
open Go.Maps
open Ver

def exL : List UInt8 := [112, 97, 99, 107, 97, 103, 101, 32, 97, 32, 49, 46, 48, 46, 48, 10, 110, 101, 101, 100, 115, 32, 98, 32, 94, 49, 46, 50, 46, 48, 32, 111, 112, 116, 105, 111, 110, 97, 108, 10, 102, 101, 97, 116, 117, 114, 101, 32, 100, 101, 102, 97, 117, 108, 116, 32, 100, 101, 112, 58, 98, 10, 112, 97, 99, 107, 97, 103, 101, 32, 97, 32, 49, 46, 49, 46, 48, 10, 110, 101, 101, 100, 115, 32, 98, 32, 62, 61, 50, 46, 48, 46, 48, 10, 112, 97, 99, 107, 97, 103, 101, 32, 98, 32, 49, 46, 52, 46, 48, 10, 102, 101, 97, 116, 117, 114, 101, 32, 120, 10, 112, 97, 99, 107, 97, 103, 101, 32, 98, 32, 48, 46, 57, 46, 48, 10]
def exQ1 : List UInt8 := [114, 111, 111, 116, 32, 97, 32, 42, 10]
def exQ2 : List UInt8 := [114, 111, 111, 116, 32, 97, 32, 62, 61, 49, 46, 49, 46, 48, 10]
def exQ3 : List UInt8 := [114, 111, 111, 116, 32, 97, 32, 42, 32, 98, 97, 114, 101, 10]
def exLock : List UInt8 := [97, 32, 49, 46, 48, 46, 48, 32, 43, 100, 101, 102, 97, 117, 108, 116, 10, 98, 32, 49, 46, 52, 46, 48, 10]
def exN1 : PNeed := ⟨[98], 94, 1002000, true, false, []⟩
def exN2 : PNeed := ⟨[98], 62, 2000000, false, false, []⟩
def exF1 : PFeat := ⟨[100, 101, 102, 97, 117, 108, 116], [([98], [], false)], 3⟩
def exF2 : PFeat := ⟨[120], [], 7⟩
def exP : PIdx := ⟨[[97], [98]], [⟨0, 1000000, [49, 46, 48, 46, 48], [(exN1, 2)], [exF1]⟩, ⟨0, 1001000, [49, 46, 49, 46, 48], [(exN2, 5)], []⟩, ⟨1, 1004000, [49, 46, 52, 46, 48], [], [exF2]⟩, ⟨1, 9000, [48, 46, 57, 46, 48], [], []⟩]⟩
def exM : List PMen := [⟨2, 0, .inl exN1⟩, ⟨3, 0, .inr exF1⟩, ⟨5, 1, .inl exN2⟩, ⟨7, 2, .inr exF2⟩]
def exA1 : List PNeed := [⟨[97], 42, 0, false, false, []⟩]
def exA2 : List PNeed := [⟨[97], 62, 1001000, false, false, []⟩]
def exA3 : List PNeed := [⟨[97], 42, 0, false, true, []⟩]
def exDs : List (List DEnt) := (List.range exP.names.length).map (entsD exP)
def exR1 : DRes := decP exP.names exDs (exA1.map askD) 30 4 0 [none, none]
def exR2 : DRes := decP exP.names exDs (exA2.map askD) 30 4 0 [none, none]

set_option maxRecDepth 1000000 in
theorem ex_load : eachP step2 (⟨[], []⟩, []) exL = .ok (exP, exM) := by kernel_rfl
theorem ex_first (V : NoV) : firstV V exP exM = none := by kernel_rfl
theorem ex_bad : exM.all (fun y => !badM exP y) = true := by kernel_rfl
theorem ex_q1 : eachP stepQ [] exQ1 = .ok exA1 := by kernel_rfl
theorem ex_q2 : eachP stepQ [] exQ2 = .ok exA2 := by kernel_rfl
theorem ex_q3 : eachP stepQ [] exQ3 = .ok exA3 := by kernel_rfl
theorem ex_m1 : missQ exP.names exA1 1 = none := by kernel_rfl
theorem ex_m2 : missQ exP.names exA2 1 = none := by kernel_rfl
theorem ex_m3 : missQ exP.names exA3 1 = none := by kernel_rfl
theorem ex_k1 : exA1.all qOk = true := by kernel_rfl
theorem ex_k2 : exA2.all qOk = true := by kernel_rfl
theorem ex_k3 : exA3.all qOk = true := by kernel_rfl
theorem ex_needs : exP.ents.all (fun e => e.needs.all needOk) = true := by kernel_rfl
theorem ex_items : exP.ents.all (fun e => e.feats.all (fun f => f.items.all itemOk)) = true := by kernel_rfl
set_option maxRecDepth 1000000 in
theorem ex_r1 : exR1.bad = false ∧ exR1.ok = true := ⟨by kernel_rfl, by kernel_rfl⟩
set_option maxRecDepth 1000000 in
theorem ex_r2 : exR2.bad = false ∧ exR2.ok = false := ⟨by kernel_rfl, by kernel_rfl⟩
set_option maxRecDepth 1000000 in
theorem ex_lok : lockOk (exP.names.map baOf) exR1.ch (featRow exR1.st exR1.ch) = true := by kernel_rfl
set_option maxRecDepth 1000000 in
theorem ex_lock : lockD (exP.names.map baOf) exR1.ch (featRow exR1.st exR1.ch) = exLock := by kernel_rfl
def exCh : List (Option DEnt) := [some (entD ⟨0, 1000000, [49, 46, 48, 46, 48], [(exN1, 2)], [exF1]⟩), some (entD ⟨1, 1004000, [49, 46, 52, 46, 48], [], [exF2]⟩)]
set_option maxRecDepth 1000000 in
theorem ex_read : eachP (stepD exP.names exDs) [none, none] exLock = .ok exCh := by kernel_rfl
def exS1 : FSt := gatherP exP.names exCh 30 (exA1.map askD)
def exS3 : FSt := gatherP exP.names exCh 30 (exA3.map askD)
set_option maxRecDepth 1000000 in
theorem ex_s1 : exS1.bad = false ∧ (exS1.wr || unwantedP exS1 exCh) = false ∧ featOk exS1 exCh = true := ⟨by kernel_rfl, by kernel_rfl, by kernel_rfl⟩
set_option maxRecDepth 1000000 in
theorem ex_s1l : lockOk (exP.names.map baOf) exCh (featRow exS1 exCh) = true ∧ lockD (exP.names.map baOf) exCh (featRow exS1 exCh) = exLock := ⟨by kernel_rfl, by kernel_rfl⟩
set_option maxRecDepth 1000000 in
theorem ex_s3 : exS3.bad = false ∧ (exS3.wr || unwantedP exS3 exCh) = true := ⟨by kernel_rfl, by kernel_rfl⟩

end Go.Proofs.YtnmclolbndohiaaGreatDoor

/-
  The walk of the statements' 'known': the document's first example.
-/
namespace Go.Proofs.YtnmclolbndohiaaGreatDoor
open Go.RowKit
open Go.Maps
open Ver

/-- The example's index, as Load gives it. -/
structure ExAt (xb ib : Nat) (pv : Value) (packs : List CPack) (w : World) : Prop where
  cell : w.cell? ⟨xb, 0, none⟩ = some (.pointer (some ⟨ib, 0, none⟩))
  lt : xb < w.heap.size
  ix : IxAt w ib pv packs
  two : packs.length = 2
  names : packN packs = exP.names
  ds : dsOf packs = exDs
  nms : packs.map CPack.name = exP.names.map baOf
  few : ∀ p ∈ packs, p.ents.length ≤ 1000
theorem ExAt.on {xb ib : Nat} {pv : Value} {packs : List CPack} {w w' : World} (h : ExAt xb ib pv packs w) (hb : Below w.heap.size w w') : ExAt xb ib pv packs w' :=
  ⟨(hb.cell (p := ⟨xb, 0, none⟩) h.lt).trans h.cell, Nat.lt_of_lt_of_le h.lt hb.size, h.ix.on hb, h.two, h.names, h.ds, h.nms, h.few⟩

set_option maxRecDepth 100000 in
theorem exLoad_any (V : NoV) (w : World) (t0 t1 : TypeId) (p0 p1 : Value) (m : Int) (S : Sent w) (G : Glob t0 t1 p0 p1 m w) (hV : NoAt V w) (hT : ErrT w) (hgn : 29 ≤ w.heap.size) :
    Calls Tryz.prog 22 #[.string (baOf exL)] w fun e w' => ∃ xb ib pv packs, e = .returned (.tuple #[.pointer (some ⟨xb, 0, none⟩), .int .i64 0, .int .i64 0]) ∧ ExAt xb ib pv packs w' ∧ Below w.heap.size w w' := by
  have h1 : eachP step2 (⟨[], []⟩, []) (baOf exL).data.toList = .ok (exP, exM) := ex_load
  refine (load_any (baOf exL) V w t0 t1 p0 p1 m S G hV (Or.inr (fun p ms hpm y hy => ?_)) hT hgn).mono ?_
  · rw [h1] at hpm
    cases hpm
    have := List.all_eq_true.1 ex_bad y hy
    simpa using this
  rintro e w' ⟨he, hb⟩
  unfold LoadCEnds at he
  rw [h1] at he
  simp only [ex_first] at he
  obtain ⟨xb, rb, r, rfl, hc, hf, hbd⟩ := he
  have hrel : RdRel r exP := hf.rel
  have hl : r.packs.length = 2 := by
    have e : r.packs.length = exP.names.length := by rw [← hrel.names, List.length_map]
    exact e
  refine ⟨xb, r.ib, r.pv, r.packs, rfl, ⟨hc.cell, hc.lt, ix_of hc.rd hrel hbd ex_needs, hl, hrel.names, ds_of hrel ex_items, name_of hrel, fun p hp => ?_⟩, hb⟩
  obtain ⟨k, hk, rfl⟩ := List.getElem_of_mem hp
  have e := (hrel.ents k _ (List.getElem?_eq_getElem hk)).len
  have h4 := hbd.vers (k : Int)
  unfold manyOf at h4
  omega

theorem exRes1_any {xb ib : Nat} {pv : Value} {packs : List CPack} (w : World) (t0 t1 : TypeId) (p0 p1 : Value) (m : Int) (h : ExAt xb ib pv packs w) (S : Sent w) (G : Glob t0 t1 p0 p1 m w) :
    Calls Tryz.prog 18 #[.pointer (some ⟨xb, 0, none⟩), .string (baOf exQ1)] w fun e w' => e = .returned (.tuple #[.string (baOf exLock), .int .i64 0, .int .i64 0]) ∧ Below w.heap.size w w' := by
  have := resolve_any xb ib pv packs t0 t1 p0 p1 m (baOf exQ1) exA1 30 4 w h.cell h.lt h.ix h.two S G ex_q1 (by rw [h.names]; exact ex_m1) ex_k1 exR1 (by rw [h.names, h.ds]; rfl) ex_r1.1 (fun _ => by rw [h.nms]; exact ex_lok)
  unfold resV at this
  rw [if_pos ex_r1.2, h.nms, ex_lock] at this
  exact this
theorem exRes2_any {xb ib : Nat} {pv : Value} {packs : List CPack} (w : World) (t0 t1 : TypeId) (p0 p1 : Value) (m : Int) (h : ExAt xb ib pv packs w) (S : Sent w) (G : Glob t0 t1 p0 p1 m w) :
    Calls Tryz.prog 18 #[.pointer (some ⟨xb, 0, none⟩), .string (baOf exQ2)] w fun e w' => e = .returned (.tuple #[.string ⟨#[]⟩, .int .i64 4, .int .i64 0]) ∧ Below w.heap.size w w' := by
  have := resolve_any xb ib pv packs t0 t1 p0 p1 m (baOf exQ2) exA2 30 4 w h.cell h.lt h.ix h.two S G ex_q2 (by rw [h.names]; exact ex_m2) ex_k2 exR2 (by rw [h.names, h.ds]; rfl) ex_r2.1 (fun h' => by rw [ex_r2.2] at h'; cases h')
  unfold resV at this
  rw [if_neg (by rw [ex_r2.2]; decide)] at this
  exact this
theorem exChk1_any {xb ib : Nat} {pv : Value} {packs : List CPack} (w : World) (t0 t1 : TypeId) (p0 p1 : Value) (m : Int) (h : ExAt xb ib pv packs w) (S : Sent w) (G : Glob t0 t1 p0 p1 m w) :
    Calls Tryz.prog 19 #[.pointer (some ⟨xb, 0, none⟩), .string (baOf exQ1), .string (baOf exLock)] w fun e w' => e = .returned (.tuple #[.int .i64 0, .int .i64 0]) ∧ Below w.heap.size w w' := by
  obtain ⟨ch, hch, hcd⟩ := lock_map packs exLock exCh (by rw [h.names, h.ds]; exact ex_read)
  exact check_any xb ib pv packs t0 t1 p0 p1 m (baOf exQ1) (baOf exLock) exA1 ch 30 w h.cell h.lt h.ix h.two h.few S G ex_q1 (by rw [h.names]; exact ex_m1) ex_k1 hch exS1 (by rw [h.names, hcd]; rfl) ex_s1.1 0 (Or.inr ⟨by rw [hcd]; exact ex_s1.2.1, by rw [hcd]; exact ex_s1.2.2, by rw [hcd, h.nms]; exact ex_s1l.1, by rw [hcd, h.nms]; exact ex_s1l.2, rfl⟩)
theorem exChk3_any {xb ib : Nat} {pv : Value} {packs : List CPack} (w : World) (t0 t1 : TypeId) (p0 p1 : Value) (m : Int) (h : ExAt xb ib pv packs w) (S : Sent w) (G : Glob t0 t1 p0 p1 m w) :
    Calls Tryz.prog 19 #[.pointer (some ⟨xb, 0, none⟩), .string (baOf exQ3), .string (baOf exLock)] w fun e w' => e = .returned (.tuple #[.int .i64 5, .int .i64 0]) ∧ Below w.heap.size w w' := by
  obtain ⟨ch, hch, hcd⟩ := lock_map packs exLock exCh (by rw [h.names, h.ds]; exact ex_read)
  exact check_any xb ib pv packs t0 t1 p0 p1 m (baOf exQ3) (baOf exLock) exA3 ch 30 w h.cell h.lt h.ix h.two h.few S G ex_q3 (by rw [h.names]; exact ex_m3) ex_k3 hch exS3 (by rw [h.names, hcd]; rfl) ex_s3.1 5 (Or.inl ⟨by rw [hcd]; exact ex_s3.2, rfl⟩)

set_option maxHeartbeats 1600000 in
set_option maxRecDepth 100000 in
theorem known_any (V : NoV) (w : World) (t0 t1 : TypeId) (p0 p1 : Value) (m : Int) (S : Sent w) (G : Glob t0 t1 p0 p1 m w) (hV : NoAt V w) (hT : ErrT w) (hgn : 29 ≤ w.heap.size) :
    Calls Tryz.prog 12 #[] w fun e w' => e = .returned (.bool true) ∧ Below w.heap.size w w' := by
  have HL : Hid (Calls Tryz.prog 22 #[.string (baOf exL)] w fun e w' => ∃ xb ib pv packs, e = .returned (.tuple #[.pointer (some ⟨xb, 0, none⟩), .int .i64 0, .int .i64 0]) ∧ ExAt xb ib pv packs w' ∧ Below w.heap.size w w') := exLoad_any V w t0 t1 p0 p1 m S G hV hT hgn
  have HSG : Hid (∀ W, Below w.heap.size w W → Sent W ∧ Glob t0 t1 p0 p1 m W) := fun W hW => ⟨S.on hW, G.on hW G.lt⟩
  clear S G hV hT hgn
  go_enter Tryz.func12, Tryz.ntmps12
  go_wp2_with fail
  refine Calls.mono HL.out ?_
  rintro e w1 ⟨xb, ib, pv, packs, rfl, hx1, hb1⟩
  have HB1 : Hid (Below w.heap.size w w1) := hb1
  have HX1 : Hid (ExAt xb ib pv packs w1) := hx1
  have HR1 : Hid _ := exRes1_any w1 t0 t1 p0 p1 m hx1 (HSG.out w1 hb1).1 (HSG.out w1 hb1).2
  clear hx1 hb1 HL
  go_wp2_with fail
  refine Calls.mono HR1.out ?_
  rintro e w2 ⟨rfl, hb2⟩
  have HB2 : Hid (Below w.heap.size w w2) := HB1.out.trans (hb2.mono HB1.out.size)
  have HX2 : Hid (ExAt xb ib pv packs w2) := HX1.out.on hb2
  have HR2 : Hid _ := exRes2_any w2 t0 t1 p0 p1 m HX2.out (HSG.out w2 HB2.out).1 (HSG.out w2 HB2.out).2
  clear hb2 HR1 HB1 HX1
  go_wp2_with fail
  refine Calls.mono HR2.out ?_
  rintro e w3 ⟨rfl, hb3⟩
  have HB3 : Hid (Below w.heap.size w w3) := HB2.out.trans (hb3.mono HB2.out.size)
  have HX3 : Hid (ExAt xb ib pv packs w3) := HX2.out.on hb3
  have HC1 : Hid _ := exChk1_any w3 t0 t1 p0 p1 m HX3.out (HSG.out w3 HB3.out).1 (HSG.out w3 HB3.out).2
  clear hb3 HR2 HB2 HX2
  go_wp2_with fail
  refine Calls.mono HC1.out ?_
  rintro e w4 ⟨rfl, hb4⟩
  have HB4 : Hid (Below w.heap.size w w4) := HB3.out.trans (hb4.mono HB3.out.size)
  have HX4 : Hid (ExAt xb ib pv packs w4) := HX3.out.on hb4
  have HC3 : Hid _ := exChk3_any w4 t0 t1 p0 p1 m HX4.out (HSG.out w4 HB4.out).1 (HSG.out w4 HB4.out).2
  clear hb4 HC1 HB3 HX3
  go_wp2_with fail
  refine Calls.mono HC3.out ?_
  rintro e w5 ⟨rfl, hb5⟩
  have HB5 : Hid (Below w.heap.size w w5) := HB4.out.trans (hb5.mono HB4.out.size)
  clear hb5 HC3 HB4 HX4
  have hsame : ((baOf exLock).toList == [97, 32, 49, 46, 48, 46, 48, 32, 43, 100, 101, 102, 97, 117, 108, 116, 10, 98, 32, 49, 46, 52, 46, 48, 10]) = true := by kernel_rfl
  go_wp2
  go_ret
  exact ⟨rfl, HB5.out⟩

end Go.Proofs.YtnmclolbndohiaaGreatDoor
