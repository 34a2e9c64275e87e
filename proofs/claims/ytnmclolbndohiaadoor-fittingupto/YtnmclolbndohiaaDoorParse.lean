/-
  The walk of the code's 'Parse' (10); of strings.IndexAny (17) at the ten figures.
-/
import Derived.Test.YtnmclolbndohiaaDoorAny
import Derived.Test.YtnmclolbndohiaaDoorDig
import Derived.Test.YtnmclolbndohiaaDoorVer
namespace Go.Proofs.YtnmclolbndohiaaDoor
open Go.RowKit
open Ver

abbrev figs : ByteArray := ⟨#[48, 49, 50, 51, 52, 53, 54, 55, 56, 57]⟩
theorem figs_ascii : ∀ j (h : j < figs.size), (figs[j]'h).toNat < 128 := by
  have : ∀ j : Fin 10, (figs[j.val]'(j.isLt)).toNat < 128 := by decide
  intro j h; exact this ⟨j, h⟩
theorem Tryd.zero59 : ∀ w, (zeroValue 59).run Tryd.prog w = .ok (.agg (Array.replicate 256 (.bool false))) w := fun _ => by kernel_rfl

theorem figs_any (s : ByteArray) (w : World) (hs : s.size ≤ 1048576) :
    Calls Tryd.prog 17 #[.string s, .string figs] w fun e w' => e = .returned (.int .i64 (Lib.indexAny s.data.toList figs.data.toList)) ∧ Below w.heap.size w w' := by
  by_cases h8 : s.size ≤ 8
  · exact indexAny_short s figs w (by decide) (by decide) h8 figs_ascii
  · refine (Tryd.strings_IndexAny_long Tryd.zero59 s figs w (by decide) (by omega) (by omega) (by decide) ?_).mono ?_
    · intro j b hj
      obtain ⟨h, e⟩ := List.getElem?_eq_some_iff.1 hj
      have := figs_ascii j h
      rw [← e]; exact this
    · rintro e w' ⟨rfl, rfl⟩
      exact ⟨rfl, ((Below.refl _ _).alloc (Nat.le_refl _) _).alloc (by simp) _⟩

theorem cellsOf_at (Q : List ByteArray) (N j : Nat) (h : j < Q.length) : (Lib.cellsOf Q N)[j]? = some (.string Q[j]) := by
  unfold Lib.cellsOf
  rw [List.getElem?_toArray, List.getElem?_append_left (by simpa using h)]
  simp [h]

/-- strings.SplitN(s, sep, 4), three pieces. -/
theorem splitN_three (s sep a b d : ByteArray) (m : Int) (w : World) (hs : s.size ≤ 1048576) (h1 : 1 ≤ sep.size) (hQ : Lib.splitB sep 0 (min 4 (s.size + 1) - 1) s = [a, b, d]) (hm : w.cell? ⟨2, 0, none⟩ = some (.int .i64 m)) :
    Calls Tryd.prog 15 #[.string s, .string sep, .int .i64 4] w fun e w' => ∃ N, e = .returned (.slice (some ⟨w.heap.size, 0, none⟩) 3 N) ∧ w'.cell? ⟨w.heap.size, 0, none⟩ = some (.string a) ∧ w'.cell? ⟨w.heap.size, 1, none⟩ = some (.string b) ∧
      w'.cell? ⟨w.heap.size, 2, none⟩ = some (.string d) ∧ w'.heap.size = w.heap.size + 1 ∧ Below w.heap.size w w' := by
  refine (Tryd.strings_SplitN s sep 4 m w (by omega) hm h1 (by decide) (by decide)).mono ?_
  rw [hQ]
  rintro e w' ⟨rfl, rfl⟩
  refine ⟨_, rfl, ?_, ?_, ?_, by simp, (Below.refl _ _).alloc (Nat.le_refl _) _⟩
  all_goals
    rw [World.cell?_alloc_at _ _ _ _ rfl, cellsOf_at _ _ _ (by simp)]
    rfl

/-- strings.SplitN(s, sep, 4), whatever it gives. -/
theorem splitN_else (s sep : ByteArray) (m : Int) (w : World) (hs : s.size ≤ 1048576) (h1 : 1 ≤ sep.size) (n : Nat) (hn : (Lib.splitB sep 0 (min 4 (s.size + 1) - 1) s).length = n) (hm : w.cell? ⟨2, 0, none⟩ = some (.int .i64 m)) :
    Calls Tryd.prog 15 #[.string s, .string sep, .int .i64 4] w fun e w' => ∃ N, e = .returned (.slice (some ⟨w.heap.size, 0, none⟩) n N) ∧ w'.heap.size = w.heap.size + 1 ∧ Below w.heap.size w w' := by
  refine (Tryd.strings_SplitN s sep 4 m w (by omega) hm h1 (by decide) (by decide)).mono ?_
  rw [hn]
  rintro e w' ⟨rfl, rfl⟩
  exact ⟨_, rfl, by simp, (Below.refl _ _).alloc (Nat.le_refl _) _⟩

/-- What the loop over the three pieces keeps: the pieces' block, the array's, the result's. -/
structure PW (w : World) (bR bP bV : Nat) (a b d : ByteArray) (E0 : Value) (n0 n1 n2 : Int) (wr : World) : Prop where
  below : Below w.heap.size w wr
  e0 : wr.cell? ⟨0, 0, none⟩ = some E0
  p0 : wr.cell? ⟨bP, 0, none⟩ = some (.string a)
  p1 : wr.cell? ⟨bP, 1, none⟩ = some (.string b)
  p2 : wr.cell? ⟨bP, 2, none⟩ = some (.string d)
  v0 : wr.cell? ⟨bV, 0, none⟩ = some (.int .i64 n0)
  v1 : wr.cell? ⟨bV, 1, none⟩ = some (.int .i64 n1)
  v2 : wr.cell? ⟨bV, 2, none⟩ = some (.int .i64 n2)
  fv : ∀ o, wr.frozen? ⟨bV, o, none⟩ = false
  r0 : wr.cell? ⟨bR, 0, none⟩ = some (.int .i64 0)
  r1 : wr.cell? ⟨bR, 1, none⟩ = some (.int .i64 0)
  r2 : wr.cell? ⟨bR, 2, none⟩ = some (.int .i64 0)
  fr : ∀ o, wr.frozen? ⟨bR, o, none⟩ = false
  lR : bR < wr.heap.size
  lP : bP < wr.heap.size
  lV : bV < wr.heap.size
  l0 : 0 < w.heap.size
  gR : w.heap.size ≤ bR
  gV : w.heap.size ≤ bV

theorem PW.on {w : World} {bR bP bV : Nat} {a b d : ByteArray} {E0 : Value} {n0 n1 n2 : Int} {wr w' : World} (h : PW w bR bP bV a b d E0 n0 n1 n2 wr) (hb : Below wr.heap.size wr w') : PW w bR bP bV a b d E0 n0 n1 n2 w' where
  below := h.below.trans (hb.mono h.below.size)
  e0 := (hb.cell (p := ⟨0, 0, none⟩) (by have := h.below.size; have := h.l0; show 0 < _; omega)).trans h.e0
  p0 := (hb.cell (p := ⟨bP, 0, none⟩) h.lP).trans h.p0
  p1 := (hb.cell (p := ⟨bP, 1, none⟩) h.lP).trans h.p1
  p2 := (hb.cell (p := ⟨bP, 2, none⟩) h.lP).trans h.p2
  v0 := (hb.cell (p := ⟨bV, 0, none⟩) h.lV).trans h.v0
  v1 := (hb.cell (p := ⟨bV, 1, none⟩) h.lV).trans h.v1
  v2 := (hb.cell (p := ⟨bV, 2, none⟩) h.lV).trans h.v2
  fv := fun o => (hb.frozen (p := ⟨bV, o, none⟩) h.lV).trans (h.fv o)
  r0 := (hb.cell (p := ⟨bR, 0, none⟩) h.lR).trans h.r0
  r1 := (hb.cell (p := ⟨bR, 1, none⟩) h.lR).trans h.r1
  r2 := (hb.cell (p := ⟨bR, 2, none⟩) h.lR).trans h.r2
  fr := fun o => (hb.frozen (p := ⟨bR, o, none⟩) h.lR).trans (h.fr o)
  lR := Nat.lt_of_lt_of_le h.lR hb.size
  lP := Nat.lt_of_lt_of_le h.lP hb.size
  lV := Nat.lt_of_lt_of_le h.lV hb.size
  l0 := h.l0
  gR := h.gR
  gV := h.gV

/-- A number is laid into its place. -/
theorem PW.set {w : World} {bR bP bV : Nat} {a b d : ByteArray} {E0 : Value} {n0 n1 n2 : Int} {wr : World} (h : PW w bR bP bV a b d E0 n0 n1 n2 wr) (hRV : bR ≠ bV) (hPV : bP ≠ bV) (k : Nat) (x : Int) :
    PW w bR bP bV a b d E0 (if k = 0 then x else n0) (if k = 1 then x else n1) (if k = 2 then x else n2) (wr.setCell ⟨bV, k, none⟩ (.int .i64 x)) := by
  have oP : ∀ o, (wr.setCell ⟨bV, k, none⟩ (.int .i64 x)).cell? ⟨bP, o, none⟩ = wr.cell? ⟨bP, o, none⟩ := fun o => World.cell?_setCell_other _ _ _ _ (fun e => hPV (congrArg Addr.block e).symm)
  have oR : ∀ o, (wr.setCell ⟨bV, k, none⟩ (.int .i64 x)).cell? ⟨bR, o, none⟩ = wr.cell? ⟨bR, o, none⟩ := fun o => World.cell?_setCell_other _ _ _ _ (fun e => hRV (congrArg Addr.block e).symm)
  have h0V : (0 : Nat) ≠ bV := by have := h.gV; have := h.l0; omega
  have oV : ∀ (o : Nat) (y : Int), wr.cell? ⟨bV, o, none⟩ = some (.int .i64 y) → (wr.setCell ⟨bV, k, none⟩ (.int .i64 x)).cell? ⟨bV, o, none⟩ = some (.int .i64 (if k = o then x else y)) := by
    intro o y ho
    by_cases e : k = o
    · subst e; rw [if_pos rfl]; exact World.cell?_setCell_same _ _ _ ho
    · rw [if_neg e]; exact (World.cell?_setCell_other _ _ _ _ (fun h' => e (congrArg Addr.off h'))).trans ho
  exact {
    below := h.below.setCell h.gV _
    e0 := (World.cell?_setCell_other _ _ _ _ (fun e => h0V (congrArg Addr.block e).symm)).trans h.e0
    p0 := (oP 0).trans h.p0
    p1 := (oP 1).trans h.p1
    p2 := (oP 2).trans h.p2
    v0 := oV 0 n0 h.v0
    v1 := oV 1 n1 h.v1
    v2 := oV 2 n2 h.v2
    fv := fun o => (World.frozen?_setCell _ _ _ _).trans (h.fv o)
    r0 := (oR 0).trans h.r0
    r1 := (oR 1).trans h.r1
    r2 := (oR 2).trans h.r2
    fr := fun o => (World.frozen?_setCell _ _ _ _).trans (h.fr o)
    lR := by simpa using h.lR
    lP := by simpa using h.lP
    lV := by simpa using h.lV
    l0 := h.l0
    gR := h.gR
    gV := h.gV }

/-- Where the pieces, the array and the result have just been laid. -/
theorem PW.start {w w1 : World} {a b d : ByteArray} {E0 : Value} (hE : w.cell? ⟨0, 0, none⟩ = some E0) (hw : 0 < w.heap.size)
    (hb : Below (w.heap.size + 1) (w.alloc (.cells #[.int .i64 0, .int .i64 0, .int .i64 0] 35)) w1) (hz : w1.heap.size = w.heap.size + 1 + 1)
    (c0 : w1.cell? ⟨w.heap.size + 1, 0, none⟩ = some (.string a)) (c1 : w1.cell? ⟨w.heap.size + 1, 1, none⟩ = some (.string b)) (c2 : w1.cell? ⟨w.heap.size + 1, 2, none⟩ = some (.string d)) :
    PW w w.heap.size (w.heap.size + 1) (w.heap.size + 1 + 1) a b d E0 0 0 0 (w1.alloc (.cells #[.int .i64 0, .int .i64 0, .int .i64 0] 35)) := by
  have hR : ∀ o, w1.cell? ⟨w.heap.size, o, none⟩ = (w.alloc (.cells #[.int .i64 0, .int .i64 0, .int .i64 0] 35)).cell? ⟨w.heap.size, o, none⟩ := fun o => hb.cell (p := ⟨w.heap.size, o, none⟩) (by show w.heap.size < _; omega)
  have hold : ∀ b o, b < w.heap.size + 1 + 1 → (w1.alloc (.cells #[.int .i64 0, .int .i64 0, .int .i64 0] 35)).cell? ⟨b, o, none⟩ = w1.cell? ⟨b, o, none⟩ := fun b o h => World.cell?_alloc_past _ _ _ (by show b < _; omega)
  have hnew : ∀ o, (w1.alloc (.cells #[.int .i64 0, .int .i64 0, .int .i64 0] 35)).cell? ⟨w.heap.size + 1 + 1, o, none⟩ = (#[.int .i64 0, .int .i64 0, .int .i64 0] : Array Value)[o]? := fun o => World.cell?_alloc_at _ _ _ _ (by show w.heap.size + 1 + 1 = _; omega)
  exact {
    below := (((Below.refl _ _).alloc (Nat.le_refl _) _).trans (hb.mono (by omega))).alloc (by omega) _
    e0 := by rw [hold _ _ (by omega), hb.cell (p := ⟨0, 0, none⟩) (by show 0 < _; omega), World.cell?_alloc_past _ _ _ (by show 0 < _; omega)]; exact hE
    p0 := by rw [hold _ _ (by omega)]; exact c0
    p1 := by rw [hold _ _ (by omega)]; exact c1
    p2 := by rw [hold _ _ (by omega)]; exact c2
    v0 := by rw [hnew]; rfl
    v1 := by rw [hnew]; rfl
    v2 := by rw [hnew]; rfl
    fv := fun o => World.frozen?_alloc_at _ _ _ _ (by show w.heap.size + 1 + 1 = _; omega)
    r0 := by rw [hold _ _ (by omega), hR, World.cell?_alloc_at _ _ _ _ rfl]; rfl
    r1 := by rw [hold _ _ (by omega), hR, World.cell?_alloc_at _ _ _ _ rfl]; rfl
    r2 := by rw [hold _ _ (by omega), hR, World.cell?_alloc_at _ _ _ _ rfl]; rfl
    fr := fun o => by
      rw [World.frozen?_alloc_past _ _ _ (by show w.heap.size < _; omega), hb.frozen (p := ⟨w.heap.size, o, none⟩) (by show w.heap.size < _; omega)]
      exact World.frozen?_alloc_at _ _ _ _ rfl
    lR := by simp; omega
    lP := by simp; omega
    lV := by simp; omega
    l0 := hw
    gR := Nat.le_refl _
    gV := by omega }

/-- What 'Parse' comes to. -/
def parseRes (E0 : Value) (l : List UInt8) : Ending :=
  if verI l < 0 then .returned (.tuple #[.agg #[.int .i64 0, .int .i64 0, .int .i64 0], E0])
  else .returned (.tuple #[.agg #[.int .i64 (verI l / 1000000), .int .i64 (verI l / 1000 % 1000), .int .i64 (verI l % 1000)], .nilIface])
theorem parseRes_no {E0 : Value} {l : List UInt8} (h : verI l < 0) : Ending.returned (.tuple #[.agg #[.int .i64 0, .int .i64 0, .int .i64 0], E0]) = parseRes E0 l := by
  unfold parseRes; rw [if_pos h]
theorem parseRes_yes {E0 : Value} {l : List UInt8} {x y z : Int} (hx : 0 ≤ x ∧ x ≤ 999) (hy : 0 ≤ y ∧ y ≤ 999) (hz : 0 ≤ z ∧ z ≤ 999) (h : verI l = 1000 * (1000 * x + y) + z) :
    Ending.returned (.tuple #[.agg #[.int .i64 x, .int .i64 y, .int .i64 z], .nilIface]) = parseRes E0 l := by
  unfold parseRes
  rw [if_neg (by omega)]
  have h1 : verI l / 1000000 = x := by omega
  have h2 : verI l / 1000 % 1000 = y := by omega
  have h3 : verI l % 1000 = z := by omega
  rw [h1, h2, h3]

theorem digRes_num (l : List UInt8) : digRes l = if numI l < 0 then .returned (.tuple #[.int .i64 0, .bool false]) else .returned (.tuple #[.int .i64 (numI l), .bool true]) := by
  unfold digRes; rw [digI_eq]
  by_cases h : numI l < 0
  · rw [if_pos h, if_pos h]
  · rw [if_neg h, if_neg h]

theorem Tryd.parseNumber_no (x : ByteArray) (w : World) (hx : x.size ≤ 1048576) (h : numI x.data.toList < 0) : Calls Tryd.prog 16 #[.string x] w fun e w' => e = .returned (.tuple #[.int .i64 0, .bool false]) ∧ Below w.heap.size w w' := by
  have := parseNumber_any x w hx
  rw [digRes_num, if_pos h] at this; exact this
theorem Tryd.parseNumber_yes (x : ByteArray) (w : World) (hx : x.size ≤ 1048576) (n : Int) (hn : numI x.data.toList = n) (h : 0 ≤ n) : Calls Tryd.prog 16 #[.string x] w fun e w' => e = .returned (.tuple #[.int .i64 n, .bool true]) ∧ Below w.heap.size w w' := by
  have := parseNumber_any x w hx
  rw [digRes_num, hn, if_neg (by omega)] at this; exact this

theorem verL_neg (a b d : List UInt8) (h : numI a < 0 ∨ numI b < 0 ∨ numI d < 0) : verL [a, b, d] < 0 := by
  show (if _ then _ else _) < _
  rw [if_pos h]; omega
theorem verL_pos (a b d : List UInt8) (ha : 0 ≤ numI a) (hb : 0 ≤ numI b) (hd : 0 ≤ numI d) : verL [a, b, d] = 1000 * (1000 * numI a + numI b) + numI d := by
  show (if _ then _ else _) = _
  rw [if_neg (by omega)]

set_option maxHeartbeats 1600000 in
set_option maxRecDepth 100000 in
theorem parse_three (s a b d : ByteArray) (E0 : Value) (m : Int) (w : World) (hs : s.size ≤ 1048576) (ha : a.size ≤ 1048576) (hb : b.size ≤ 1048576) (hd : d.size ≤ 1048576)
    (hQ : Lib.splitB ⟨#[46]⟩ 0 (min 4 (s.size + 1) - 1) s = [a, b, d]) (hV : verI s.data.toList = verL [a.data.toList, b.data.toList, d.data.toList]) (hE : w.cell? ⟨0, 0, none⟩ = some E0) (hm : w.cell? ⟨2, 0, none⟩ = some (.int .i64 m)) (hw : 2 < w.heap.size) :
    Calls Tryd.prog 10 #[.string s] w fun e w' => e = parseRes E0 s.data.toList ∧ Below w.heap.size w w' := by
  have C := splitN_three s ⟨#[46]⟩ a b d m (w.alloc (.cells #[.int .i64 0, .int .i64 0, .int .i64 0] 35)) hs (by decide) hQ (by rw [World.cell?_alloc_past _ _ _ (by show 2 < _; omega)]; exact hm)
  have HV : Hid (verI s.data.toList = verL [a.data.toList, b.data.toList, d.data.toList]) := hV
  have HE : Hid (w.cell? ⟨0, 0, none⟩ = some E0) := hE
  clear hQ hV hE hm
  go_enter Tryd.func10, Tryd.ntmps10
  go_wp2_with fail
  refine C.mono ?_
  rintro e w1 ⟨N, rfl, c0, c1, c2, hz, hbel⟩
  rw [World.size_alloc] at c0 c1 c2 hz hbel
  have hpw := PW.start HE.out (by omega) hbel hz c0 c1 c2
  have HP : Hid (PW w w.heap.size (w.heap.size + 1) (w.heap.size + 1 + 1) a b d E0 0 0 0 (w1.alloc (.cells #[.int .i64 0, .int .i64 0, .int .i64 0] 35))) := hpw
  clear hpw c0 c1 c2 hbel C HE
  go_wp2
  go_loopw [19] (fun i wr => ∃ (k : Nat) (n0 n1 n2 : Int), i = .int .i64 k ∧ PW w w.heap.size (w.heap.size + 1) (w.heap.size + 1 + 1) a b d E0 n0 n1 n2 wr ∧
      (k = 0 ∨ k = 1 ∧ n0 = numI a.data.toList ∧ 0 ≤ n0 ∨ k = 2 ∧ n0 = numI a.data.toList ∧ 0 ≤ n0 ∧ n1 = numI b.data.toList ∧ 0 ≤ n1 ∨ k = 3 ∧ n0 = numI a.data.toList ∧ 0 ≤ n0 ∧ n1 = numI b.data.toList ∧ 0 ≤ n1 ∧ n2 = numI d.data.toList ∧ 0 ≤ n2))
    (fun i _ => 3 - (intOf i).toNat)
  case atStart => exact ⟨0, 0, 0, 0, rfl, HP.out, Or.inl rfl⟩
  case round =>
    obtain ⟨k, n0, n1, n2, rfl, hpw, hk⟩ := hrel
    have q0 := hpw.p0
    have q1 := hpw.p1
    have q2 := hpw.p2
    have HW : Hid (PW w w.heap.size (w.heap.size + 1) (w.heap.size + 1 + 1) a b d E0 n0 n1 n2 wr) := hpw
    clear hpw HP
    rcases hk with rfl | ⟨rfl, hn0, hp0⟩ | ⟨rfl, hn0, hp0, hn1, hp1⟩ | ⟨rfl, hn0, hp0, hn1, hp1, hn2, hp2⟩
    · by_cases hx : numI a.data.toList < 0
      · have HR : Hid (verI s.data.toList < 0) := by show _ < _; rw [HV.out]; exact verL_neg _ _ _ (Or.inl hx)
        go_wp2_with fail
        refine (Tryd.parseNumber_no a _ ha hx).mono ?_
        rintro e w2 ⟨rfl, hb2⟩
        have hp9 := HW.out.on hb2
        have HB : Hid (Below w.heap.size w w2) := hp9.below
        have f0 := hp9.e0
        have f1 := hp9.r0
        have f2 := hp9.r1
        have f3 := hp9.r2
        have f4 := hp9.fr
        clear hb2 hp9 HW q0 q1 q2
        go_wp2
        go_region
        all_goals (try go_wp2)
        all_goals exact bodyPost_ret (v := .tuple #[.agg #[.int .i64 0, .int .i64 0, .int .i64 0], E0]) (by simp [results, Tryd.results10, go_sem, f1, f2, f3]) rfl ⟨parseRes_no HR.out, (((HB.out.setCell (Nat.le_refl _) _).setCell (Nat.le_refl _) _).setCell (Nat.le_refl _) _).drew⟩
      · have hx' : 0 ≤ numI a.data.toList := by omega
        have C := fun w => Tryd.parseNumber_yes a w ha _ rfl hx'
        obtain ⟨x, hxe⟩ : ∃ x, numI a.data.toList = x := ⟨_, rfl⟩
        rw [hxe] at C hx'
        have HX : Hid (numI a.data.toList = x) := hxe
        clear hxe hx
        go_wp2_with fail
        refine (C _).mono ?_
        rintro e w2 ⟨rfl, hb2⟩
        have hp9 := HW.out.on hb2
        have f0 := hp9.v0
        have f1 := hp9.fv 0
        have HS : Hid _ := hp9.set (by omega) (by omega) 0 x
        clear hb2 hp9 HW q0 q1 q2 C
        go_wp2
        go_roundw
        case rel => exact ⟨1, _, _, _, by go_num, HS.out, Or.inr (Or.inl ⟨rfl, HX.out.symm, hx'⟩)⟩
        case measure => simp [intOf]
    · have H0 : Hid (n0 = numI a.data.toList) := hn0
      clear hn0
      by_cases hx : numI b.data.toList < 0
      · have HR : Hid (verI s.data.toList < 0) := by show _ < _; rw [HV.out]; exact verL_neg _ _ _ (Or.inr (Or.inl hx))
        go_wp2_with fail
        refine (Tryd.parseNumber_no b _ hb hx).mono ?_
        rintro e w2 ⟨rfl, hb2⟩
        have hp9 := HW.out.on hb2
        have HB : Hid (Below w.heap.size w w2) := hp9.below
        have f0 := hp9.e0
        have f1 := hp9.r0
        have f2 := hp9.r1
        have f3 := hp9.r2
        have f4 := hp9.fr
        clear hb2 hp9 HW q0 q1 q2
        go_wp2
        go_region
        all_goals (try go_wp2)
        all_goals exact bodyPost_ret (v := .tuple #[.agg #[.int .i64 0, .int .i64 0, .int .i64 0], E0]) (by simp [results, Tryd.results10, go_sem, f1, f2, f3]) rfl ⟨parseRes_no HR.out, (((HB.out.setCell (Nat.le_refl _) _).setCell (Nat.le_refl _) _).setCell (Nat.le_refl _) _).drew⟩
      · have hx' : 0 ≤ numI b.data.toList := by omega
        have C := fun w => Tryd.parseNumber_yes b w hb _ rfl hx'
        obtain ⟨x, hxe⟩ : ∃ x, numI b.data.toList = x := ⟨_, rfl⟩
        rw [hxe] at C hx'
        have HX : Hid (numI b.data.toList = x) := hxe
        clear hxe hx
        go_wp2_with fail
        refine (C _).mono ?_
        rintro e w2 ⟨rfl, hb2⟩
        have hp9 := HW.out.on hb2
        have f0 := hp9.v1
        have f1 := hp9.fv 1
        have HS : Hid _ := hp9.set (by omega) (by omega) 1 x
        clear hb2 hp9 HW q0 q1 q2 C
        go_wp2
        go_roundw
        case rel => exact ⟨2, _, _, _, by go_num, HS.out, Or.inr (Or.inr (Or.inl ⟨rfl, H0.out, hp0, HX.out.symm, hx'⟩))⟩
        case measure => simp [intOf]
    · have H0 : Hid (n0 = numI a.data.toList) := hn0
      have H1 : Hid (n1 = numI b.data.toList) := hn1
      clear hn0 hn1
      by_cases hx : numI d.data.toList < 0
      · have HR : Hid (verI s.data.toList < 0) := by show _ < _; rw [HV.out]; exact verL_neg _ _ _ (Or.inr (Or.inr hx))
        go_wp2_with fail
        refine (Tryd.parseNumber_no d _ hd hx).mono ?_
        rintro e w2 ⟨rfl, hb2⟩
        have hp9 := HW.out.on hb2
        have HB : Hid (Below w.heap.size w w2) := hp9.below
        have f0 := hp9.e0
        have f1 := hp9.r0
        have f2 := hp9.r1
        have f3 := hp9.r2
        have f4 := hp9.fr
        clear hb2 hp9 HW q0 q1 q2
        go_wp2
        go_region
        all_goals (try go_wp2)
        all_goals exact bodyPost_ret (v := .tuple #[.agg #[.int .i64 0, .int .i64 0, .int .i64 0], E0]) (by simp [results, Tryd.results10, go_sem, f1, f2, f3]) rfl ⟨parseRes_no HR.out, (((HB.out.setCell (Nat.le_refl _) _).setCell (Nat.le_refl _) _).setCell (Nat.le_refl _) _).drew⟩
      · have hx' : 0 ≤ numI d.data.toList := by omega
        have C := fun w => Tryd.parseNumber_yes d w hd _ rfl hx'
        obtain ⟨x, hxe⟩ : ∃ x, numI d.data.toList = x := ⟨_, rfl⟩
        rw [hxe] at C hx'
        have HX : Hid (numI d.data.toList = x) := hxe
        clear hxe hx
        go_wp2_with fail
        refine (C _).mono ?_
        rintro e w2 ⟨rfl, hb2⟩
        have hp9 := HW.out.on hb2
        have f0 := hp9.v2
        have f1 := hp9.fv 2
        have HS : Hid _ := hp9.set (by omega) (by omega) 2 x
        clear hb2 hp9 HW q0 q1 q2 C
        go_wp2
        go_roundw
        case rel => exact ⟨3, _, _, _, by go_num, HS.out, Or.inr (Or.inr (Or.inr ⟨rfl, H0.out, hp0, H1.out, hp1, HX.out.symm, hx'⟩))⟩
        case measure => simp [intOf]
    · have HR : Hid (verI s.data.toList = 1000 * (1000 * n0 + n1) + n2) := by show _ = _; rw [HV.out, hn0, hn1, hn2]; exact verL_pos _ _ _ (by omega) (by omega) (by omega)
      have b0 := numI_bd a.data.toList
      have b1 := numI_bd b.data.toList
      have b2 := numI_bd d.data.toList
      rw [← hn0] at b0
      rw [← hn1] at b1
      rw [← hn2] at b2
      clear hn0 hn1 hn2
      have HB : Hid (Below w.heap.size w wr) := HW.out.below
      have f1 := HW.out.r0
      have f2 := HW.out.r1
      have f3 := HW.out.r2
      have f4 := HW.out.fr
      have f5 := HW.out.v0
      have f6 := HW.out.v1
      have f7 := HW.out.v2
      clear HW q0 q1 q2
      go_wp2
      exact bodyPost_ret (v := .tuple #[.agg #[.int .i64 n0, .int .i64 n1, .int .i64 n2], .nilIface]) (by simp [results, Tryd.results10, go_sem, f1, f2, f3]) rfl ⟨parseRes_yes ⟨hp0, b0.2⟩ ⟨hp1, b1.2⟩ ⟨hp2, b2.2⟩ HR.out, ((HB.out.setCell (Nat.le_refl _) _).setCell (Nat.le_refl _) _).setCell (Nat.le_refl _) _⟩

end Go.Proofs.YtnmclolbndohiaaDoor
