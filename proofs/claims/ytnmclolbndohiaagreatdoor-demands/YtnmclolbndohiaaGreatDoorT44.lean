/-
  The walk of locks.Write, of two packages.
-/
import Derived.Test.YtnmclolbndohiaaGreatDoorT43
import Derived.Test.YtnmclolbndohiaaGreatDoorT03
import Derived.Test.YtnmclolbndohiaaGreatDoorT20
import Derived.Deep.RegionWith
import Derived.Deep.DeepCutAuto
import Derived.Deep.CutRange
namespace Go.Proofs.YtnmclolbndohiaaGreatDoor
open Go.RowKit
open Ver

/-- The names of the features, each behind a blank and a plus. -/
def plusL (row : List ByteArray) : List UInt8 := row.flatMap fun x => 32 :: 43 :: x.data.toList
def lineL (nm : ByteArray) (a b c : Nat) (row : List ByteArray) : List UInt8 := nm.data.toList ++ (32 :: (verS a b c).data.toList) ++ plusL row ++ [10]
structure LineY (w : World) (pg cb ab k : Nat) (eb pb : Nat) (nm : ByteArray) (a b c : Nat) (fa : Option Addr) (fc : Nat) (row : List ByteArray) : Prop where
  ce : w.cell? ⟨cb, k, none⟩ = some (ptrTo eb)
  le : eb < w.heap.size
  cp : w.cell? ⟨pg, k, none⟩ = some (ptrTo pb)
  lp : pb < w.heap.size
  cn : w.cell? ⟨pb, 0, none⟩ = some (.string nm)
  ver : VerAt w eb a b c
  dig : a < 10 ∧ b < 10 ∧ c < 10
  cf : w.cell? ⟨ab, k, none⟩ = some (.slice fa row.length fc)
  rows : (row = [] ∧ fa = none) ∨ ∃ x g, row = [x] ∧ fa = some ⟨g, 0, none⟩ ∧ g < w.heap.size ∧ w.cell? ⟨g, 0, none⟩ = some (.string x) ∧ x.size ≤ 1000
  small : nm.size ≤ 1000
theorem LineY.on {w w' : World} {pg cb ab k eb pb : Nat} {nm : ByteArray} {a b c : Nat} {fa : Option Addr} {fc : Nat} {row : List ByteArray} (h : LineY w pg cb ab k eb pb nm a b c fa fc row) (hb : Below w.heap.size w w') (h1 : pg < w.heap.size) (h2 : cb < w.heap.size) (h3 : ab < w.heap.size) : LineY w' pg cb ab k eb pb nm a b c fa fc row :=
  ⟨(hb.cell (p := ⟨cb, k, none⟩) h2).trans h.ce, Nat.lt_of_lt_of_le h.le hb.size, (hb.cell (p := ⟨pg, k, none⟩) h1).trans h.cp, Nat.lt_of_lt_of_le h.lp hb.size, (hb.cell (p := ⟨pb, 0, none⟩) h.lp).trans h.cn, h.ver.on hb h.le, h.dig, (hb.cell (p := ⟨ab, k, none⟩) h3).trans h.cf, by
    rcases h.rows with h | ⟨x, g, e1, e2, e3, e4, e5⟩
    · exact Or.inl h
    · exact Or.inr ⟨x, g, e1, e2, Nat.lt_of_lt_of_le e3 hb.size, (hb.cell (p := ⟨g, 0, none⟩) e3).trans e4, e5⟩, h.small⟩
/-- What a place of the choice gives to the lock. -/
def LineOf (w : World) (pg cb ab k : Nat) (l : List UInt8) : Prop :=
  (w.cell? ⟨cb, k, none⟩ = some (.pointer none) ∧ l = []) ∨ ∃ eb pb nm a b c fa fc row, LineY w pg cb ab k eb pb nm a b c fa fc row ∧ l = lineL nm a b c row

def bldr (B b : Nat) (l : List UInt8) (w : World) : Prop := Lib.IsBuilder 123 5 B b (Lib.byteCells l) w
theorem bldr_new (w : World) : bldr w.heap.size w.heap.size [] (w.alloc (.cells #[.pointer none, .slice none 0 0] 123)) :=
  Or.inl ⟨Nat.le_refl _, .slice none 0 0, heap_alloc_new w _, World.ownsRow_nil _ _ _ _, by simp [Value.ownBlock]⟩
theorem wr_any (B b : Nat) (l : List UInt8) (s : ByteArray) (w : World) (h : bldr B b l w) (hl : l.length + s.size ≤ 1000000) (hBw : B ≤ w.heap.size) :
    Calls Tryz.prog 56 #[.pointer (some ⟨b, 0, none⟩), .string s] w fun e w' => e = .returned (.tuple #[.int .i64 s.size, .nilIface]) ∧ (bldr B b (l ++ s.data.toList) w' ∧ Below B w w') := by
  refine (write_any B b (Lib.byteCells l) s w h (by rw [Lib.byteCells_length]; omega) hBw).mono ?_
  rintro e w' ⟨rfl, h1, h2⟩
  refine ⟨rfl, ?_, h2⟩
  unfold bldr
  have : Lib.byteCells (l ++ s.data.toList) = Lib.byteCells l ++ Lib.strCells s := by unfold Lib.byteCells Lib.strCells; rw [List.map_append]
  rw [this]; exact h1

theorem bldr.on {B b : Nat} {l : List UInt8} {w w' : World} (h : bldr B b l w) (hb : Below w.heap.size w w') : bldr B b l w' := by
  have go : ∀ p, Lib.BuilderAt 123 5 B b p (Lib.byteCells l) w → Lib.BuilderAt 123 5 B b p (Lib.byteCells l) w' := fun p hp => by
    have hlt := hp.lt
    obtain ⟨h1, v, h2, h3, h4⟩ := hp
    exact ⟨h1, v, (hb.block b hlt).trans h2, Hold.on (r := ⟨5, 1, v, _, _⟩) h3 hb, h4⟩
  rcases h with h | h
  · exact Or.inl (go _ h)
  · exact Or.inr (go _ h)

set_option maxHeartbeats 6400000 in
set_option maxRecDepth 100000 in
theorem lwrite_two (ib pg pc cb cc ab ac : Nat) (l0 l1 : List UInt8) (w : World) (hib : ib < w.heap.size) (hpg : pg < w.heap.size) (hcb : cb < w.heap.size) (hab : ab < w.heap.size) (ci : w.cell? ⟨ib, 0, none⟩ = some (.slice (some ⟨pg, 0, none⟩) 2 pc)) (h0 : LineOf w pg cb ab 0 l0) (h1 : LineOf w pg cb ab 1 l1) (hs0 : l0.length ≤ 5000) :
    Calls Tryz.prog 33 #[ptrTo ib, .slice (some ⟨cb, 0, none⟩) 2 cc, .slice (some ⟨ab, 0, none⟩) 2 ac] w fun e w' => e = .returned (.string ⟨(l0 ++ l1).toArray⟩) ∧ Below w.heap.size w w' := by
  have HL : Hid (∀ k, k < 2 → LineOf w pg cb ab k ([l0, l1][k]?.getD [])) := fun k hk => by
    match k, hk with
    | 0, _ => exact h0
    | 1, _ => exact h1
  have HT : Hid (∀ k, k < 2 → ([l0, l1].take (k + 1)).flatten = ([l0, l1].take k).flatten ++ ([l0, l1][k]?.getD [])) := fun k hk => by
    match k, hk with
    | 0, _ => simp
    | 1, _ => simp
  have HE : Hid (([l0, l1].take 2).flatten = l0 ++ l1) := by show _ = _; simp
  have HSZ : Hid (∀ k, k < 2 → (([l0, l1].take k).flatten).length ≤ 5000) := fun k hk => by
    match k, hk with
    | 0, _ => simp
    | 1, _ => simpa using hs0
  have HB0 : Hid (bldr w.heap.size w.heap.size (([l0, l1].take 0).flatten) (w.alloc (.cells #[.pointer none, .slice none 0 0] 123)) ∧ Below w.heap.size w (w.alloc (.cells #[.pointer none, .slice none 0 0] 123))) := ⟨bldr_new w, (Below.refl _ _).alloc (Nat.le_refl _) _⟩
  have HCI : Hid (w.cell? ⟨ib, 0, none⟩ = some (.slice (some ⟨pg, 0, none⟩) 2 pc)) := ci
  generalize [l0, l1] = ls at *
  generalize l0 ++ l1 = lz at *
  clear h0 h1 hs0 ci
  unfold ptrTo
  go_enter Tryz.func33, Tryz.ntmps33
  go_wp2
  go_loopw [14] (fun i wr => ∃ k : Nat, k ≤ 2 ∧ i = .int .i64 k ∧ bldr w.heap.size w.heap.size ((ls.take k).flatten) wr ∧ Below w.heap.size w wr) (fun i _ => 2 - (intOf i).toNat)
  case atStart => exact ⟨0, by omega, rfl, HB0.out.1, HB0.out.2⟩
  case round =>
    obtain ⟨k, hk, rfl, hbd, hbw⟩ := hrel
    have HBD : Hid (bldr w.heap.size w.heap.size ((ls.take k).flatten) wr) := hbd
    have HBW : Hid (Below w.heap.size w wr) := hbw
    clear hbd hbw HB0
    by_cases hlt : k < 2
    · have HLk := HL.out k hlt
      have HPK : Hid ((ls.take (k + 1)).flatten = (ls.take k).flatten ++ ls[k]?.getD []) := HT.out k hlt
      have HTk := HT.out k hlt
      have HSk := HSZ.out k hlt
      clear HPK
      generalize hp1 : (ls.take k).flatten = pre at *
      generalize hp2 : (ls.take (k + 1)).flatten = pre' at *
      have HP2 : Hid (pre' = (ls.take (k + 1)).flatten) := hp2.symm
      clear hp1 hp2
      generalize ls[k]?.getD [] = lk at *
      have i0 : (0 : Int) ≤ (k : Int) := by omega
      have i1 : (k : Int) < 2 := by omega
      have hsw := HBW.out.size
      rcases HLk with ⟨cx, rfl⟩ | ⟨eb, pb, nm, a, b, c, fa, fc, row, hy, rfl⟩
      · have HN : Hid (bldr w.heap.size w.heap.size pre' wr) := by show bldr _ _ _ _; rw [HTk, List.append_nil]; exact HBD.out
        have cx' : wr.cell? ⟨cb, k, none⟩ = some (.pointer none) := (HBW.out.cell (p := ⟨cb, k, none⟩) hcb).trans cx
        clear cx HBD HTk HSk
        go_wp2
        go_roundw
        case rel => exact ⟨k + 1, by omega, by go_num, by rw [← HP2.out]; exact HN.out, HBW.out⟩
        case measure => simp [intOf]; omega
      · have HY : Hid (∀ W, Below w.heap.size w W → LineY W pg cb ab k eb pb nm a b c fa fc row) := fun W hW => hy.on hW hpg hcb hab
        have hyr := HY.out wr HBW.out
        have cx := hyr.ce
        have z0 : wr.cell? ⟨ib, 0, none⟩ = some (.slice (some ⟨pg, 0, none⟩) 2 pc) := (HBW.out.cell (p := ⟨ib, 0, none⟩) hib).trans HCI.out
        have z1 := hyr.cp
        have z2 := hyr.cn
        have z3 := hyr.ver.1
        have z4 := hyr.ver.2.1
        have z5 := hyr.ver.2.2
        clear hy hyr
        unfold ptrTo at cx z1
        have HDG : Hid (a < 10 ∧ b < 10 ∧ c < 10) := (HY.out wr HBW.out).dig
        have hnm : nm.size ≤ 1000 := (HY.out wr HBW.out).small
        have HSTR : Hid (∀ W, Calls Tryz.prog 57 #[.agg #[.int .i64 a, .int .i64 b, .int .i64 c]] W fun e w' => e = .returned (.string (verS a b c)) ∧ Below W.heap.size W w') := fun W => gstring_any a b c W HDG.out.1 HDG.out.2.1 HDG.out.2.2
        have HWR : Hid (∀ (l : List UInt8) (s : ByteArray) (W : World), bldr w.heap.size w.heap.size l W → l.length + s.size ≤ 1000000 → w.heap.size ≤ W.heap.size → Calls Tryz.prog 56 #[.pointer (some ⟨w.heap.size, 0, none⟩), .string s] W fun e w' => e = .returned (.tuple #[.int .i64 s.size, .nilIface]) ∧ (bldr w.heap.size w.heap.size (l ++ s.data.toList) w' ∧ Below w.heap.size W w')) := fun l s W h1 h2 h3 => wr_any _ _ l s W h1 h2 h3
        have hs2 : (nm ++ ⟨#[32]⟩ : ByteArray).size ≤ 1001 := by rw [ByteArray.size_append]; have : (⟨#[32]⟩ : ByteArray).size = 1 := rfl; omega
        have hs3 : (verS a b c).size ≤ 5 := Nat.le_refl 5
        have HSK : Hid (pre.length ≤ 5000) := HSk
        clear HSk
        go_upto_region 6 with fail
        go_cut [14] from 14 to 53 (fun s wx => s = .int .i64 k ∧ bldr w.heap.size w.heap.size (pre ++ (nm.data.toList ++ (32 :: (verS a b c).data.toList))) wx ∧ Below w.heap.size w wx)
        case first =>
          go_region_with (first | (go_at_call 57; refine (HSTR.out _).mono ?_; rintro e w3 ⟨rfl, hb3⟩; have HB3 : Hid (bldr w.heap.size w.heap.size pre w3 ∧ Below w.heap.size w w3) := (by first | exact ⟨HBD.out.on hb3, HBW.out.trans (hb3.mono hsw)⟩ | exact ⟨(HBD.out.on ((Below.refl _ _).drew)).on hb3, HBW.out.drew.trans (hb3.mono hsw)⟩); have y0 := (HB3.out.2.cell (p := ⟨ib, 0, none⟩) hib).trans HCI.out; have y1 := (HY.out w3 HB3.out.2).cp; have y2 := (HY.out w3 HB3.out.2).cn; unfold ptrTo at y1; clear hb3) | (go_at_call 56; refine Calls.mono (HWR.out pre _ _ HB3.out.1 ?_ HB3.out.2.size) ?_; (rw [ByteArray.size_append]; have := HSK.out; omega); rintro e w5 ⟨rfl, h5, hb5⟩))
          all_goals (
            have H5 : Hid (bldr w.heap.size w.heap.size (pre ++ (nm.data.toList ++ (32 :: (verS a b c).data.toList))) w5 ∧ Below w.heap.size w w5) := ⟨by simpa using h5, HB3.out.2.trans hb5⟩
            clear h5 hb5 HB3 y0 y1 y2 HSTR HWR z0 z1 z2 z3 z4 z5
            go_wp2_with fail
            go_meet
            exact ⟨rfl, H5.out.1, H5.out.2⟩)
        case rest =>
        obtain ⟨rfl, hc1, hc2⟩ := hcut
        have HC1 : Hid (bldr w.heap.size w.heap.size (pre ++ (nm.data.toList ++ (32 :: (verS a b c).data.toList))) wc) := hc1
        have HC2 : Hid (Below w.heap.size w wc) := hc2
        have hyc := HY.out wc hc2
        have cf := hyc.cf
        have hrows := hyc.rows
        have hac : ab < wc.heap.size := Nat.lt_of_lt_of_le hab hc2.size
        have HL1 : Hid ((pre ++ (nm.data.toList ++ (32 :: (verS a b c).data.toList))).length ≤ 7000) := by
          show _ ≤ _
          have e1 : nm.data.toList.length = nm.size := by simp
          have e2 : (verS a b c).data.toList.length = 5 := rfl
          simp only [List.length_append, List.length_cons, e1, e2]
          have := HSK.out; omega
        clear hyc hc1 hc2 HSTR HBD HBW z0 z1 z2 z3 z4 z5 cx hs2 hs3
        rcases hrows with ⟨rfl, rfl⟩ | ⟨x, g, rfl, rfl, hg, cg, hx⟩
        · simp only [List.length_nil] at cf
          go_wp2
          refine wp_loop_rounds 1 ?_
          rw [rounds_succ]
          go_wp2_with fail
          refine Calls.mono (HWR.out _ _ _ HC1.out ?_ HC2.out.size) ?_
          · have := HL1.out; have e : (⟨#[10]⟩ : ByteArray).size = 1 := rfl; omega
          rintro e w5 ⟨rfl, h5, hb5⟩
          have H5 : Hid (bldr w.heap.size w.heap.size pre' w5 ∧ Below w.heap.size w w5) := ⟨by rw [HTk]; unfold lineL plusL; simpa using h5, HC2.out.trans hb5⟩
          clear h5 hb5 HWR HC1 HC2 cf
          go_wp2
          go_roundw
          case rel => exact ⟨k + 1, by omega, by go_num, by rw [← HP2.out]; exact H5.out.1, H5.out.2⟩
          case measure => simp [intOf]; omega
        · simp only [List.length_cons, List.length_nil, Nat.zero_add] at cf
          have hs4 : (⟨#[32, 43]⟩ : ByteArray).size + x.size ≤ 1002 := by have e : (⟨#[32, 43]⟩ : ByteArray).size = 2 := rfl; omega
          go_wp2
          refine wp_loop_rounds 2 ?_
          rw [rounds_succ]
          go_wp2_with fail
          refine Calls.mono (HWR.out _ _ _ HC1.out ?_ HC2.out.size) ?_
          · rw [ByteArray.size_append]; have := HL1.out; omega
          rintro e w5 ⟨rfl, h5, hb5⟩
          have H5 : Hid (bldr w.heap.size w.heap.size (pre ++ (nm.data.toList ++ (32 :: (verS a b c).data.toList)) ++ (32 :: 43 :: x.data.toList)) w5 ∧ Below w.heap.size w w5) := ⟨by simpa using h5, HC2.out.trans hb5⟩
          have HL2 : Hid ((pre ++ (nm.data.toList ++ (32 :: (verS a b c).data.toList)) ++ (32 :: 43 :: x.data.toList)).length ≤ 9000) := by
            show _ ≤ _
            have e1 : x.data.toList.length = x.size := by simp
            rw [List.length_append, List.length_cons, List.length_cons, e1]
            have := HL1.out; omega
          clear h5 hb5 HC1 HC2 cf cg hg
          go_wp2
          rw [rounds_succ]
          go_wp2_with fail
          refine Calls.mono (HWR.out _ _ _ H5.out.1 ?_ H5.out.2.size) ?_
          · have := HL2.out; have e : (⟨#[10]⟩ : ByteArray).size = 1 := rfl; omega
          rintro e w6 ⟨rfl, h6, hb6⟩
          have H6 : Hid (bldr w.heap.size w.heap.size pre' w6 ∧ Below w.heap.size w w6) := ⟨by rw [HTk]; unfold lineL plusL; simpa using h6, H5.out.2.trans hb6⟩
          clear h6 hb6 HWR H5
          go_wp2
          go_roundw
          case rel => exact ⟨k + 1, by omega, by go_num, by rw [← HP2.out]; exact H6.out.1, H6.out.2⟩
          case measure => simp [intOf]; omega
    · have e : k = 2 := by omega
      subst e
      have HZ : Hid (bldr w.heap.size w.heap.size lz wr) := by show bldr _ _ _ _; rw [← HE.out]; exact HBD.out
      have HST : Hid (Calls Tryz.prog 58 #[.pointer (some ⟨w.heap.size, 0, none⟩)] wr fun e w' => e = .returned (.string ⟨lz.toArray⟩) ∧ Below w.heap.size wr w') := Tryz.Builder_String_any w.heap.size w.heap.size lz wr HZ.out HBW.out.size
      clear HBD HZ
      go_wp2_with fail
      refine Calls.mono HST.out ?_
      rintro e w5 ⟨rfl, hb5⟩
      have H5 : Hid (Below w.heap.size w w5) := HBW.out.trans hb5
      clear hb5 HST HBW
      go_wp2
      go_ret
      exact ⟨rfl, H5.out⟩

end Go.Proofs.YtnmclolbndohiaaGreatDoor
