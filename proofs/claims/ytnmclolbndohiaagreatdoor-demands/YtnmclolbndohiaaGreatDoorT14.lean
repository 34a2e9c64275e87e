/-
  The walks of strings.IndexRune (21) at a rune that is no ASCII one, in an ASCII text; of strings.IndexAny (17) at whatever text, ASCII signs asked for.
-/
import Derived.Test.YtnmclolbndohiaaGreatDoorShelf
import Derived.Test.YtnmclolbndohiaaGreatDoorT12
import Derived.Test.YtnmclolbndohiaaGreatDoorRows
import Derived.WalkKit
import Derived.WalkSpells
import Derived.WalkLawsBesides
import Derived.Laws.RangeString
import Derived.Laws.RangeAny
import Derived.Laws.Strings3
import Derived.Deep.LoopGhost
import Derived.Lib.OthersKept
import Derived.Deep.QuietTactic
import Derived.BigQuiet
import Derived.Test.YtnmclolbndohiaaGreatDoorT13
import Derived.Test.YtnmclolbndohiaaGreatDoorT05
import Derived.Test.YtnmclolbndohiaaGreatDoorT03
import Derived.Deep.RegionWith
namespace Go.Proofs.YtnmclolbndohiaaGreatDoor
open Go.RowKit
open Ver

theorem indexByte_no (s : ByteArray) (a b : Nat) (c : Int) (hc0 : 128 ≤ c) (hc1 : c ≤ 255) (hascii : ∀ j (h : j < s.size), (s[j]'h).toNat < 128) : Lib.indexByte (s.extract a b).data.toList c.toNat.toUInt8 = -1 := by
  have hmem : ∀ x ∈ (s.extract a b).data.toList, x ≠ c.toNat.toUInt8 := by
    intro x hx e
    rw [Lib.extract_data] at hx
    have hx' := List.mem_of_mem_drop (List.mem_of_mem_take hx)
    obtain ⟨j, hj, hjx⟩ := List.mem_iff_getElem.1 hx'
    have hj' : j < s.size := by simpa using hj
    have h1 := hascii j hj'
    have h2 : s[j]'hj' = x := hjx
    rw [h2, e] at h1
    have h3 : c.toNat.toUInt8.toNat = c.toNat := by
      show c.toNat % 256 = c.toNat
      omega
    omega
  generalize (s.extract a b).data.toList = l at hmem
  induction l with
  | nil => rfl
  | cons x l ih =>
    have hx : (x == c.toNat.toUInt8) = false := by simpa using hmem x (by simp)
    rw [Lib.indexByte, hx, ih (fun y hy => hmem y (by simp [hy]))]
    rfl

set_option maxHeartbeats 800000 in
set_option maxRecDepth 1000000 in
/-- A rune that is none. -/
theorem indexRune_error (s : ByteArray) (w : World) (hascii : ∀ j (h : j < s.size), (s[j]'h).toNat < 128) :
    Calls Tryz.prog 76 #[.string s, .int .i32 65533] w fun e w' => e = .returned (.int .i64 (-1)) ∧ Below w.heap.size w w' := by
  have HA : Hid (∀ j (h : j < s.size), (s[j]'h).toNat < 128) := hascii
  clear hascii
  go_enter Tryz.func76, Tryz.ntmps76
  go_wp2
  go_loopg [5, 6] s.size (fun g _ _ wx => ∃ i : Nat, i + g = s.size ∧ wx = w.iter s i)
  case atStart => exact ⟨0, by omega, rfl⟩
  case round =>
    obtain ⟨i, hig, rfl⟩ := hrel
    cases gk with
    | zero =>
      obtain rfl : i = s.size := by omega
      have hnx := run_next_end (P := Tryz.prog) w s s.size
      go_wp2
      go_ret
      exact ⟨rfl, (Below.refl _ _).alloc (Nat.le_refl _) _⟩
    | succ g =>
      have hi : i < s.size := by omega
      have hx128 := HA.out i hi
      have hnx := fun ty => run_next_ascii (P := Tryz.prog) w s i ty hi hx128
      have hq : ((s[i].toNat : Int) == 65533) = false := by rw [beq_eq_false_iff_ne]; omega
      go_wp2
      go_roundg g
      case measure => omega
      case rel => exact ⟨i + 1, by omega, rfl⟩

set_option maxHeartbeats 1600000 in
set_option maxRecDepth 1000000 in
theorem indexRune_high (s : ByteArray) (r : Int) (w : World) (_hs : s.size ≤ 1048576) (h0 : 128 ≤ r) (h1 : r ≤ 2147483647) (he : (r == 65533) = false) (hascii : ∀ j (h : j < s.size), (s[j]'h).toNat < 128) :
    Calls Tryz.prog 76 #[.string s, .int .i32 r] w fun e w' => e = .returned (.int .i64 (-1)) ∧ Below w.heap.size w w' := by
  cases hv : Lib.validRune r
  · clear hascii
    go_enter Tryz.func76, Tryz.ntmps76
    go_wp2_with (go_at_call 119; refine (Tryz.utf8_ValidRune _ _).mono ?_; rintro e w' ⟨rfl, hw⟩; rw [hw, hv])
    go_ret
    exact ⟨rfl, Below.refl _ _⟩
  · have hval : Utf8.valid r = true := by
      have := of_decide_eq_true hv
      unfold Utf8.valid
      rcases this with h | h
      · simp [h.1, h.2]
      · have a : (0xE000 : Int) ≤ r := by omega
        simp [a, h.2]
    obtain ⟨z2, z4, zl⟩ := encode_facts r hval h0
    obtain ⟨rs, hrs⟩ : ∃ rs, Utf8.encode r = rs := ⟨_, rfl⟩
    rw [hrs] at z2 z4 zl
    obtain ⟨k, hk⟩ : ∃ k, rs.size = k + 1 := ⟨rs.size - 1, by omega⟩
    have hkl : k < rs.size := by omega
    have hlast : 128 ≤ (rs[k]'hkl).toNat := by
      have := zl (by omega)
      have e : rs.size - 1 = k := by omega
      simpa only [e] using this
    have hlast2 : (rs[k]'hkl).toNat ≤ 255 := by have := (rs[k]'hkl).toNat_lt; omega
    have IB := fun w => Tryz.strings_IndexByte (s.extract (k + 1) s.size) ((rs[k]'hkl).toNat : Int) w
    have hno := indexByte_no s (k + 1) s.size ((rs[k]'hkl).toNat : Int) (by omega) (by omega) hascii
    rw [hno] at IB
    have HIB : Hid (∀ w : World, Calls Tryz.prog 118 #[.string (s.extract (k + 1) s.size), .int .u8 ((rs[k]'hkl).toNat : Int)] w fun e w' => e = .returned (.int .i64 (-1)) ∧ w' = w) := IB
    clear IB hno zl
    by_cases hlen : k < s.size
    · have hne : ((s[k].toNat : Int) != ((rs[k]'hkl).toNat : Int)) = true := by
        have := hascii k hlen
        rw [bne_iff_ne]; omega
      clear hascii
      have k1 : (k : Int) < (k : Int) + 1 := by omega
      have k2 : (k : Int) < (s.size : Int) := by omega
      have kw : IntKind.i64.wrap ((k : Int) + 1) = (k : Int) + 1 := wrap_small _ (by omega) (by omega)
      have k3 : (k : Int) + 1 ≤ (s.size : Int) := by omega
      have hsl : ∀ wx : World, (Instr.slice 9 (.string s) (some (.int .i64 ((k : Int) + 1))) none none).run Tryz.prog wx = .ok (.string (s.extract (k + 1) s.size)) wx := fun wx => by
        rw [run_slice_string_from_if _ _ _ _ _ Tryz.underlying9, if_pos (by omega)]
        rfl
      go_enter Tryz.func76, Tryz.ntmps76
      go_wp2_with (go_at_call 119; refine (Tryz.utf8_ValidRune _ _).mono ?_; rintro e w' ⟨rfl, hw⟩; rw [hw, hv])
      go_step3
      go_wp2
      refine wp_loop_rounds 1 ?_
      rw [rounds_succ]
      go_wp2
      go_step3
      go_wp2
      go_quiet (fail)
      go_wp2
      go_quiet ((go_at_call 118; exact (HIB.out _).mono fun _ _ h => ⟨h.1, _, h.2⟩))
      go_wp2
      repeat rw [Exit.noGoto_ret]
      go_wp2
      repeat rw [Exit.noGoto_ret]
      go_ret
      exact ⟨rfl, below_drewN (Below.refl _ _) _⟩
    · clear hascii
      go_enter Tryz.func76, Tryz.ntmps76
      go_wp2_with (go_at_call 119; refine (Tryz.utf8_ValidRune _ _).mono ?_; rintro e w' ⟨rfl, hw⟩; rw [hw, hv])
      go_step3
      go_wp2
      refine wp_loop_rounds 1 ?_
      rw [rounds_succ]
      go_wp2
      repeat rw [Exit.noGoto_ret]
      go_ret
      exact ⟨rfl, Below.refl _ _⟩

/-- A rune that is no ASCII one is not in an ASCII text. -/
theorem indexRune_not (s : ByteArray) (r : Nat) (w : World) (hs : s.size ≤ 1048576) (h0 : 128 ≤ r) (h1 : r ≤ 2147483647) (hascii : ∀ j (h : j < s.size), (s[j]'h).toNat < 128) :
    Calls Tryz.prog 76 #[.string s, .int .i32 (r : Int)] w fun e w' => e = .returned (.int .i64 (-1)) ∧ Below w.heap.size w w' := by
  by_cases he : r = 65533
  · subst he
    exact indexRune_error s w hascii
  · exact indexRune_high s r w hs (by omega) (by omega) (by rw [beq_eq_false_iff_ne]; omega) hascii

theorem noAny_rune (s chars : ByteArray) (pos n : Nat) (hascii : ∀ j (h : j < chars.size), (chars[j]'h).toNat < 128) (hn : ∀ j, j < n → ∃ h' : pos + j < s.size, 128 ≤ (s[pos + j]'h').toNat)
    (h : Lib.NoAny s.data.toList chars.data.toList pos) : Lib.NoAny s.data.toList chars.data.toList (pos + n) := by
  intro j b hj hb
  by_cases h1 : j < pos
  · exact h j b h1 hb
  · obtain ⟨h2, h3⟩ := hn (j - pos) (by omega)
    have e : pos + (j - pos) = j := by omega
    simp only [e] at h2 h3
    have hjb : s[j]'h2 = b := by
      have := Lib.data_getElem? s j h2
      rw [this] at hb; exact Option.some.inj hb
    rw [hjb] at h3
    cases hc : chars.data.toList.contains b
    · rfl
    · exfalso
      obtain ⟨k, hk, hkb⟩ := List.mem_iff_getElem.1 (List.contains_iff_mem.1 hc)
      have hk' : k < chars.size := by simpa using hk
      have h4 := hascii k hk'
      have h5 : chars[k]'hk' = b := hkb
      rw [h5] at h4
      omega

set_option maxHeartbeats 1600000 in
set_option maxRecDepth 1000000 in
/-- s of at most 8 bytes, whatever they are; chars of two or more ASCII bytes. -/
theorem indexAny_short (s chars : ByteArray) (w : World) (h2 : 2 ≤ chars.size) (hcs : chars.size ≤ 1048576) (h8 : s.size ≤ 8) (hascii : ∀ j (h : j < chars.size), (chars[j]'h).toNat < 128) :
    Calls Tryz.prog 47 #[.string s, .string chars] w fun e w' => e = .returned (.int .i64 (Lib.indexAny s.data.toList chars.data.toList)) ∧ Below w.heap.size w w' := by
  have HA : Hid (∀ j (h : j < chars.size), (chars[j]'h).toNat < 128) := hascii
  clear hascii
  have hemp : chars.toList.isEmpty = false := by
    rw [Lib.toList_data]
    cases h : chars.data.toList with
    | nil => have := Lib.size_eq chars; rw [h, List.length_nil] at this; omega
    | cons _ _ => rfl
  have hn1 : ((chars.size : Int) == 1) = false := beq_eq_false_iff_ne.2 (by omega)
  have h8z : decide ((8 : Int) < (s.size : Int)) = false := decide_eq_false (by omega)
  go_enter Tryz.func47, Tryz.ntmps47
  go_wp2_with (go_at_call 77; refine (Tryz.strings_shouldUseASCIISet _ _).mono ?_; rintro e w' ⟨rfl, hw⟩; rw [hw, h8z])
  go_loopg [9, 10] s.size (fun g _ _ wx => ∃ i : Nat, i + g = s.size ∧ wx.heap[w.heap.size]? = some (.stringIter s i) ∧ Below w.heap.size w wx ∧ Lib.NoAny s.data.toList chars.data.toList i)
  case atStart => exact ⟨0, by omega, World.iter_heap _ _ _, (Below.refl _ _).alloc (Nat.le_refl _) _, Lib.NoAny.zero _ _⟩
  case round =>
    obtain ⟨i, hig, hit, hbel, hno⟩ := hrel
    have HN : Hid (Lib.NoAny s.data.toList chars.data.toList i) := hno
    clear hno
    cases gk with
    | zero =>
      have hi : ¬ i < s.size := by omega
      have hnx := fun ty => Lib.run_next_end_at (P := Tryz.prog) wr w.heap.size s i ty hit hi
      have HE : Hid (-1 = Lib.indexAny s.data.toList chars.data.toList) := by
        show _ = _
        have e : i = s.data.toList.length := by rw [← Lib.size_eq]; omega
        rw [Lib.indexAny_none (by rw [← e]; exact HN.out)]
      clear HN
      go_wp2
      go_ret
      exact ⟨by rw [← HE.out]; rfl, hbel⟩
    | succ g =>
      have hi : i < s.size := by omega
      by_cases ha : (s[i]'hi).toNat < 128
      · have hnx := fun ty => Lib.run_next_ascii_at (P := Tryz.prog) wr w.heap.size s i ty hit hi ha
        obtain ⟨x, hx⟩ : ∃ x : UInt8, s[i]'hi = x := ⟨_, rfl⟩
        have Hx : Hid (s.data.toList[i]? = some x) := by show _ = _; rw [← hx]; exact Lib.data_getElem? s i hi
        have hit2 := Lib.iterAt_heap wr w.heap.size s i (i + 1) hit
        have hbel2 := Lib.below_iterAt hbel (Nat.le_refl _) s (i + 1)
        rw [hx] at hnx ha
        clear hx
        have hcon := Lib.contains_iff_indexByte chars.data.toList x
        have hback : ((x.toNat : Int)).toNat.toUInt8 = x := by simp
        have IR := fun w => Tryz.strings_IndexRune_ascii chars (x.toNat : Int) w (by omega) (by omega)
        rw [hback] at IR
        clear hback
        cases hin : chars.data.toList.contains x
        · rw [hin] at hcon
          have hlt : ¬ ((0 : Int) ≤ Lib.indexByte chars.data.toList x) := of_decide_eq_false hcon.symm
          clear hcon
          generalize Lib.indexByte chars.data.toList x = R at *
          have HI : Hid (∀ w : World, Calls Tryz.prog 76 #[.string chars, .int .i32 (x.toNat : Int)] w fun e w' => e = .returned (.int .i64 R) ∧ w' = w) := IR
          have HS : Hid (Lib.NoAny s.data.toList chars.data.toList (i + 1)) := HN.out.succ Hx.out hin
          clear IR HN hin
          go_wp2_with (go_at_call 76; refine (HI.out _).mono ?_; rintro e w' ⟨rfl, rfl⟩)
          go_roundg g
          case measure => omega
          case rel => exact ⟨i + 1, by omega, hit2, hbel2, HS.out⟩
        · rw [hin] at hcon
          have hge : (0 : Int) ≤ Lib.indexByte chars.data.toList x := of_decide_eq_true hcon.symm
          clear hcon
          generalize Lib.indexByte chars.data.toList x = R at *
          have HI : Hid (∀ w : World, Calls Tryz.prog 76 #[.string chars, .int .i32 (x.toNat : Int)] w fun e w' => e = .returned (.int .i64 R) ∧ w' = w) := IR
          have HE : Hid (((i : Nat) : Int) = Lib.indexAny s.data.toList chars.data.toList) := by
            show _ = _; rw [Lib.indexAny_hit HN.out Hx.out hin]
          clear IR HN hin
          go_wp2_with (go_at_call 76; refine (HI.out _).mono ?_; rintro e w' ⟨rfl, rfl⟩)
          go_ret
          exact ⟨by rw [← HE.out]; rfl, hbel2⟩
      · have ha' : 128 ≤ (s[i]'hi).toNat := by omega
        have hnx := fun ty => Lib.run_next_any_at (P := Tryz.prog) wr w.heap.size s i ty hit hi
        obtain ⟨d1, d2⟩ := decode_high s i hi ha'
        have d3 := decode_le s i
        obtain ⟨d4, d5⟩ := decode_bytes s i hi ha'
        have HS : Hid (Lib.NoAny s.data.toList chars.data.toList (i + (Utf8.decode s i).2)) := noAny_rune s chars i _ HA.out d5 HN.out
        clear d5 HN ha ha'
        generalize (Utf8.decode s i).1 = r at *
        generalize (Utf8.decode s i).2 = n at *
        have hit2 := Lib.iterAt_heap wr w.heap.size s i (i + n) hit
        have hbel2 := Lib.below_iterAt hbel (Nat.le_refl _) s (i + n)
        have HI : Hid (∀ w : World, Calls Tryz.prog 76 #[.string chars, .int .i32 (r : Int)] w fun e w' => e = .returned (.int .i64 (-1)) ∧ Below w.heap.size w w') := fun w => indexRune_not chars r w hcs d1 d3 HA.out
        go_wp2_with fail
        refine (HI.out _).mono ?_
        rintro e w2 ⟨rfl, hb3⟩
        have hlt : w.heap.size < (wr.iterAt w.heap.size s (i + n)).heap.size := (Array.getElem?_eq_some_iff.1 hit2).1
        have hit3 : w2.heap[w.heap.size]? = some (.stringIter s (i + n)) := (hb3.block _ hlt).trans hit2
        have hbel3 : Below w.heap.size w w2 := hbel2.trans (hb3.mono (Nat.le_of_lt hlt))
        clear hb3 hit2 hbel2 hlt hnx
        go_wp2
        go_roundg (s.size - (i + n))
        case measure => omega
        case rel => exact ⟨i + n, by omega, hit3, hbel3, HS.out⟩

end Go.Proofs.YtnmclolbndohiaaGreatDoor

/-
  The walk of the code's 'Parse' (10); of strings.IndexAny (17) at the ten figures.
-/
namespace Go.Proofs.YtnmclolbndohiaaGreatDoor
open Go.RowKit
open Ver

abbrev figs : ByteArray := ⟨#[48, 49, 50, 51, 52, 53, 54, 55, 56, 57]⟩
theorem figs_ascii : ∀ j (h : j < figs.size), (figs[j]'h).toNat < 128 := by
  have : ∀ j : Fin 10, (figs[j.val]'(j.isLt)).toNat < 128 := by decide
  intro j h; exact this ⟨j, h⟩
theorem Tryz.zero59 : ∀ w, (zeroValue 182).run Tryz.prog w = .ok (.agg (Array.replicate 256 (.bool false))) w := fun _ => by kernel_rfl

theorem figs_any (s : ByteArray) (w : World) (hs : s.size ≤ 1048576) :
    Calls Tryz.prog 47 #[.string s, .string figs] w fun e w' => e = .returned (.int .i64 (Lib.indexAny s.data.toList figs.data.toList)) ∧ Below w.heap.size w w' := by
  by_cases h8 : s.size ≤ 8
  · exact indexAny_short s figs w (by decide) (by decide) h8 figs_ascii
  · refine (Tryz.strings_IndexAny_long Tryz.zero59 s figs w (by decide) (by omega) (by omega) (by decide) ?_).mono ?_
    · intro j b hj
      obtain ⟨h, e⟩ := List.getElem?_eq_some_iff.1 hj
      have := figs_ascii j h
      rw [← e]; exact this
    · rintro e w' ⟨rfl, rfl⟩
      exact ⟨rfl, ((Below.refl _ _).alloc (Nat.le_refl _) _).alloc (by simp) _⟩

theorem cellsOf_at (Q : List ByteArray) (N j : Nat) (h : j < Q.length) : (Lib.cellsOf Q N)[j]? = some (.string Q[j]) := by
  unfold Lib.cellsOf
  rw [List.getElem?_toArray, List.getElem?_append_left (by simpa using h)]
  simp [h]

/-- strings.SplitN(s, sep, 4), three pieces. -/
theorem splitN_three (s sep a b d : ByteArray) (m : Int) (w : World) (hs : s.size ≤ 1048576) (h1 : 1 ≤ sep.size) (hQ : Lib.splitB sep 0 (min 4 (s.size + 1) - 1) s = [a, b, d]) (hm : w.cell? ⟨16, 0, none⟩ = some (.int .i64 m)) :
    Calls Tryz.prog 45 #[.string s, .string sep, .int .i64 4] w fun e w' => ∃ N, e = .returned (.slice (some ⟨w.heap.size, 0, none⟩) 3 N) ∧ w'.cell? ⟨w.heap.size, 0, none⟩ = some (.string a) ∧ w'.cell? ⟨w.heap.size, 1, none⟩ = some (.string b) ∧
      w'.cell? ⟨w.heap.size, 2, none⟩ = some (.string d) ∧ w'.heap.size = w.heap.size + 1 ∧ Below w.heap.size w w' := by
  refine (Tryz.strings_SplitN s sep 4 m w (by omega) hm h1 (by decide) (by decide)).mono ?_
  rw [hQ]
  rintro e w' ⟨rfl, rfl⟩
  refine ⟨_, rfl, ?_, ?_, ?_, by simp, (Below.refl _ _).alloc (Nat.le_refl _) _⟩
  all_goals
    rw [World.cell?_alloc_at _ _ _ _ rfl, cellsOf_at _ _ _ (by simp)]
    rfl

/-- strings.SplitN(s, sep, 4), whatever it gives. -/
theorem splitN_else (s sep : ByteArray) (m : Int) (w : World) (hs : s.size ≤ 1048576) (h1 : 1 ≤ sep.size) (n : Nat) (hn : (Lib.splitB sep 0 (min 4 (s.size + 1) - 1) s).length = n) (hm : w.cell? ⟨16, 0, none⟩ = some (.int .i64 m)) :
    Calls Tryz.prog 45 #[.string s, .string sep, .int .i64 4] w fun e w' => ∃ N, e = .returned (.slice (some ⟨w.heap.size, 0, none⟩) n N) ∧ w'.heap.size = w.heap.size + 1 ∧ Below w.heap.size w w' := by
  refine (Tryz.strings_SplitN s sep 4 m w (by omega) hm h1 (by decide) (by decide)).mono ?_
  rw [hn]
  rintro e w' ⟨rfl, rfl⟩
  exact ⟨_, rfl, by simp, (Below.refl _ _).alloc (Nat.le_refl _) _⟩

/-- What the loop over the three pieces keeps: the pieces' block, the array's, the result's. -/
structure PW (w : World) (bR bP bV : Nat) (a b d : ByteArray) (E0 : Value) (n0 n1 n2 : Int) (wr : World) : Prop where
  below : Below w.heap.size w wr
  e0 : wr.cell? ⟨0, 0, none⟩ = some E0
  p0 : wr.cell? ⟨bP, 0, none⟩ = some (.string a)
  p1 : wr.cell? ⟨bP, 1, none⟩ = some (.string b)
  p2 : wr.cell? ⟨bP, 2, none⟩ = some (.string d)
  v0 : wr.cell? ⟨bV, 0, none⟩ = some (.int .i64 n0)
  v1 : wr.cell? ⟨bV, 1, none⟩ = some (.int .i64 n1)
  v2 : wr.cell? ⟨bV, 2, none⟩ = some (.int .i64 n2)
  fv : ∀ o, wr.frozen? ⟨bV, o, none⟩ = false
  r0 : wr.cell? ⟨bR, 0, none⟩ = some (.int .i64 0)
  r1 : wr.cell? ⟨bR, 1, none⟩ = some (.int .i64 0)
  r2 : wr.cell? ⟨bR, 2, none⟩ = some (.int .i64 0)
  fr : ∀ o, wr.frozen? ⟨bR, o, none⟩ = false
  lR : bR < wr.heap.size
  lP : bP < wr.heap.size
  lV : bV < wr.heap.size
  l0 : 0 < w.heap.size
  gR : w.heap.size ≤ bR
  gV : w.heap.size ≤ bV

theorem PW.on {w : World} {bR bP bV : Nat} {a b d : ByteArray} {E0 : Value} {n0 n1 n2 : Int} {wr w' : World} (h : PW w bR bP bV a b d E0 n0 n1 n2 wr) (hb : Below wr.heap.size wr w') : PW w bR bP bV a b d E0 n0 n1 n2 w' where
  below := h.below.trans (hb.mono h.below.size)
  e0 := (hb.cell (p := ⟨0, 0, none⟩) (by have := h.below.size; have := h.l0; show 0 < _; omega)).trans h.e0
  p0 := (hb.cell (p := ⟨bP, 0, none⟩) h.lP).trans h.p0
  p1 := (hb.cell (p := ⟨bP, 1, none⟩) h.lP).trans h.p1
  p2 := (hb.cell (p := ⟨bP, 2, none⟩) h.lP).trans h.p2
  v0 := (hb.cell (p := ⟨bV, 0, none⟩) h.lV).trans h.v0
  v1 := (hb.cell (p := ⟨bV, 1, none⟩) h.lV).trans h.v1
  v2 := (hb.cell (p := ⟨bV, 2, none⟩) h.lV).trans h.v2
  fv := fun o => (hb.frozen (p := ⟨bV, o, none⟩) h.lV).trans (h.fv o)
  r0 := (hb.cell (p := ⟨bR, 0, none⟩) h.lR).trans h.r0
  r1 := (hb.cell (p := ⟨bR, 1, none⟩) h.lR).trans h.r1
  r2 := (hb.cell (p := ⟨bR, 2, none⟩) h.lR).trans h.r2
  fr := fun o => (hb.frozen (p := ⟨bR, o, none⟩) h.lR).trans (h.fr o)
  lR := Nat.lt_of_lt_of_le h.lR hb.size
  lP := Nat.lt_of_lt_of_le h.lP hb.size
  lV := Nat.lt_of_lt_of_le h.lV hb.size
  l0 := h.l0
  gR := h.gR
  gV := h.gV

/-- A number is laid into its place. -/
theorem PW.set {w : World} {bR bP bV : Nat} {a b d : ByteArray} {E0 : Value} {n0 n1 n2 : Int} {wr : World} (h : PW w bR bP bV a b d E0 n0 n1 n2 wr) (hRV : bR ≠ bV) (hPV : bP ≠ bV) (k : Nat) (x : Int) :
    PW w bR bP bV a b d E0 (if k = 0 then x else n0) (if k = 1 then x else n1) (if k = 2 then x else n2) (wr.setCell ⟨bV, k, none⟩ (.int .i64 x)) := by
  have oP : ∀ o, (wr.setCell ⟨bV, k, none⟩ (.int .i64 x)).cell? ⟨bP, o, none⟩ = wr.cell? ⟨bP, o, none⟩ := fun o => World.cell?_setCell_other _ _ _ _ (fun e => hPV (congrArg Addr.block e).symm)
  have oR : ∀ o, (wr.setCell ⟨bV, k, none⟩ (.int .i64 x)).cell? ⟨bR, o, none⟩ = wr.cell? ⟨bR, o, none⟩ := fun o => World.cell?_setCell_other _ _ _ _ (fun e => hRV (congrArg Addr.block e).symm)
  have h0V : (0 : Nat) ≠ bV := by have := h.gV; have := h.l0; omega
  have oV : ∀ (o : Nat) (y : Int), wr.cell? ⟨bV, o, none⟩ = some (.int .i64 y) → (wr.setCell ⟨bV, k, none⟩ (.int .i64 x)).cell? ⟨bV, o, none⟩ = some (.int .i64 (if k = o then x else y)) := by
    intro o y ho
    by_cases e : k = o
    · subst e; rw [if_pos rfl]; exact World.cell?_setCell_same _ _ _ ho
    · rw [if_neg e]; exact (World.cell?_setCell_other _ _ _ _ (fun h' => e (congrArg Addr.off h'))).trans ho
  exact {
    below := h.below.setCell h.gV _
    e0 := (World.cell?_setCell_other _ _ _ _ (fun e => h0V (congrArg Addr.block e).symm)).trans h.e0
    p0 := (oP 0).trans h.p0
    p1 := (oP 1).trans h.p1
    p2 := (oP 2).trans h.p2
    v0 := oV 0 n0 h.v0
    v1 := oV 1 n1 h.v1
    v2 := oV 2 n2 h.v2
    fv := fun o => (World.frozen?_setCell _ _ _ _).trans (h.fv o)
    r0 := (oR 0).trans h.r0
    r1 := (oR 1).trans h.r1
    r2 := (oR 2).trans h.r2
    fr := fun o => (World.frozen?_setCell _ _ _ _).trans (h.fr o)
    lR := by simpa using h.lR
    lP := by simpa using h.lP
    lV := by simpa using h.lV
    l0 := h.l0
    gR := h.gR
    gV := h.gV }

/-- Where the pieces, the array and the result have just been laid. -/
theorem PW.start {w w1 : World} {a b d : ByteArray} {E0 : Value} (hE : w.cell? ⟨0, 0, none⟩ = some E0) (hw : 0 < w.heap.size)
    (hb : Below (w.heap.size + 1) (w.alloc (.cells #[.int .i64 0, .int .i64 0, .int .i64 0] 56)) w1) (hz : w1.heap.size = w.heap.size + 1 + 1)
    (c0 : w1.cell? ⟨w.heap.size + 1, 0, none⟩ = some (.string a)) (c1 : w1.cell? ⟨w.heap.size + 1, 1, none⟩ = some (.string b)) (c2 : w1.cell? ⟨w.heap.size + 1, 2, none⟩ = some (.string d)) :
    PW w w.heap.size (w.heap.size + 1) (w.heap.size + 1 + 1) a b d E0 0 0 0 (w1.alloc (.cells #[.int .i64 0, .int .i64 0, .int .i64 0] 56)) := by
  have hR : ∀ o, w1.cell? ⟨w.heap.size, o, none⟩ = (w.alloc (.cells #[.int .i64 0, .int .i64 0, .int .i64 0] 56)).cell? ⟨w.heap.size, o, none⟩ := fun o => hb.cell (p := ⟨w.heap.size, o, none⟩) (by show w.heap.size < _; omega)
  have hold : ∀ b o, b < w.heap.size + 1 + 1 → (w1.alloc (.cells #[.int .i64 0, .int .i64 0, .int .i64 0] 56)).cell? ⟨b, o, none⟩ = w1.cell? ⟨b, o, none⟩ := fun b o h => World.cell?_alloc_past _ _ _ (by show b < _; omega)
  have hnew : ∀ o, (w1.alloc (.cells #[.int .i64 0, .int .i64 0, .int .i64 0] 56)).cell? ⟨w.heap.size + 1 + 1, o, none⟩ = (#[.int .i64 0, .int .i64 0, .int .i64 0] : Array Value)[o]? := fun o => World.cell?_alloc_at _ _ _ _ (by show w.heap.size + 1 + 1 = _; omega)
  exact {
    below := (((Below.refl _ _).alloc (Nat.le_refl _) _).trans (hb.mono (by omega))).alloc (by omega) _
    e0 := by rw [hold _ _ (by omega), hb.cell (p := ⟨0, 0, none⟩) (by show 0 < _; omega), World.cell?_alloc_past _ _ _ (by show 0 < _; omega)]; exact hE
    p0 := by rw [hold _ _ (by omega)]; exact c0
    p1 := by rw [hold _ _ (by omega)]; exact c1
    p2 := by rw [hold _ _ (by omega)]; exact c2
    v0 := by rw [hnew]; rfl
    v1 := by rw [hnew]; rfl
    v2 := by rw [hnew]; rfl
    fv := fun o => World.frozen?_alloc_at _ _ _ _ (by show w.heap.size + 1 + 1 = _; omega)
    r0 := by rw [hold _ _ (by omega), hR, World.cell?_alloc_at _ _ _ _ rfl]; rfl
    r1 := by rw [hold _ _ (by omega), hR, World.cell?_alloc_at _ _ _ _ rfl]; rfl
    r2 := by rw [hold _ _ (by omega), hR, World.cell?_alloc_at _ _ _ _ rfl]; rfl
    fr := fun o => by
      rw [World.frozen?_alloc_past _ _ _ (by show w.heap.size < _; omega), hb.frozen (p := ⟨w.heap.size, o, none⟩) (by show w.heap.size < _; omega)]
      exact World.frozen?_alloc_at _ _ _ _ rfl
    lR := by simp; omega
    lP := by simp; omega
    lV := by simp; omega
    l0 := hw
    gR := Nat.le_refl _
    gV := by omega }

/-- What 'Parse' comes to. -/
def parseRes (E0 : Value) (l : List UInt8) : Ending :=
  if verI l < 0 then .returned (.tuple #[.agg #[.int .i64 0, .int .i64 0, .int .i64 0], E0])
  else .returned (.tuple #[.agg #[.int .i64 (verI l / 1000000), .int .i64 (verI l / 1000 % 1000), .int .i64 (verI l % 1000)], .nilIface])
theorem parseRes_no {E0 : Value} {l : List UInt8} (h : verI l < 0) : Ending.returned (.tuple #[.agg #[.int .i64 0, .int .i64 0, .int .i64 0], E0]) = parseRes E0 l := by
  unfold parseRes; rw [if_pos h]
theorem parseRes_yes {E0 : Value} {l : List UInt8} {x y z : Int} (hx : 0 ≤ x ∧ x ≤ 999) (hy : 0 ≤ y ∧ y ≤ 999) (hz : 0 ≤ z ∧ z ≤ 999) (h : verI l = 1000 * (1000 * x + y) + z) :
    Ending.returned (.tuple #[.agg #[.int .i64 x, .int .i64 y, .int .i64 z], .nilIface]) = parseRes E0 l := by
  unfold parseRes
  rw [if_neg (by omega)]
  have h1 : verI l / 1000000 = x := by omega
  have h2 : verI l / 1000 % 1000 = y := by omega
  have h3 : verI l % 1000 = z := by omega
  rw [h1, h2, h3]

theorem digRes_num (l : List UInt8) : digRes l = if numI l < 0 then .returned (.tuple #[.int .i64 0, .bool false]) else .returned (.tuple #[.int .i64 (numI l), .bool true]) := by
  unfold digRes; rw [digI_eq]
  by_cases h : numI l < 0
  · rw [if_pos h, if_pos h]
  · rw [if_neg h, if_neg h]

theorem Tryz.parseNumber_no (x : ByteArray) (w : World) (hx : x.size ≤ 1048576) (h : numI x.data.toList < 0) : Calls Tryz.prog 46 #[.string x] w fun e w' => e = .returned (.tuple #[.int .i64 0, .bool false]) ∧ Below w.heap.size w w' := by
  have := parseNumber_any x w hx
  rw [digRes_num, if_pos h] at this; exact this
theorem Tryz.parseNumber_yes (x : ByteArray) (w : World) (hx : x.size ≤ 1048576) (n : Int) (hn : numI x.data.toList = n) (h : 0 ≤ n) : Calls Tryz.prog 46 #[.string x] w fun e w' => e = .returned (.tuple #[.int .i64 n, .bool true]) ∧ Below w.heap.size w w' := by
  have := parseNumber_any x w hx
  rw [digRes_num, hn, if_neg (by omega)] at this; exact this

theorem verL_neg (a b d : List UInt8) (h : numI a < 0 ∨ numI b < 0 ∨ numI d < 0) : verL [a, b, d] < 0 := by
  show (if _ then _ else _) < _
  rw [if_pos h]; omega
theorem verL_pos (a b d : List UInt8) (ha : 0 ≤ numI a) (hb : 0 ≤ numI b) (hd : 0 ≤ numI d) : verL [a, b, d] = 1000 * (1000 * numI a + numI b) + numI d := by
  show (if _ then _ else _) = _
  rw [if_neg (by omega)]

set_option maxHeartbeats 1600000 in
set_option maxRecDepth 100000 in
theorem parse_three (s a b d : ByteArray) (E0 : Value) (m : Int) (w : World) (hs : s.size ≤ 1048576) (ha : a.size ≤ 1048576) (hb : b.size ≤ 1048576) (hd : d.size ≤ 1048576)
    (hQ : Lib.splitB ⟨#[46]⟩ 0 (min 4 (s.size + 1) - 1) s = [a, b, d]) (hV : verI s.data.toList = verL [a.data.toList, b.data.toList, d.data.toList]) (hE : w.cell? ⟨0, 0, none⟩ = some E0) (hm : w.cell? ⟨16, 0, none⟩ = some (.int .i64 m)) (hw : 16 < w.heap.size) :
    Calls Tryz.prog 26 #[.string s] w fun e w' => e = parseRes E0 s.data.toList ∧ Below w.heap.size w w' := by
  have C := splitN_three s ⟨#[46]⟩ a b d m (w.alloc (.cells #[.int .i64 0, .int .i64 0, .int .i64 0] 56)) hs (by decide) hQ (by rw [World.cell?_alloc_past _ _ _ (by show 16 < _; omega)]; exact hm)
  have HV : Hid (verI s.data.toList = verL [a.data.toList, b.data.toList, d.data.toList]) := hV
  have HE : Hid (w.cell? ⟨0, 0, none⟩ = some E0) := hE
  clear hQ hV hE hm
  go_enter Tryz.func26, Tryz.ntmps26
  go_wp2_with fail
  refine C.mono ?_
  rintro e w1 ⟨N, rfl, c0, c1, c2, hz, hbel⟩
  rw [World.size_alloc] at c0 c1 c2 hz hbel
  have hpw := PW.start HE.out (by omega) hbel hz c0 c1 c2
  have HP : Hid (PW w w.heap.size (w.heap.size + 1) (w.heap.size + 1 + 1) a b d E0 0 0 0 (w1.alloc (.cells #[.int .i64 0, .int .i64 0, .int .i64 0] 56))) := hpw
  clear hpw c0 c1 c2 hbel C HE
  go_wp2
  go_loopw [19] (fun i wr => ∃ (k : Nat) (n0 n1 n2 : Int), i = .int .i64 k ∧ PW w w.heap.size (w.heap.size + 1) (w.heap.size + 1 + 1) a b d E0 n0 n1 n2 wr ∧
      (k = 0 ∨ k = 1 ∧ n0 = numI a.data.toList ∧ 0 ≤ n0 ∨ k = 2 ∧ n0 = numI a.data.toList ∧ 0 ≤ n0 ∧ n1 = numI b.data.toList ∧ 0 ≤ n1 ∨ k = 3 ∧ n0 = numI a.data.toList ∧ 0 ≤ n0 ∧ n1 = numI b.data.toList ∧ 0 ≤ n1 ∧ n2 = numI d.data.toList ∧ 0 ≤ n2))
    (fun i _ => 3 - (intOf i).toNat)
  case atStart => exact ⟨0, 0, 0, 0, rfl, HP.out, Or.inl rfl⟩
  case round =>
    obtain ⟨k, n0, n1, n2, rfl, hpw, hk⟩ := hrel
    have q0 := hpw.p0
    have q1 := hpw.p1
    have q2 := hpw.p2
    have HW : Hid (PW w w.heap.size (w.heap.size + 1) (w.heap.size + 1 + 1) a b d E0 n0 n1 n2 wr) := hpw
    clear hpw HP
    rcases hk with rfl | ⟨rfl, hn0, hp0⟩ | ⟨rfl, hn0, hp0, hn1, hp1⟩ | ⟨rfl, hn0, hp0, hn1, hp1, hn2, hp2⟩
    · by_cases hx : numI a.data.toList < 0
      · have HR : Hid (verI s.data.toList < 0) := by show _ < _; rw [HV.out]; exact verL_neg _ _ _ (Or.inl hx)
        go_wp2_with fail
        refine (Tryz.parseNumber_no a _ ha hx).mono ?_
        rintro e w2 ⟨rfl, hb2⟩
        have hp9 := HW.out.on hb2
        have HB : Hid (Below w.heap.size w w2) := hp9.below
        have f0 := hp9.e0
        have f1 := hp9.r0
        have f2 := hp9.r1
        have f3 := hp9.r2
        have f4 := hp9.fr
        clear hb2 hp9 HW q0 q1 q2
        go_wp2
        go_region
        all_goals (try go_wp2)
        all_goals exact bodyPost_ret (v := .tuple #[.agg #[.int .i64 0, .int .i64 0, .int .i64 0], E0]) (by simp [results, Tryz.results26, go_sem, f1, f2, f3]) rfl ⟨parseRes_no HR.out, (((HB.out.setCell (Nat.le_refl _) _).setCell (Nat.le_refl _) _).setCell (Nat.le_refl _) _).drew⟩
      · have hx' : 0 ≤ numI a.data.toList := by omega
        have C := fun w => Tryz.parseNumber_yes a w ha _ rfl hx'
        obtain ⟨x, hxe⟩ : ∃ x, numI a.data.toList = x := ⟨_, rfl⟩
        rw [hxe] at C hx'
        have HX : Hid (numI a.data.toList = x) := hxe
        clear hxe hx
        go_wp2_with fail
        refine (C _).mono ?_
        rintro e w2 ⟨rfl, hb2⟩
        have hp9 := HW.out.on hb2
        have f0 := hp9.v0
        have f1 := hp9.fv 0
        have HS : Hid _ := hp9.set (by omega) (by omega) 0 x
        clear hb2 hp9 HW q0 q1 q2 C
        go_wp2
        go_roundw
        case rel => exact ⟨1, _, _, _, by go_num, HS.out, Or.inr (Or.inl ⟨rfl, HX.out.symm, hx'⟩)⟩
        case measure => simp [intOf]
    · have H0 : Hid (n0 = numI a.data.toList) := hn0
      clear hn0
      by_cases hx : numI b.data.toList < 0
      · have HR : Hid (verI s.data.toList < 0) := by show _ < _; rw [HV.out]; exact verL_neg _ _ _ (Or.inr (Or.inl hx))
        go_wp2_with fail
        refine (Tryz.parseNumber_no b _ hb hx).mono ?_
        rintro e w2 ⟨rfl, hb2⟩
        have hp9 := HW.out.on hb2
        have HB : Hid (Below w.heap.size w w2) := hp9.below
        have f0 := hp9.e0
        have f1 := hp9.r0
        have f2 := hp9.r1
        have f3 := hp9.r2
        have f4 := hp9.fr
        clear hb2 hp9 HW q0 q1 q2
        go_wp2
        go_region
        all_goals (try go_wp2)
        all_goals exact bodyPost_ret (v := .tuple #[.agg #[.int .i64 0, .int .i64 0, .int .i64 0], E0]) (by simp [results, Tryz.results26, go_sem, f1, f2, f3]) rfl ⟨parseRes_no HR.out, (((HB.out.setCell (Nat.le_refl _) _).setCell (Nat.le_refl _) _).setCell (Nat.le_refl _) _).drew⟩
      · have hx' : 0 ≤ numI b.data.toList := by omega
        have C := fun w => Tryz.parseNumber_yes b w hb _ rfl hx'
        obtain ⟨x, hxe⟩ : ∃ x, numI b.data.toList = x := ⟨_, rfl⟩
        rw [hxe] at C hx'
        have HX : Hid (numI b.data.toList = x) := hxe
        clear hxe hx
        go_wp2_with fail
        refine (C _).mono ?_
        rintro e w2 ⟨rfl, hb2⟩
        have hp9 := HW.out.on hb2
        have f0 := hp9.v1
        have f1 := hp9.fv 1
        have HS : Hid _ := hp9.set (by omega) (by omega) 1 x
        clear hb2 hp9 HW q0 q1 q2 C
        go_wp2
        go_roundw
        case rel => exact ⟨2, _, _, _, by go_num, HS.out, Or.inr (Or.inr (Or.inl ⟨rfl, H0.out, hp0, HX.out.symm, hx'⟩))⟩
        case measure => simp [intOf]
    · have H0 : Hid (n0 = numI a.data.toList) := hn0
      have H1 : Hid (n1 = numI b.data.toList) := hn1
      clear hn0 hn1
      by_cases hx : numI d.data.toList < 0
      · have HR : Hid (verI s.data.toList < 0) := by show _ < _; rw [HV.out]; exact verL_neg _ _ _ (Or.inr (Or.inr hx))
        go_wp2_with fail
        refine (Tryz.parseNumber_no d _ hd hx).mono ?_
        rintro e w2 ⟨rfl, hb2⟩
        have hp9 := HW.out.on hb2
        have HB : Hid (Below w.heap.size w w2) := hp9.below
        have f0 := hp9.e0
        have f1 := hp9.r0
        have f2 := hp9.r1
        have f3 := hp9.r2
        have f4 := hp9.fr
        clear hb2 hp9 HW q0 q1 q2
        go_wp2
        go_region
        all_goals (try go_wp2)
        all_goals exact bodyPost_ret (v := .tuple #[.agg #[.int .i64 0, .int .i64 0, .int .i64 0], E0]) (by simp [results, Tryz.results26, go_sem, f1, f2, f3]) rfl ⟨parseRes_no HR.out, (((HB.out.setCell (Nat.le_refl _) _).setCell (Nat.le_refl _) _).setCell (Nat.le_refl _) _).drew⟩
      · have hx' : 0 ≤ numI d.data.toList := by omega
        have C := fun w => Tryz.parseNumber_yes d w hd _ rfl hx'
        obtain ⟨x, hxe⟩ : ∃ x, numI d.data.toList = x := ⟨_, rfl⟩
        rw [hxe] at C hx'
        have HX : Hid (numI d.data.toList = x) := hxe
        clear hxe hx
        go_wp2_with fail
        refine (C _).mono ?_
        rintro e w2 ⟨rfl, hb2⟩
        have hp9 := HW.out.on hb2
        have f0 := hp9.v2
        have f1 := hp9.fv 2
        have HS : Hid _ := hp9.set (by omega) (by omega) 2 x
        clear hb2 hp9 HW q0 q1 q2 C
        go_wp2
        go_roundw
        case rel => exact ⟨3, _, _, _, by go_num, HS.out, Or.inr (Or.inr (Or.inr ⟨rfl, H0.out, hp0, H1.out, hp1, HX.out.symm, hx'⟩))⟩
        case measure => simp [intOf]
    · have HR : Hid (verI s.data.toList = 1000 * (1000 * n0 + n1) + n2) := by show _ = _; rw [HV.out, hn0, hn1, hn2]; exact verL_pos _ _ _ (by omega) (by omega) (by omega)
      have b0 := numI_bd a.data.toList
      have b1 := numI_bd b.data.toList
      have b2 := numI_bd d.data.toList
      rw [← hn0] at b0
      rw [← hn1] at b1
      rw [← hn2] at b2
      clear hn0 hn1 hn2
      have HB : Hid (Below w.heap.size w wr) := HW.out.below
      have f1 := HW.out.r0
      have f2 := HW.out.r1
      have f3 := HW.out.r2
      have f4 := HW.out.fr
      have f5 := HW.out.v0
      have f6 := HW.out.v1
      have f7 := HW.out.v2
      clear HW q0 q1 q2
      go_wp2
      exact bodyPost_ret (v := .tuple #[.agg #[.int .i64 n0, .int .i64 n1, .int .i64 n2], .nilIface]) (by simp [results, Tryz.results26, go_sem, f1, f2, f3]) rfl ⟨parseRes_yes ⟨hp0, b0.2⟩ ⟨hp1, b1.2⟩ ⟨hp2, b2.2⟩ HR.out, ((HB.out.setCell (Nat.le_refl _) _).setCell (Nat.le_refl _) _).setCell (Nat.le_refl _) _⟩

end Go.Proofs.YtnmclolbndohiaaGreatDoor

/-
  The walks of the code's 'Parse' (10) at every text, and of 'ParseDemand' (11).
-/
namespace Go.Proofs.YtnmclolbndohiaaGreatDoor
open Go.RowKit
open Ver

/-- The package-level variables that the calls read. -/
structure Glob (t0 t1 : TypeId) (p0 p1 : Value) (m : Int) (w : World) : Prop where
  c0 : w.cell? ⟨0, 0, none⟩ = some (.iface t0 p0)
  c1 : w.cell? ⟨1, 0, none⟩ = some (.iface t1 p1)
  c2 : w.cell? ⟨16, 0, none⟩ = some (.int .i64 m)
  lt : 16 < w.heap.size

theorem Glob.on {t0 t1 : TypeId} {p0 p1 : Value} {m : Int} {w w' : World} {B : Nat} (h : Glob t0 t1 p0 p1 m w) (hb : Below B w w') (hB : 16 < B) : Glob t0 t1 p0 p1 m w' where
  c0 := (hb.cell (p := ⟨0, 0, none⟩) (by show 0 < B; omega)).trans h.c0
  c1 := (hb.cell (p := ⟨1, 0, none⟩) (by show 1 < B; omega)).trans h.c1
  c2 := (hb.cell (p := ⟨16, 0, none⟩) (by show 16 < B; omega)).trans h.c2
  lt := Nat.lt_of_lt_of_le h.lt hb.size

set_option maxHeartbeats 800000 in
set_option maxRecDepth 100000 in
theorem parse_else (s : ByteArray) (E0 : Value) (m : Int) (w : World) (hs : s.size ≤ 1048576) (hn : (Lib.splitB ⟨#[46]⟩ 0 (min 4 (s.size + 1) - 1) s).length ≠ 3) (hV : verI s.data.toList < 0)
    (hE : w.cell? ⟨0, 0, none⟩ = some E0) (hm : w.cell? ⟨16, 0, none⟩ = some (.int .i64 m)) (hw : 16 < w.heap.size) :
    Calls Tryz.prog 26 #[.string s] w fun e w' => e = parseRes E0 s.data.toList ∧ Below w.heap.size w w' := by
  obtain ⟨n, hn'⟩ : ∃ n, (Lib.splitB ⟨#[46]⟩ 0 (min 4 (s.size + 1) - 1) s).length = n := ⟨_, rfl⟩
  have C := splitN_else s ⟨#[46]⟩ m (w.alloc (.cells #[.int .i64 0, .int .i64 0, .int .i64 0] 56)) hs (by decide) n hn' (by rw [World.cell?_alloc_past _ _ _ (by show 16 < _; omega)]; exact hm)
  have hq : ((n : Int) != 3) = true := by rw [bne_iff_ne]; omega
  have HV : Hid (verI s.data.toList < 0) := hV
  have HE : Hid (w.cell? ⟨0, 0, none⟩ = some E0) := hE
  clear hn' hn hV hE hm
  go_enter Tryz.func26, Tryz.ntmps26
  go_wp2_with fail
  refine C.mono ?_
  rintro e w1 ⟨N, rfl, hz, hbel⟩
  rw [World.size_alloc] at hz hbel
  have hR : ∀ o, w1.cell? ⟨w.heap.size, o, none⟩ = (#[.int .i64 0, .int .i64 0, .int .i64 0] : Array Value)[o]? := fun o => (hbel.cell (p := ⟨w.heap.size, o, none⟩) (by show w.heap.size < _; omega)).trans (World.cell?_alloc_at _ _ _ _ rfl)
  have f1 : w1.cell? ⟨w.heap.size, 0, none⟩ = some (.int .i64 0) := hR 0
  have f2 : w1.cell? ⟨w.heap.size, 1, none⟩ = some (.int .i64 0) := hR 1
  have f3 : w1.cell? ⟨w.heap.size, 2, none⟩ = some (.int .i64 0) := hR 2
  have f4 : ∀ o, w1.frozen? ⟨w.heap.size, o, none⟩ = false := fun o => (hbel.frozen (p := ⟨w.heap.size, o, none⟩) (by show w.heap.size < _; omega)).trans (World.frozen?_alloc_at _ _ _ _ rfl)
  have f0 : w1.cell? ⟨0, 0, none⟩ = some E0 := (hbel.cell (p := ⟨0, 0, none⟩) (by show 0 < _; omega)).trans ((World.cell?_alloc_past _ _ _ (by show 0 < _; omega)).trans HE.out)
  have HB : Hid (Below w.heap.size w w1) := ((Below.refl _ _).alloc (Nat.le_refl _) _).trans (hbel.mono (by omega))
  clear hR hbel C HE hz
  go_wp2
  go_region
  all_goals (try go_wp2)
  all_goals exact bodyPost_ret (v := .tuple #[.agg #[.int .i64 0, .int .i64 0, .int .i64 0], E0]) (by simp [results, Tryz.results26, go_sem, f1, f2, f3]) rfl ⟨parseRes_no HV.out, (((HB.out.setCell (Nat.le_refl _) _).setCell (Nat.le_refl _) _).setCell (Nat.le_refl _) _).drew⟩

theorem parse_any (s : ByteArray) (t0 t1 : TypeId) (p0 p1 : Value) (m : Int) (w : World) (hs : s.size ≤ 1048576) (G : Glob t0 t1 p0 p1 m w) :
    Calls Tryz.prog 26 #[.string s] w fun e w' => e = parseRes (.iface t0 p0) s.data.toList ∧ Below w.heap.size w w' := by
  obtain ⟨Q, hQ⟩ : ∃ Q, Lib.splitB ⟨#[46]⟩ 0 (min 4 (s.size + 1) - 1) s = Q := ⟨_, rfl⟩
  have h := split_three 46 s ⟨#[46]⟩ rfl Q hQ.symm
  by_cases h3 : Q.length = 3
  · have hd := h.1 h3
    match Q, h3 with
    | [a, b, d], _ =>
      have sz : ∀ x ∈ [a, b, d], x.size ≤ 1048576 := fun x hx => Nat.le_trans (piece_size (c := 46) (s := s) (P := [a, b, d]) hd x hx) hs
      exact parse_three s a b d _ m w hs (sz a (by simp)) (sz b (by simp)) (sz d (by simp)) hQ (by unfold verI; rw [← hd]; rfl) G.c0 G.c2 G.lt
  · have hd := h.2 h3
    refine parse_else s _ m w hs (by rw [hQ]; exact h3) ?_ G.c0 G.c2 G.lt
    unfold verI verL
    split
    · rename_i x y z e; rw [e] at hd; simp at hd
    · omega

theorem parse_no (s : ByteArray) (t0 t1 : TypeId) (p0 p1 : Value) (m : Int) (w : World) (hs : s.size ≤ 1048576) (G : Glob t0 t1 p0 p1 m w) (h : verI s.data.toList < 0) :
    Calls Tryz.prog 26 #[.string s] w fun e w' => e = .returned (.tuple #[.agg #[.int .i64 0, .int .i64 0, .int .i64 0], .iface t0 p0]) ∧ Below w.heap.size w w' := by
  have := parse_any s t0 t1 p0 p1 m w hs G
  rw [← parseRes_no h] at this; exact this
theorem parse_yes (s : ByteArray) (t0 t1 : TypeId) (p0 p1 : Value) (m : Int) (w : World) (hs : s.size ≤ 1048576) (G : Glob t0 t1 p0 p1 m w) (h : 0 ≤ verI s.data.toList) :
    Calls Tryz.prog 26 #[.string s] w fun e w' => e = .returned (.tuple #[.agg #[.int .i64 (verI s.data.toList / 1000000), .int .i64 (verI s.data.toList / 1000 % 1000), .int .i64 (verI s.data.toList % 1000)], .nilIface]) ∧ Below w.heap.size w w' := by
  have := parse_any s t0 t1 p0 p1 m w hs G
  unfold parseRes at this
  rw [if_neg (by omega)] at this; exact this

/-- What the reading of a demand keeps: the result's block. -/
structure DW (t0 t1 : TypeId) (p0 p1 : Value) (m : Int) (w wr : World) : Prop where
  below : Below w.heap.size w wr
  r0 : wr.cell? ⟨w.heap.size, 0, none⟩ = some (.int .i64 0)
  r1 : wr.cell? ⟨w.heap.size, 1, none⟩ = some (.int .i64 0)
  r2 : wr.cell? ⟨w.heap.size, 2, none⟩ = some (.int .i64 0)
  r3 : wr.cell? ⟨w.heap.size, 3, none⟩ = some (.int .i64 0)
  fr : ∀ o, wr.frozen? ⟨w.heap.size, o, none⟩ = false
  lR : w.heap.size < wr.heap.size
  g : Glob t0 t1 p0 p1 m wr

theorem DW.on {t0 t1 : TypeId} {p0 p1 : Value} {m : Int} {w wr w' : World} (h : DW t0 t1 p0 p1 m w wr) (hb : Below wr.heap.size wr w') : DW t0 t1 p0 p1 m w w' where
  below := h.below.trans (hb.mono h.below.size)
  r0 := (hb.cell (p := ⟨w.heap.size, 0, none⟩) h.lR).trans h.r0
  r1 := (hb.cell (p := ⟨w.heap.size, 1, none⟩) h.lR).trans h.r1
  r2 := (hb.cell (p := ⟨w.heap.size, 2, none⟩) h.lR).trans h.r2
  r3 := (hb.cell (p := ⟨w.heap.size, 3, none⟩) h.lR).trans h.r3
  fr := fun o => (hb.frozen (p := ⟨w.heap.size, o, none⟩) h.lR).trans (h.fr o)
  lR := Nat.lt_of_lt_of_le h.lR hb.size
  g := h.g.on hb (h.g.lt)

theorem DW.start {t0 t1 : TypeId} {p0 p1 : Value} {m : Int} {w : World} (G : Glob t0 t1 p0 p1 m w) : DW t0 t1 p0 p1 m w (w.alloc (.cells #[.int .i64 0, .int .i64 0, .int .i64 0, .int .i64 0] 63)) where
  below := (Below.refl _ _).alloc (Nat.le_refl _) _
  r0 := (World.cell?_alloc_at _ _ _ _ rfl).trans rfl
  r1 := (World.cell?_alloc_at _ _ _ _ rfl).trans rfl
  r2 := (World.cell?_alloc_at _ _ _ _ rfl).trans rfl
  r3 := (World.cell?_alloc_at _ _ _ _ rfl).trans rfl
  fr := fun _ => World.frozen?_alloc_at _ _ _ _ rfl
  lR := by simp
  g := G.on ((Below.refl _ _).alloc (Nat.le_refl _) _) G.lt

/-- How strong a demand is. -/
def stOf (c v : Int) : Int := if c = 42 then 0 else if c = 61 then 4 else if c = 62 then 1 else if c = 126 then 3 else caretI (v / 1000000) (v / 1000 % 1000)

/-- What 'ParseDemand' comes to: an error that is one of the two, or a demand. -/
def DemEnds (t0 t1 : TypeId) (p0 p1 : Value) (l : List UInt8) (e : Ending) : Prop :=
  ((demI l).1 = 0 ∧ (e = .returned (.tuple #[.agg #[.int .i64 0, .int .i64 0, .int .i64 0, .int .i64 0], .iface t0 p0]) ∨ e = .returned (.tuple #[.agg #[.int .i64 0, .int .i64 0, .int .i64 0, .int .i64 0], .iface t1 p1]))) ∨
  ((demI l).1 ≠ 0 ∧ e = .returned (.tuple #[.agg #[.int .i64 (stOf (demI l).1 (demI l).2), .int .i64 ((demI l).2 / 1000000), .int .i64 ((demI l).2 / 1000 % 1000), .int .i64 ((demI l).2 % 1000)], .nilIface]))

set_option maxHeartbeats 800000 in
set_option maxRecDepth 100000 in
theorem pdem_star (s : ByteArray) (w : World) (t0 t1 : TypeId) (p0 p1 : Value) (h : s.data.toList = [42]) :
    Calls Tryz.prog 27 #[.string s] w fun e w' => DemEnds t0 t1 p0 p1 s.data.toList e ∧ Below w.heap.size w w' := by
  have hst : (s.toList == [42]) = true := by rw [ByteArray.toList_eq, h]; rfl
  have HR : Hid (DemEnds t0 t1 p0 p1 s.data.toList (.returned (.tuple #[.agg #[.int .i64 0, .int .i64 0, .int .i64 0, .int .i64 0], .nilIface]))) := by
    refine Or.inr ⟨?_, ?_⟩
    · rw [h]; decide
    · rw [h]; rfl
  clear h
  go_enter Tryz.func27, Tryz.ntmps27
  go_wp2
  exact bodyPost_ret (v := .tuple #[.agg #[.int .i64 0, .int .i64 0, .int .i64 0, .int .i64 0], .nilIface]) (by simp [results, Tryz.results27, go_sem]) rfl ⟨HR.out, (Below.refl _ _).alloc (Nat.le_refl _) _⟩

end Go.Proofs.YtnmclolbndohiaaGreatDoor

/-
  The walk of the code's 'ParseDemand' (11), on.
-/
namespace Go.Proofs.YtnmclolbndohiaaGreatDoor
open Go.RowKit
open Ver

theorem figs_at (s : ByteArray) (w : World) (hs : s.size ≤ 1048576) (i : Int) (hi : Lib.indexAny s.data.toList figL = i) :
    Calls Tryz.prog 47 #[.string s, .string figs] w fun e w' => e = .returned (.int .i64 i) ∧ Below w.heap.size w w' := by
  have := figs_any s w hs
  rw [← hi]; exact this

theorem ends_no {t0 t1 : TypeId} {p0 p1 : Value} {l : List UInt8} (h : demI l = (0, 0)) : DemEnds t0 t1 p0 p1 l (.returned (.tuple #[.agg #[.int .i64 0, .int .i64 0, .int .i64 0, .int .i64 0], .iface t1 p1])) :=
  Or.inl ⟨by rw [h], Or.inr rfl⟩
theorem ends_no0 {t0 t1 : TypeId} {p0 p1 : Value} {l : List UInt8} (h : demI l = (0, 0)) : DemEnds t0 t1 p0 p1 l (.returned (.tuple #[.agg #[.int .i64 0, .int .i64 0, .int .i64 0, .int .i64 0], .iface t0 p0])) :=
  Or.inl ⟨by rw [h], Or.inl rfl⟩

theorem below4 {w w2 : World} (hb : Below w.heap.size w w2) (x0 x1 x2 x3 : Value) : Below w.heap.size w ((((w2.setCell ⟨w.heap.size, 0, none⟩ x0).setCell ⟨w.heap.size, 1, none⟩ x1).setCell ⟨w.heap.size, 2, none⟩ x2).setCell ⟨w.heap.size, 3, none⟩ x3) :=
  (((hb.setCell (Nat.le_refl _) _).setCell (Nat.le_refl _) _).setCell (Nat.le_refl _) _).setCell (Nat.le_refl _) _

set_option maxHeartbeats 800000 in
set_option maxRecDepth 100000 in
theorem pdem_nofig (s : ByteArray) (w : World) (t0 t1 : TypeId) (p0 p1 : Value) (m : Int) (hs : s.size ≤ 1048576) (G : Glob t0 t1 p0 p1 m w) (h : s.data.toList ≠ [42]) (i : Int) (hi : Lib.indexAny s.data.toList figL = i) (hneg : i < 0) :
    Calls Tryz.prog 27 #[.string s] w fun e w' => DemEnds t0 t1 p0 p1 s.data.toList e ∧ Below w.heap.size w w' := by
  have hst : (s.toList == [42]) = false := by rw [ByteArray.toList_eq]; simpa using h
  have HR : Hid (demI s.data.toList = (0, 0)) := code_nofig _ h (by omega)
  have HC : Hid (∀ w : World, Calls Tryz.prog 47 #[.string s, .string figs] w fun e w' => e = .returned (.int .i64 i) ∧ Below w.heap.size w w') := fun w => figs_at s w hs i hi
  have HD : Hid (DW t0 t1 p0 p1 m w (w.alloc (.cells #[.int .i64 0, .int .i64 0, .int .i64 0, .int .i64 0] 63))) := DW.start G
  have hw := G.lt
  clear h hi G
  go_enter Tryz.func27, Tryz.ntmps27
  go_wp2_with fail
  refine (HC.out _).mono ?_
  rintro e w1 ⟨rfl, hb1⟩
  have hd := HD.out.on hb1
  have HB : Hid (Below w.heap.size w w1) := hd.below
  have f0 := hd.r0
  have f1 := hd.r1
  have f2 := hd.r2
  have f3 := hd.r3
  have f4 := hd.fr
  have f5 := hd.g.c1
  clear hd hb1 HD HC
  go_wp2
  go_region
  all_goals (try go_wp2)
  all_goals exact bodyPost_ret (v := .tuple #[.agg #[.int .i64 0, .int .i64 0, .int .i64 0, .int .i64 0], .iface t1 p1]) (by simp [results, Tryz.results27, go_sem, f0, f1, f2, f3]) rfl ⟨ends_no HR.out, (below4 HB.out _ _ _ _).drew⟩

set_option maxHeartbeats 800000 in
set_option maxRecDepth 100000 in
theorem pdem_nover (s : ByteArray) (w : World) (t0 t1 : TypeId) (p0 p1 : Value) (m : Int) (hs : s.size ≤ 1048576) (G : Glob t0 t1 p0 p1 m w) (h : s.data.toList ≠ [42]) (k : Nat) (hk : k ≤ s.size) (hi : Lib.indexAny s.data.toList figL = k) (hv : verI (s.data.toList.drop k) < 0) :
    Calls Tryz.prog 27 #[.string s] w fun e w' => DemEnds t0 t1 p0 p1 s.data.toList e ∧ Below w.heap.size w w' := by
  have hst : (s.toList == [42]) = false := by rw [ByteArray.toList_eq]; simpa using h
  have HR : Hid (demI s.data.toList = (0, 0)) := code_nover _ k h hi hv
  have HC : Hid (∀ w : World, Calls Tryz.prog 47 #[.string s, .string figs] w fun e w' => e = .returned (.int .i64 (k : Int)) ∧ Below w.heap.size w w') := fun w => figs_at s w hs k hi
  have HP : Hid (∀ w : World, Glob t0 t1 p0 p1 m w → Calls Tryz.prog 26 #[.string (s.extract k s.size)] w fun e w' => e = .returned (.tuple #[.agg #[.int .i64 0, .int .i64 0, .int .i64 0], .iface t0 p0]) ∧ Below w.heap.size w w') :=
    fun w G => parse_no _ t0 t1 p0 p1 m w (by simp; omega) G (by rw [Lib.extract_to_end]; exact hv)
  have HD : Hid (DW t0 t1 p0 p1 m w (w.alloc (.cells #[.int .i64 0, .int .i64 0, .int .i64 0, .int .i64 0] 63))) := DW.start G
  have hw := G.lt
  clear h hi hv G
  have hk0 : (0 : Int) ≤ (k : Int) := by omega
  go_enter Tryz.func27, Tryz.ntmps27
  go_wp2_with fail
  refine (HC.out _).mono ?_
  rintro e w1 ⟨rfl, hb1⟩
  have HD1 : Hid (DW t0 t1 p0 p1 m w w1) := HD.out.on hb1
  clear hb1 HD HC
  go_wp2_with fail
  refine (HP.out _ HD1.out.g).mono ?_
  rintro e w2 ⟨rfl, hb2⟩
  have hd := HD1.out.on hb2
  have HB : Hid (Below w.heap.size w w2) := hd.below
  have hlt := hd.lR
  have f0 := hd.r0
  have f1 := hd.r1
  have f2 := hd.r2
  have f3 := hd.r3
  have f4 := hd.fr
  clear hd hb2 HD1 HP
  go_wp2
  exact bodyPost_ret (v := .tuple #[.agg #[.int .i64 0, .int .i64 0, .int .i64 0, .int .i64 0], .iface t0 p0]) (by simp [results, Tryz.results27, go_sem, f0, f1, f2, f3, hlt]) rfl ⟨ends_no0 HR.out, (below4 HB.out _ _ _ _).alloc (by simp; omega) _⟩

end Go.Proofs.YtnmclolbndohiaaGreatDoor
