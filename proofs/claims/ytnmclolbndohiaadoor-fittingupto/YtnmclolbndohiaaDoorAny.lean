/-
  The walks of strings.IndexRune (21) at a rune that is no ASCII one, in an ASCII text; of strings.IndexAny (17) at whatever text, ASCII signs asked for.
-/
import Derived.Test.YtnmclolbndohiaaDoorShelf
import Derived.Test.YtnmclolbndohiaaDoorPlain
import Derived.Test.YtnmclolbndohiaaDoorRows
import Derived.WalkKit
import Derived.WalkSpells
import Derived.WalkLawsBesides
import Derived.Laws.RangeString
import Derived.Laws.RangeAny
import Derived.Laws.Strings3
import Derived.Deep.LoopGhost
import Derived.Lib.OthersKept
import Derived.Deep.QuietTactic
import Derived.BigQuiet
namespace Go.Proofs.YtnmclolbndohiaaDoor
open Go.RowKit
open Ver

theorem indexByte_no (s : ByteArray) (a b : Nat) (c : Int) (hc0 : 128 ≤ c) (hc1 : c ≤ 255) (hascii : ∀ j (h : j < s.size), (s[j]'h).toNat < 128) : Lib.indexByte (s.extract a b).data.toList c.toNat.toUInt8 = -1 := by
  have hmem : ∀ x ∈ (s.extract a b).data.toList, x ≠ c.toNat.toUInt8 := by
    intro x hx e
    rw [Lib.extract_data] at hx
    have hx' := List.mem_of_mem_drop (List.mem_of_mem_take hx)
    obtain ⟨j, hj, hjx⟩ := List.mem_iff_getElem.1 hx'
    have hj' : j < s.size := by simpa using hj
    have h1 := hascii j hj'
    have h2 : s[j]'hj' = x := hjx
    rw [h2, e] at h1
    have h3 : c.toNat.toUInt8.toNat = c.toNat := by
      show c.toNat % 256 = c.toNat
      omega
    omega
  generalize (s.extract a b).data.toList = l at hmem
  induction l with
  | nil => rfl
  | cons x l ih =>
    have hx : (x == c.toNat.toUInt8) = false := by simpa using hmem x (by simp)
    rw [Lib.indexByte, hx, ih (fun y hy => hmem y (by simp [hy]))]
    rfl

set_option maxHeartbeats 800000 in
set_option maxRecDepth 1000000 in
/-- A rune that is none. -/
theorem indexRune_error (s : ByteArray) (w : World) (hascii : ∀ j (h : j < s.size), (s[j]'h).toNat < 128) :
    Calls Tryd.prog 21 #[.string s, .int .i32 65533] w fun e w' => e = .returned (.int .i64 (-1)) ∧ Below w.heap.size w w' := by
  have HA : Hid (∀ j (h : j < s.size), (s[j]'h).toNat < 128) := hascii
  clear hascii
  go_enter Tryd.func21, Tryd.ntmps21
  go_wp2
  go_loopg [5, 6] s.size (fun g _ _ wx => ∃ i : Nat, i + g = s.size ∧ wx = w.iter s i)
  case atStart => exact ⟨0, by omega, rfl⟩
  case round =>
    obtain ⟨i, hig, rfl⟩ := hrel
    cases gk with
    | zero =>
      obtain rfl : i = s.size := by omega
      have hnx := run_next_end (P := Tryd.prog) w s s.size
      go_wp2
      go_ret
      exact ⟨rfl, (Below.refl _ _).alloc (Nat.le_refl _) _⟩
    | succ g =>
      have hi : i < s.size := by omega
      have hx128 := HA.out i hi
      have hnx := fun ty => run_next_ascii (P := Tryd.prog) w s i ty hi hx128
      have hq : ((s[i].toNat : Int) == 65533) = false := by rw [beq_eq_false_iff_ne]; omega
      go_wp2
      go_roundg g
      case measure => omega
      case rel => exact ⟨i + 1, by omega, rfl⟩

set_option maxHeartbeats 1600000 in
set_option maxRecDepth 1000000 in
theorem indexRune_high (s : ByteArray) (r : Int) (w : World) (_hs : s.size ≤ 1048576) (h0 : 128 ≤ r) (h1 : r ≤ 2147483647) (he : (r == 65533) = false) (hascii : ∀ j (h : j < s.size), (s[j]'h).toNat < 128) :
    Calls Tryd.prog 21 #[.string s, .int .i32 r] w fun e w' => e = .returned (.int .i64 (-1)) ∧ Below w.heap.size w w' := by
  cases hv : Lib.validRune r
  · clear hascii
    go_enter Tryd.func21, Tryd.ntmps21
    go_wp2_with (go_at_call 30; refine (Tryd.utf8_ValidRune _ _).mono ?_; rintro e w' ⟨rfl, hw⟩; rw [hw, hv])
    go_ret
    exact ⟨rfl, Below.refl _ _⟩
  · have hval : Utf8.valid r = true := by
      have := of_decide_eq_true hv
      unfold Utf8.valid
      rcases this with h | h
      · simp [h.1, h.2]
      · have a : (0xE000 : Int) ≤ r := by omega
        simp [a, h.2]
    obtain ⟨z2, z4, zl⟩ := encode_facts r hval h0
    obtain ⟨rs, hrs⟩ : ∃ rs, Utf8.encode r = rs := ⟨_, rfl⟩
    rw [hrs] at z2 z4 zl
    obtain ⟨k, hk⟩ : ∃ k, rs.size = k + 1 := ⟨rs.size - 1, by omega⟩
    have hkl : k < rs.size := by omega
    have hlast : 128 ≤ (rs[k]'hkl).toNat := by
      have := zl (by omega)
      have e : rs.size - 1 = k := by omega
      simpa only [e] using this
    have hlast2 : (rs[k]'hkl).toNat ≤ 255 := by have := (rs[k]'hkl).toNat_lt; omega
    have IB := fun w => Tryd.strings_IndexByte (s.extract (k + 1) s.size) ((rs[k]'hkl).toNat : Int) w
    have hno := indexByte_no s (k + 1) s.size ((rs[k]'hkl).toNat : Int) (by omega) (by omega) hascii
    rw [hno] at IB
    have HIB : Hid (∀ w : World, Calls Tryd.prog 29 #[.string (s.extract (k + 1) s.size), .int .u8 ((rs[k]'hkl).toNat : Int)] w fun e w' => e = .returned (.int .i64 (-1)) ∧ w' = w) := IB
    clear IB hno zl
    by_cases hlen : k < s.size
    · have hne : ((s[k].toNat : Int) != ((rs[k]'hkl).toNat : Int)) = true := by
        have := hascii k hlen
        rw [bne_iff_ne]; omega
      clear hascii
      have k1 : (k : Int) < (k : Int) + 1 := by omega
      have k2 : (k : Int) < (s.size : Int) := by omega
      have kw : IntKind.i64.wrap ((k : Int) + 1) = (k : Int) + 1 := wrap_small _ (by omega) (by omega)
      have k3 : (k : Int) + 1 ≤ (s.size : Int) := by omega
      have hsl : ∀ wx : World, (Instr.slice 9 (.string s) (some (.int .i64 ((k : Int) + 1))) none none).run Tryd.prog wx = .ok (.string (s.extract (k + 1) s.size)) wx := fun wx => by
        rw [run_slice_string_from_if _ _ _ _ _ Tryd.underlying9, if_pos (by omega)]
        rfl
      go_enter Tryd.func21, Tryd.ntmps21
      go_wp2_with (go_at_call 30; refine (Tryd.utf8_ValidRune _ _).mono ?_; rintro e w' ⟨rfl, hw⟩; rw [hw, hv])
      go_step3
      go_wp2
      refine wp_loop_rounds 1 ?_
      rw [rounds_succ]
      go_wp2
      go_step3
      go_wp2
      go_quiet (fail)
      go_wp2
      go_quiet ((go_at_call 29; exact (HIB.out _).mono fun _ _ h => ⟨h.1, _, h.2⟩))
      go_wp2
      repeat rw [Exit.noGoto_ret]
      go_wp2
      repeat rw [Exit.noGoto_ret]
      go_ret
      exact ⟨rfl, below_drewN (Below.refl _ _) _⟩
    · clear hascii
      go_enter Tryd.func21, Tryd.ntmps21
      go_wp2_with (go_at_call 30; refine (Tryd.utf8_ValidRune _ _).mono ?_; rintro e w' ⟨rfl, hw⟩; rw [hw, hv])
      go_step3
      go_wp2
      refine wp_loop_rounds 1 ?_
      rw [rounds_succ]
      go_wp2
      repeat rw [Exit.noGoto_ret]
      go_ret
      exact ⟨rfl, Below.refl _ _⟩

/-- A rune that is no ASCII one is not in an ASCII text. -/
theorem indexRune_not (s : ByteArray) (r : Nat) (w : World) (hs : s.size ≤ 1048576) (h0 : 128 ≤ r) (h1 : r ≤ 2147483647) (hascii : ∀ j (h : j < s.size), (s[j]'h).toNat < 128) :
    Calls Tryd.prog 21 #[.string s, .int .i32 (r : Int)] w fun e w' => e = .returned (.int .i64 (-1)) ∧ Below w.heap.size w w' := by
  by_cases he : r = 65533
  · subst he
    exact indexRune_error s w hascii
  · exact indexRune_high s r w hs (by omega) (by omega) (by rw [beq_eq_false_iff_ne]; omega) hascii

theorem noAny_rune (s chars : ByteArray) (pos n : Nat) (hascii : ∀ j (h : j < chars.size), (chars[j]'h).toNat < 128) (hn : ∀ j, j < n → ∃ h' : pos + j < s.size, 128 ≤ (s[pos + j]'h').toNat)
    (h : Lib.NoAny s.data.toList chars.data.toList pos) : Lib.NoAny s.data.toList chars.data.toList (pos + n) := by
  intro j b hj hb
  by_cases h1 : j < pos
  · exact h j b h1 hb
  · obtain ⟨h2, h3⟩ := hn (j - pos) (by omega)
    have e : pos + (j - pos) = j := by omega
    simp only [e] at h2 h3
    have hjb : s[j]'h2 = b := by
      have := Lib.data_getElem? s j h2
      rw [this] at hb; exact Option.some.inj hb
    rw [hjb] at h3
    cases hc : chars.data.toList.contains b
    · rfl
    · exfalso
      obtain ⟨k, hk, hkb⟩ := List.mem_iff_getElem.1 (List.contains_iff_mem.1 hc)
      have hk' : k < chars.size := by simpa using hk
      have h4 := hascii k hk'
      have h5 : chars[k]'hk' = b := hkb
      rw [h5] at h4
      omega

set_option maxHeartbeats 1600000 in
set_option maxRecDepth 1000000 in
/-- s of at most 8 bytes, whatever they are; chars of two or more ASCII bytes. -/
theorem indexAny_short (s chars : ByteArray) (w : World) (h2 : 2 ≤ chars.size) (hcs : chars.size ≤ 1048576) (h8 : s.size ≤ 8) (hascii : ∀ j (h : j < chars.size), (chars[j]'h).toNat < 128) :
    Calls Tryd.prog 17 #[.string s, .string chars] w fun e w' => e = .returned (.int .i64 (Lib.indexAny s.data.toList chars.data.toList)) ∧ Below w.heap.size w w' := by
  have HA : Hid (∀ j (h : j < chars.size), (chars[j]'h).toNat < 128) := hascii
  clear hascii
  have hemp : chars.toList.isEmpty = false := by
    rw [Lib.toList_data]
    cases h : chars.data.toList with
    | nil => have := Lib.size_eq chars; rw [h, List.length_nil] at this; omega
    | cons _ _ => rfl
  have hn1 : ((chars.size : Int) == 1) = false := beq_eq_false_iff_ne.2 (by omega)
  have h8z : decide ((8 : Int) < (s.size : Int)) = false := decide_eq_false (by omega)
  go_enter Tryd.func17, Tryd.ntmps17
  go_wp2_with (go_at_call 22; refine (Tryd.strings_shouldUseASCIISet _ _).mono ?_; rintro e w' ⟨rfl, hw⟩; rw [hw, h8z])
  go_loopg [9, 10] s.size (fun g _ _ wx => ∃ i : Nat, i + g = s.size ∧ wx.heap[w.heap.size]? = some (.stringIter s i) ∧ Below w.heap.size w wx ∧ Lib.NoAny s.data.toList chars.data.toList i)
  case atStart => exact ⟨0, by omega, World.iter_heap _ _ _, (Below.refl _ _).alloc (Nat.le_refl _) _, Lib.NoAny.zero _ _⟩
  case round =>
    obtain ⟨i, hig, hit, hbel, hno⟩ := hrel
    have HN : Hid (Lib.NoAny s.data.toList chars.data.toList i) := hno
    clear hno
    cases gk with
    | zero =>
      have hi : ¬ i < s.size := by omega
      have hnx := fun ty => Lib.run_next_end_at (P := Tryd.prog) wr w.heap.size s i ty hit hi
      have HE : Hid (-1 = Lib.indexAny s.data.toList chars.data.toList) := by
        show _ = _
        have e : i = s.data.toList.length := by rw [← Lib.size_eq]; omega
        rw [Lib.indexAny_none (by rw [← e]; exact HN.out)]
      clear HN
      go_wp2
      go_ret
      exact ⟨by rw [← HE.out]; rfl, hbel⟩
    | succ g =>
      have hi : i < s.size := by omega
      by_cases ha : (s[i]'hi).toNat < 128
      · have hnx := fun ty => Lib.run_next_ascii_at (P := Tryd.prog) wr w.heap.size s i ty hit hi ha
        obtain ⟨x, hx⟩ : ∃ x : UInt8, s[i]'hi = x := ⟨_, rfl⟩
        have Hx : Hid (s.data.toList[i]? = some x) := by show _ = _; rw [← hx]; exact Lib.data_getElem? s i hi
        have hit2 := Lib.iterAt_heap wr w.heap.size s i (i + 1) hit
        have hbel2 := Lib.below_iterAt hbel (Nat.le_refl _) s (i + 1)
        rw [hx] at hnx ha
        clear hx
        have hcon := Lib.contains_iff_indexByte chars.data.toList x
        have hback : ((x.toNat : Int)).toNat.toUInt8 = x := by simp
        have IR := fun w => Tryd.strings_IndexRune_ascii chars (x.toNat : Int) w (by omega) (by omega)
        rw [hback] at IR
        clear hback
        cases hin : chars.data.toList.contains x
        · rw [hin] at hcon
          have hlt : ¬ ((0 : Int) ≤ Lib.indexByte chars.data.toList x) := of_decide_eq_false hcon.symm
          clear hcon
          generalize Lib.indexByte chars.data.toList x = R at *
          have HI : Hid (∀ w : World, Calls Tryd.prog 21 #[.string chars, .int .i32 (x.toNat : Int)] w fun e w' => e = .returned (.int .i64 R) ∧ w' = w) := IR
          have HS : Hid (Lib.NoAny s.data.toList chars.data.toList (i + 1)) := HN.out.succ Hx.out hin
          clear IR HN hin
          go_wp2_with (go_at_call 21; refine (HI.out _).mono ?_; rintro e w' ⟨rfl, rfl⟩)
          go_roundg g
          case measure => omega
          case rel => exact ⟨i + 1, by omega, hit2, hbel2, HS.out⟩
        · rw [hin] at hcon
          have hge : (0 : Int) ≤ Lib.indexByte chars.data.toList x := of_decide_eq_true hcon.symm
          clear hcon
          generalize Lib.indexByte chars.data.toList x = R at *
          have HI : Hid (∀ w : World, Calls Tryd.prog 21 #[.string chars, .int .i32 (x.toNat : Int)] w fun e w' => e = .returned (.int .i64 R) ∧ w' = w) := IR
          have HE : Hid (((i : Nat) : Int) = Lib.indexAny s.data.toList chars.data.toList) := by
            show _ = _; rw [Lib.indexAny_hit HN.out Hx.out hin]
          clear IR HN hin
          go_wp2_with (go_at_call 21; refine (HI.out _).mono ?_; rintro e w' ⟨rfl, rfl⟩)
          go_ret
          exact ⟨by rw [← HE.out]; rfl, hbel2⟩
      · have ha' : 128 ≤ (s[i]'hi).toNat := by omega
        have hnx := fun ty => Lib.run_next_any_at (P := Tryd.prog) wr w.heap.size s i ty hit hi
        obtain ⟨d1, d2⟩ := decode_high s i hi ha'
        have d3 := decode_le s i
        obtain ⟨d4, d5⟩ := decode_bytes s i hi ha'
        have HS : Hid (Lib.NoAny s.data.toList chars.data.toList (i + (Utf8.decode s i).2)) := noAny_rune s chars i _ HA.out d5 HN.out
        clear d5 HN ha ha'
        generalize (Utf8.decode s i).1 = r at *
        generalize (Utf8.decode s i).2 = n at *
        have hit2 := Lib.iterAt_heap wr w.heap.size s i (i + n) hit
        have hbel2 := Lib.below_iterAt hbel (Nat.le_refl _) s (i + n)
        have HI : Hid (∀ w : World, Calls Tryd.prog 21 #[.string chars, .int .i32 (r : Int)] w fun e w' => e = .returned (.int .i64 (-1)) ∧ Below w.heap.size w w') := fun w => indexRune_not chars r w hcs d1 d3 HA.out
        go_wp2_with fail
        refine (HI.out _).mono ?_
        rintro e w2 ⟨rfl, hb3⟩
        have hlt : w.heap.size < (wr.iterAt w.heap.size s (i + n)).heap.size := (Array.getElem?_eq_some_iff.1 hit2).1
        have hit3 : w2.heap[w.heap.size]? = some (.stringIter s (i + n)) := (hb3.block _ hlt).trans hit2
        have hbel3 : Below w.heap.size w w2 := hbel2.trans (hb3.mono (Nat.le_of_lt hlt))
        clear hb3 hit2 hbel2 hlt hnx
        go_wp2
        go_roundg (s.size - (i + n))
        case measure => omega
        case rel => exact ⟨i + n, by omega, hit3, hbel3, HS.out⟩

end Go.Proofs.YtnmclolbndohiaaDoor
