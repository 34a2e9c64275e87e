/-
  The walks of the code's 'isLetter', 'isDigit', 'IsName'.
-/
import Derived.Test.YtnmclolbndohiaaGreatDoorT04
import Derived.Laws.IdiomStrings
namespace Go.Proofs.YtnmclolbndohiaaGreatDoor
open Go.RowKit
open Ver

theorem isLetter_any (b : Int) (w : World) (B : Bool) (hB : decide (97 ≤ b ∧ b ≤ 122) = B) :
    Calls Tryz.prog 160 #[.int .u8 b] w fun e w' => e = .returned (.bool B) ∧ w' = w := by
  have HB : Hid (decide (97 ≤ b ∧ b ≤ 122) = B) := hB
  clear hB
  by_cases h1 : 97 ≤ b
  · by_cases h2 : b ≤ 122
    · have H : Hid (B = true) := HB.out.symm.trans (decide_eq_true ⟨h1, h2⟩)
      go_enter Tryz.func160, Tryz.ntmps160
      go_wp2
      go_ret
      exact ⟨retB H.out.symm, rfl⟩
    · have H : Hid (B = false) := HB.out.symm.trans (decide_eq_false (fun h => h2 h.2))
      go_enter Tryz.func160, Tryz.ntmps160
      go_wp2
      go_ret
      exact ⟨retB H.out.symm, rfl⟩
  · have H : Hid (B = false) := HB.out.symm.trans (decide_eq_false (fun h => h1 h.1))
    go_enter Tryz.func160, Tryz.ntmps160
    go_wp2
    go_ret
    exact ⟨retB H.out.symm, rfl⟩

theorem isDigit_any (b : Int) (w : World) (B : Bool) (hB : decide (48 ≤ b ∧ b ≤ 57) = B) :
    Calls Tryz.prog 161 #[.int .u8 b] w fun e w' => e = .returned (.bool B) ∧ w' = w := by
  have HB : Hid (decide (48 ≤ b ∧ b ≤ 57) = B) := hB
  clear hB
  by_cases h1 : 48 ≤ b
  · by_cases h2 : b ≤ 57
    · have H : Hid (B = true) := HB.out.symm.trans (decide_eq_true ⟨h1, h2⟩)
      go_enter Tryz.func161, Tryz.ntmps161
      go_wp2
      go_ret
      exact ⟨retB H.out.symm, rfl⟩
    · have H : Hid (B = false) := HB.out.symm.trans (decide_eq_false (fun h => h2 h.2))
      go_enter Tryz.func161, Tryz.ntmps161
      go_wp2
      go_ret
      exact ⟨retB H.out.symm, rfl⟩
  · have H : Hid (B = false) := HB.out.symm.trans (decide_eq_false (fun h => h1 h.1))
    go_enter Tryz.func161, Tryz.ntmps161
    go_wp2
    go_ret
    exact ⟨retB H.out.symm, rfl⟩

theorem nameL_len {l : List UInt8} (h : ¬ (1 ≤ l.length ∧ l.length ≤ 8)) : nameL l = false := by
  unfold nameL; rw [decide_eq_false h]; simp

set_option maxHeartbeats 800000 in
set_option maxRecDepth 100000 in
theorem isName_any (s : ByteArray) (w : World) :
    Calls Tryz.prog 125 #[.string s] w fun e w' => e = .returned (.bool (nameL s.data.toList)) ∧ Below w.heap.size w w' := by
  have hsz : s.data.toList.length = s.size := by simp
  have HL : Hid (∀ (b : Int) (w : World) (B : Bool), decide (97 ≤ b ∧ b ≤ 122) = B → Calls Tryz.prog 160 #[.int .u8 b] w fun e w' => e = .returned (.bool B) ∧ w' = w) := isLetter_any
  have HG : Hid (∀ (b : Int) (w : World) (B : Bool), decide (48 ≤ b ∧ b ≤ 57) = B → Calls Tryz.prog 161 #[.int .u8 b] w fun e w' => e = .returned (.bool B) ∧ w' = w) := isDigit_any
  by_cases h0 : s.size = 0
  · have H : Hid (nameL s.data.toList = false) := nameL_len (by omega)
    have hE : s.toList.isEmpty = true := by rw [ByteArray.toList_eq]; have : s.data.toList = [] := List.length_eq_zero_iff.1 (by omega); rw [this]; rfl
    go_enter Tryz.func125, Tryz.ntmps125
    go_wp2
    go_ret
    exact ⟨retB H.out.symm, Below.refl _ _⟩
  have hE : s.toList.isEmpty = false := by
    rw [ByteArray.toList_eq]
    cases e : s.data.toList with
    | nil => rw [e] at hsz; simp at hsz; omega
    | cons a b => rfl
  by_cases h8 : 8 < s.size
  · have H : Hid (nameL s.data.toList = false) := nameL_len (by omega)
    have h8' : (8 : Int) < (s.size : Int) := by omega
    go_enter Tryz.func125, Tryz.ntmps125
    go_wp2
    go_ret
    exact ⟨retB H.out.symm, Below.refl _ _⟩
  have h8' : ¬ (8 : Int) < (s.size : Int) := by omega
  have hpos : 0 < s.size := by omega
  have hpos' : (0 : Int) < (s.size : Int) := by omega
  by_cases hl : 97 ≤ (s[0].toNat : Int) ∧ (s[0].toNat : Int) ≤ 122
  · have hcv := fun w s => run_bytes_of_string (P := Tryz.prog) w 9 121 5 s Tryz.underlying9 Tryz.underlying121 Tryz.underlying5
    have hc : ∀ cap k, (h : k < s.size) → (w.alloc (.cells (bytesRow s cap) 5 ((bytesRow s cap).size, (bytesRow s cap).size + 1))).cell? ⟨w.heap.size, k, none⟩ = some (.int .u8 s[k].toNat) := fun cap k h => by
      rw [World.cell?_alloc_mark]; exact bytesRow_at s cap k h
    have HD0 : Hid (97 ≤ (s[0].toNat : Int) ∧ (s[0].toNat : Int) ≤ 122) := hl
    have HFIRST : Hid (∀ k, (h : k < s.size) → k = 0 → 97 ≤ (s[k].toNat : Int) ∧ (s[k].toNat : Int) ≤ 122) := fun k h e => by subst e; exact hl
    have HY : Hid (allOk 0 s.data.toList = true → nameL s.data.toList = true) := fun h => by rw [nameL_yes h]; exact decide_eq_true (by omega)
    clear hl hsz
    go_enter Tryz.func125, Tryz.ntmps125
    go_wp2_with fail
    refine (HL.out _ _ true (decide_eq_true ?_)).mono ?_
    · exact HD0.out
    rintro e w' ⟨rfl, hw'⟩
    obtain rfl : w = w' := hw'.symm
    clear HD0
    go_wp2
    generalize grownCap w s.size 0 5 = cap
    have hcc := hc cap
    clear hc hcv
    go_loop [21] (fun i => ∃ k : Nat, k ≤ s.size ∧ i = .int .i64 k ∧ allOk 0 s.data.toList = allOk k (s.data.toList.drop k)) (fun i => s.size - (intOf i).toNat)
    case atStart => exact ⟨0, Nat.zero_le _, rfl, by simp⟩
    case round =>
      obtain ⟨k, hk, rfl, hto⟩ := hrel
      by_cases hlt : k < s.size
      · have HD : Hid (allOk 0 s.data.toList = (okAt k s[k] && allOk (k + 1) (s.data.toList.drop (k + 1)))) := by
          show _ = _
          rw [hto, drop_byte s k hlt]; rfl
        have hck := hcc k hlt
        clear hto hcc
        have HF0 := HFIRST.out k hlt
        have hb : (s[k].toNat : Int) ≤ 255 := by have := s[k].toNat_lt; omega
        by_cases c1 : 97 ≤ (s[k].toNat : Int) ∧ (s[k].toNat : Int) ≤ 122
        · have H1 : Hid (allOk 0 s.data.toList = allOk (k + 1) (s.data.toList.drop (k + 1))) := by
            show _ = _
            have : okAt k s[k] = true := decide_eq_true (Or.inl c1)
            rw [HD.out, this]; rfl
          have HDL : Hid (97 ≤ (s[k].toNat : Int) ∧ (s[k].toNat : Int) ≤ 122) := c1
          clear HD HF0 c1
          go_wp2_with fail
          refine (HL.out _ _ true (decide_eq_true ?_)).mono ?_
          · exact HDL.out
          rintro e w' ⟨rfl, rfl⟩
          clear HDL
          go_wp2
          go_round
          case rel => exact ⟨k + 1, by omega, by go_num, H1.out⟩
          case measure => simp [intOf]; omega
        · have HDL : Hid (¬ (97 ≤ (s[k].toNat : Int) ∧ (s[k].toNat : Int) ≤ 122)) := c1
          by_cases c2 : 48 ≤ (s[k].toNat : Int) ∧ (s[k].toNat : Int) ≤ 57
          · have H1 : Hid (allOk 0 s.data.toList = allOk (k + 1) (s.data.toList.drop (k + 1))) := by
              show _ = _
              have hk0 : k ≠ 0 := fun e => c1 (HF0 e)
              have : okAt k s[k] = true := decide_eq_true (Or.inr ⟨c2, hk0⟩)
              rw [HD.out, this]; rfl
            have HDG : Hid (48 ≤ (s[k].toNat : Int) ∧ (s[k].toNat : Int) ≤ 57) := c2
            clear HD HF0 c1 c2
            go_wp2_with fail
            refine (HL.out _ _ false (decide_eq_false ?_)).mono ?_
            · exact HDL.out
            rintro e w' ⟨rfl, rfl⟩
            clear HDL
            go_wp2_with fail
            refine (HG.out _ _ true (decide_eq_true ?_)).mono ?_
            · exact HDG.out
            rintro e w' ⟨rfl, rfl⟩
            clear HDG
            go_wp2
            go_round
            case rel => exact ⟨k + 1, by omega, by go_num, H1.out⟩
            case measure => simp [intOf]; omega
          · have H1 : Hid (nameL s.data.toList = false) := nameL_no (by
              have : okAt k s[k] = false := decide_eq_false (by omega)
              rw [HD.out, this]; rfl)
            have HDG : Hid (¬ (48 ≤ (s[k].toNat : Int) ∧ (s[k].toNat : Int) ≤ 57)) := c2
            clear HD HF0 c1 c2
            go_wp2_with fail
            refine (HL.out _ _ false (decide_eq_false ?_)).mono ?_
            · exact HDL.out
            rintro e w' ⟨rfl, rfl⟩
            clear HDL
            go_wp2_with fail
            refine (HG.out _ _ false (decide_eq_false ?_)).mono ?_
            · exact HDG.out
            rintro e w' ⟨rfl, rfl⟩
            clear HDG
            go_wp2
            go_ret
            exact ⟨retB H1.out.symm, ((Below.refl _ _).alloc (Nat.le_refl _) _).drew⟩
      · have H1 : Hid (nameL s.data.toList = true) := HY.out (by rw [hto, List.drop_of_length_le (by simp; omega)]; rfl)
        clear hto
        go_wp2
        go_ret
        exact ⟨retB H1.out.symm, ((Below.refl _ _).alloc (Nat.le_refl _) _).drew⟩
  · have H : Hid (nameL s.data.toList = false) := nameL_no (by
      have h1 : s.data.toList.drop 0 = s[0] :: s.data.toList.drop 1 := drop_byte s 0 hpos
      have : okAt 0 s[0] = false := decide_eq_false (by omega)
      rw [List.drop_zero] at h1
      rw [h1, allOk, this]; rfl)
    have HD0 : Hid (¬ (97 ≤ (s[0].toNat : Int) ∧ (s[0].toNat : Int) ≤ 122)) := hl
    clear hl hsz
    go_enter Tryz.func125, Tryz.ntmps125
    go_wp2_with fail
    refine (HL.out _ _ false (decide_eq_false ?_)).mono ?_
    · exact HD0.out
    rintro e w' ⟨rfl, hw'⟩
    obtain rfl : w = w' := hw'.symm
    clear HD0
    go_wp2
    go_ret
    exact ⟨retB H.out.symm, Below.refl _ _⟩

end Go.Proofs.YtnmclolbndohiaaGreatDoor
