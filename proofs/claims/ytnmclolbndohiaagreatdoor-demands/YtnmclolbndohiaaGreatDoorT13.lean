/-
  The walk of the code's 'parseNumber' (16).
-/
import Derived.Test.YtnmclolbndohiaaGreatDoorT02
import Derived.Laws.IdiomStrings
namespace Go.Proofs.YtnmclolbndohiaaGreatDoor
open Go.RowKit
open Ver

def digRes (l : List UInt8) : Ending := match digI l with | none => .returned (.tuple #[.int .i64 0, .bool false]) | some n => .returned (.tuple #[.int .i64 n, .bool true])
theorem digRes_none {l : List UInt8} (h : digI l = none) : Ending.returned (.tuple #[.int .i64 0, .bool false]) = digRes l := by unfold digRes; rw [h]
theorem digRes_some {l : List UInt8} {n : Int} (h : digI l = some n) : Ending.returned (.tuple #[.int .i64 n, .bool true]) = digRes l := by unfold digRes; rw [h]
theorem dig_bad (l : List UInt8) (h : l = [] ∨ (1 < l.length ∧ l.head? = some 48)) : digI l = none := if_pos h
theorem dig_good (l : List UInt8) (h : ¬ (l = [] ∨ (1 < l.length ∧ l.head? = some 48))) : digI l = digTo l 0 := if_neg h

set_option maxHeartbeats 400000 in
/-- The loop's part: the number does not begin with a 0 that may not be. -/
theorem parseNumber_some (s : ByteArray) (w : World) (hs : s.size ≤ 1048576) (hE : s.toList.isEmpty = false) (h0 : 0 < s.size)
    (hz : s.size ≤ 1 ∨ (1 < s.size ∧ ((s[0].toNat : Int) == 48) = false)) (hd : Hid (digI s.data.toList = digTo s.data.toList 0)) :
    Calls Tryz.prog 46 #[.string s] w fun e w' => e = digRes s.data.toList ∧ Below w.heap.size w w' := by
  have hcv := fun w s => run_bytes_of_string (P := Tryz.prog) w 9 121 5 s Tryz.underlying9 Tryz.underlying121 Tryz.underlying5
  have hc : ∀ cap k, (h : k < s.size) → (w.alloc (.cells (bytesRow s cap) 5 ((bytesRow s cap).size, (bytesRow s cap).size + 1))).cell? ⟨w.heap.size, k, none⟩ = some (.int .u8 s[k].toNat) := fun cap k h => by
    rw [World.cell?_alloc_mark]; exact bytesRow_at s cap k h
  rcases hz with hz | ⟨hz1, hz2⟩
  all_goals
    go_enter Tryz.func46, Tryz.ntmps46
    go_wp2
    generalize grownCap w s.size 0 5 = cap
    have hcc := hc cap
    clear hc hcv
    go_loop [4, 22] (fun n i => ∃ (k : Nat) (N : Int), k ≤ s.size ∧ i = .int .i64 k ∧ n = .int .i64 N ∧ 0 ≤ N ∧ N ≤ 999 ∧ digTo s.data.toList 0 = digTo (s.data.toList.drop k) N) (fun _ i => s.size - (intOf i).toNat)
    case atStart => exact ⟨0, 0, Nat.zero_le _, rfl, rfl, by omega, by omega, by simp⟩
    case round =>
      obtain ⟨k, N, hk, rfl, rfl, hN0, hN1, hto⟩ := hrel
      by_cases hlt : k < s.size
      · have HD : Hid (digTo s.data.toList 0 = if (s[k].toNat : Int) < 48 ∨ 57 < (s[k].toNat : Int) ∨ 999 < N * 10 + ((s[k].toNat : Int) - 48) then none else digTo (s.data.toList.drop (k + 1)) (N * 10 + ((s[k].toNat : Int) - 48))) := by
          rw [hto, drop_byte s k hlt]; rfl
        clear hto
        have hck := hcc k hlt
        clear hcc
        have hb : (s[k].toNat : Int) ≤ 255 := by have := s[k].toNat_lt; omega
        by_cases hx : (s[k].toNat : Int) < 48 ∨ 57 < (s[k].toNat : Int) ∨ 999 < N * 10 + ((s[k].toNat : Int) - 48)
        · have H1 : Hid (digI s.data.toList = none) := by
            show _ = _
            rw [hd.out, HD.out, if_pos hx]
          clear HD
          go_wp2
          all_goals first
            | (go_ret2; exact ⟨digRes_none H1.out, ((Below.refl _ _).alloc (Nat.le_refl _) _).drew⟩)
            | (exfalso; omega)
        · have H1 : Hid (digTo s.data.toList 0 = digTo (s.data.toList.drop (k + 1)) (N * 10 + ((s[k].toNat : Int) - 48))) := by
            show _ = _
            rw [HD.out, if_neg hx]
          clear HD
          have g1 : 48 ≤ (s[k].toNat : Int) := by omega
          have g2 : (s[k].toNat : Int) ≤ 57 := by omega
          have g3 : N * 10 + ((s[k].toNat : Int) - 48) ≤ 999 := by omega
          clear hx
          go_wp2
          go_round
          case rel => exact ⟨k + 1, N * 10 + (s[k].toNat - 48), by omega, by go_num, by go_num, by omega, by omega, H1.out⟩
          case measure => simp [intOf]; omega
      · have ek : k = s.size := by omega
        have HT : Hid (digI s.data.toList = some N) := by
          show _ = _
          rw [hd.out, hto, ek, List.drop_of_length_le (by simp)]; rfl
        clear hto ek
        go_wp2
        go_ret2
        exact ⟨digRes_some HT.out, ((Below.refl _ _).alloc (Nat.le_refl _) _).drew⟩

set_option maxHeartbeats 400000 in
theorem parseNumber_any (s : ByteArray) (w : World) (hs : s.size ≤ 1048576) :
    Calls Tryz.prog 46 #[.string s] w fun e w' => e = digRes s.data.toList ∧ Below w.heap.size w w' := by
  by_cases h0 : s.size = 0
  · have hE := isE s h0
    have H1 : Hid (digI s.data.toList = none) := dig_bad _ (Or.inl (List.length_eq_zero_iff.1 (by simpa using h0)))
    clear h0
    go_enter Tryz.func46, Tryz.ntmps46
    go_wp2
    go_ret2
    exact ⟨digRes_none H1.out, Below.refl _ _⟩
  · have hE := notE s h0
    have hp : 0 < s.size := by omega
    by_cases h1 : 1 < s.size
    · by_cases h2 : (s[0].toNat : Int) = 48
      · have H1 : Hid (digI s.data.toList = none) := dig_bad _ (Or.inr ⟨by simpa using h1, by rw [headOf s hp, byte48 _ h2]⟩)
        have hq : ((s[0].toNat : Int) == 48) = true := by simpa using h2
        clear h2 h0
        go_enter Tryz.func46, Tryz.ntmps46
        go_wp2
        go_ret2
        exact ⟨digRes_none H1.out, Below.refl _ _⟩
      · refine parseNumber_some s w hs hE hp (Or.inr ⟨h1, by simpa using h2⟩) (dig_good _ ?_)
        rintro (e | ⟨_, e⟩)
        · exact ne_nil s h0 e
        · rw [headOf s hp] at e; simp only [Option.some.injEq] at e; apply h2; rw [e]; rfl
    · refine parseNumber_some s w hs hE hp (Or.inl (by omega)) (dig_good _ ?_)
      rintro (e | ⟨e, _⟩)
      · exact ne_nil s h0 e
      · apply h1; simpa using e

end Go.Proofs.YtnmclolbndohiaaGreatDoor
