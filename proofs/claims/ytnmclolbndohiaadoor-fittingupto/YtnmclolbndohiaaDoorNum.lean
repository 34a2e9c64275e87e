/-
  The walks of the reference's 'number' (14), of 'num' (8).
-/
import Derived.Test.YtnmclolbndohiaaDoorRows
import Derived.Test.YtnmclolbndohiaaDoorPure
import Derived.WalkKit
import Derived.WalkSpells
import Derived.WalkLawsBesides
namespace Go.Proofs.YtnmclolbndohiaaDoor
open Go.RowKit
open Ver

theorem ret_int {k : IntKind} {a b : Int} (h : a = b) : Ending.returned (.int k a) = .returned (.int k b) := by rw [h]

theorem drop_byte (s : ByteArray) (k : Nat) (h : k < s.size) : s.data.toList.drop k = s[k] :: s.data.toList.drop (k + 1) := by
  rw [List.drop_eq_getElem_cons (by simpa using h)]; rfl

theorem isE (s : ByteArray) (h : s.size = 0) : s.toList.isEmpty = true := by
  rw [ByteArray.toList_eq]; have : s.data.toList.length = 0 := by simpa using h
  rw [List.length_eq_zero_iff.1 this]; rfl
theorem notE (s : ByteArray) (h : s.size ≠ 0) : s.toList.isEmpty = false := by
  rw [ByteArray.toList_eq]
  cases e : s.data.toList with
  | nil => exact absurd (by have := congrArg List.length e; simpa using this) h
  | cons a b => rfl
theorem lenOf (s : ByteArray) : s.data.toList.length = s.size := by simp
theorem ne_nil (s : ByteArray) (h : s.size ≠ 0) : ¬ s.data.toList = [] := by
  intro e; apply h; have := congrArg List.length e; simpa using this
theorem headOf (s : ByteArray) (h : 0 < s.size) : s.data.toList.head? = some s[0] := by
  have := drop_byte s 0 h
  rw [List.drop_zero] at this; rw [this]; rfl
theorem byte48 (b : UInt8) (h : (b.toNat : Int) = 48) : b = 48 := by
  apply UInt8.toNat_inj.1; show b.toNat = 48; omega

set_option maxHeartbeats 400000 in
theorem number_any (s : ByteArray) (w : World) (hs : s.size ≤ 1048576) :
    Calls Tryd.prog 14 #[.string s] w fun e w' => e = .returned (.int .i64 (numI s.data.toList)) ∧ w' = w := by
  go_enter Tryd.func14, Tryd.ntmps14
  go_wp2
  go_loop [3, 4] (fun n i => ∃ (k : Nat) (N : Int), k ≤ s.size ∧ i = .int .i64 k ∧ n = .int .i64 N ∧ 0 ≤ N ∧ N ≤ 9999 ∧ numTo s.data.toList 0 = numTo (s.data.toList.drop k) N) (fun _ i => s.size - (intOf i).toNat)
  case atStart => exact ⟨0, 0, Nat.zero_le _, rfl, rfl, by omega, by omega, by simp⟩
  case round =>
    obtain ⟨k, N, hk, rfl, rfl, hN0, hN1, hto⟩ := hrel
    by_cases hlt : k < s.size
    · have HD : Hid (numTo s.data.toList 0 = if (s[k].toNat : Int) < 48 ∨ 57 < (s[k].toNat : Int) ∨ 999 < N then none else numTo (s.data.toList.drop (k + 1)) (10 * N + s[k].toNat - 48)) := by
        rw [hto, drop_byte s k hlt]; rfl
      clear hto
      have hb : (s[k].toNat : Int) ≤ 255 := by have := s[k].toNat_lt; omega
      by_cases hc : (s[k].toNat : Int) < 48 ∨ 57 < (s[k].toNat : Int) ∨ 999 < N
      · have H1 : Hid (numI s.data.toList = -1) := num_none _ (by rw [HD.out, if_pos hc])
        clear HD
        go_wp2
        all_goals first
          | (go_ret; exact ⟨ret_int H1.out.symm, rfl⟩)
          | (exfalso; omega)
      · have H1 : Hid (numTo s.data.toList 0 = numTo (s.data.toList.drop (k + 1)) (10 * N + s[k].toNat - 48)) := by rw [HD.out, if_neg hc]; exact rfl
        clear HD
        have g1 : 48 ≤ (s[k].toNat : Int) := by omega
        have g2 : (s[k].toNat : Int) ≤ 57 := by omega
        have g3 : N ≤ 999 := by omega
        clear hc
        go_wp2
        go_round
        case rel => exact ⟨k + 1, 10 * N + s[k].toNat - 48, by omega, by go_num, rfl, by omega, by omega, H1.out⟩
        case measure => simp [intOf]; omega
    · have ek : k = s.size := by omega
      have HT : Hid (numTo s.data.toList 0 = some N) := by
        rw [hto, ek, List.drop_of_length_le (by simp)]; rfl
      clear hto ek
      by_cases h0 : s.size = 0
      · have hE := isE s h0
        have H1 : Hid (numI s.data.toList = -1) := num_bad _ N HT.out (Or.inl (List.length_eq_zero_iff.1 (by simpa using h0)))
        clear HT h0
        go_wp2
        go_ret
        exact ⟨ret_int H1.out.symm, rfl⟩
      · have hE := notE s h0
        by_cases hN : 999 < N
        · have H1 : Hid (numI s.data.toList = -1) := num_bad _ N HT.out (Or.inr (Or.inl hN))
          clear HT
          go_wp2
          go_ret
          exact ⟨ret_int H1.out.symm, rfl⟩
        · by_cases h1 : 1 < s.size
          · have hp : 0 < s.size := by omega
            by_cases h2 : (s[0].toNat : Int) = 48
            · have H1 : Hid (numI s.data.toList = -1) := num_bad _ N HT.out (Or.inr (Or.inr ⟨by simpa using h1, by rw [headOf s hp, byte48 _ h2]⟩))
              have hq : ((s[0].toNat : Int) == 48) = true := by simpa using h2
              clear HT h2
              go_wp2
              go_ret
              exact ⟨ret_int H1.out.symm, rfl⟩
            · have H1 : Hid (numI s.data.toList = N) := num_good _ N HT.out (ne_nil s h0) hN (by
                rintro ⟨_, e⟩; rw [headOf s hp] at e; simp only [Option.some.injEq] at e; apply h2; rw [e]; rfl)
              have hq : ((s[0].toNat : Int) == 48) = false := by simpa using h2
              clear HT h2
              go_wp2
              go_ret
              exact ⟨ret_int H1.out.symm, rfl⟩
          · have H1 : Hid (numI s.data.toList = N) := num_good _ N HT.out (ne_nil s h0) hN (by rintro ⟨e, _⟩; apply h1; simpa using e)
            clear HT
            go_wp2
            go_ret
            exact ⟨ret_int H1.out.symm, rfl⟩

theorem num_any (n : Int) (w : World) : Calls Tryd.prog 8 #[.int .i64 n] w fun e w' => e = .returned (.int .i64 n) ∧ w' = w := by
  go_enter Tryd.func8, Tryd.ntmps8
  go_wp2
  go_ret
  exact ⟨rfl, rfl⟩

end Go.Proofs.YtnmclolbndohiaaDoor
