/-
  Plain facts: cuts as strings.SplitN makes them; what a rune's bytes are.
-/
import Derived.Test.YtnmclolbndohiaaDoorPure
import Derived.Lib.Split
import Derived.Lib.IndexAny
import Derived.Laws.RangeAny
import Derived.Laws.Runes
namespace Go.Proofs.YtnmclolbndohiaaDoor
namespace Ver

theorem idx_split (c : UInt8) : ∀ l : List UInt8, (Lib.index l [c] = -1 ∧ cutL c l = [l]) ∨ ∃ p r, l = p ++ c :: r ∧ (∀ b ∈ p, b ≠ c) ∧ Lib.index l [c] = p.length
  | [] => Or.inl ⟨rfl, rfl⟩
  | b :: l => by
    by_cases h : b = c
    · subst h
      exact Or.inr ⟨[], l, rfl, by simp, by simp [Lib.index]⟩
    · have hp : ([c] : List UInt8).isPrefixOf (b :: l) = false := by
        show ((c == b) && _) = false
        rw [beq_eq_false_iff_ne.2 (Ne.symm h)]; rfl
      rcases idx_split c l with ⟨h1, h2⟩ | ⟨p, r, h1, h2, h3⟩
      · refine Or.inl ⟨?_, ?_⟩
        · rw [Lib.index, hp, h1]; simp
        · unfold cutL; rw [if_neg h, h2]
      · refine Or.inr ⟨b :: p, r, by rw [h1]; rfl, ?_, ?_⟩
        · intro x hx
          rcases List.mem_cons.1 hx with e | e
          · rw [e]; exact h
          · exact h2 x e
        · rw [Lib.index, hp, h3]
          have : ¬ ((p.length : Int) == -1) = true := by intro e; have := beq_iff_eq.1 e; omega
          rw [if_neg this]
          simp

theorem splitK_cut (c : UInt8) : ∀ (k : Nat) (l : List UInt8), ((cutL c l).length ≤ k + 1 → Lib.splitK [c] 0 k l = cutL c l) ∧ (k + 1 < (cutL c l).length → (Lib.splitK [c] 0 k l).length = k + 1)
  | 0, l => by
    refine ⟨fun h => ?_, fun _ => rfl⟩
    rcases idx_split c l with ⟨_, h2⟩ | ⟨p, r, h1, h2, _⟩
    · rw [h2]; rfl
    · rw [h1, cutL_hit c p r h2] at h
      have := cutL_ne c r
      cases e : cutL c r with
      | nil => exact absurd e this
      | cons a t => rw [e] at h; simp at h
  | k + 1, l => by
    rcases idx_split c l with ⟨h1, h2⟩ | ⟨p, r, h1, h2, h3⟩
    · have e : Lib.splitK [c] 0 (k + 1) l = [l] := by unfold Lib.splitK; rw [h1]; rfl
      rw [e, h2]
      exact ⟨fun _ => rfl, fun h => by simp at h⟩
    · have hm : ¬ (Lib.index l [c] == -1) = true := by rw [h3]; intro e; have := beq_iff_eq.1 e; omega
      have e : Lib.splitK [c] 0 (k + 1) l = p :: Lib.splitK [c] 0 k r := by
        have e0 : Lib.splitK [c] 0 (k + 1) l = if Lib.index l [c] == -1 then [l] else l.take ((Lib.index l [c]).toNat + 0) :: Lib.splitK [c] 0 k (l.drop ((Lib.index l [c]).toNat + [c].length)) := rfl
        rw [e0, if_neg hm, h3, h1]
        simp
      rw [e]
      rw [h1, cutL_hit c p r h2]
      have ih := splitK_cut c k r
      refine ⟨fun h => ?_, fun h => ?_⟩
      · rw [ih.1 (by simpa using h)]
      · rw [List.length_cons, ih.2 (by simpa using h)]

/-- strings.SplitN(s, sep, 4), sep one byte: three pieces just where the whole cut has three, and then those. -/
theorem split_three (c : UInt8) (s sep : ByteArray) (hsep : sep.data.toList = [c]) (Q : List ByteArray) (hQ : Q = Lib.splitB sep 0 (min 4 (s.size + 1) - 1) s) :
    (Q.length = 3 → (Q.map fun x => x.data.toList) = cutL c s.data.toList) ∧ (Q.length ≠ 3 → (cutL c s.data.toList).length ≠ 3) := by
  have hd := Lib.splitB_data sep 0 (min 4 (s.size + 1) - 1) s
  rw [← hQ, hsep] at hd
  have hl : Q.length = (Lib.splitK [c] 0 (min 4 (s.size + 1) - 1) s.data.toList).length := by rw [← hd]; simp
  have hc := cutL_len c s.data.toList
  have hsz : s.data.toList.length = s.size := by simp
  have hk := splitK_cut c (min 4 (s.size + 1) - 1) s.data.toList
  by_cases h : (cutL c s.data.toList).length ≤ min 4 (s.size + 1) - 1 + 1
  · have e := hk.1 h
    rw [e] at hl hd
    exact ⟨fun _ => hd, fun h1 h2 => h1 (by omega)⟩
  · have e := hk.2 (by omega)
    refine ⟨fun h1 => ?_, fun _ => ?_⟩ <;> omega

/-- The bytes of a rune that does not begin with an ASCII byte are none of them ASCII; they lie within the text. -/
theorem decode_bytes (s : ByteArray) (pos : Nat) (h : pos < s.size) (ha : 128 ≤ (s[pos]'h).toNat) :
    pos + (Utf8.decode s pos).2 ≤ s.size ∧ ∀ j, j < (Utf8.decode s pos).2 → ∃ h' : pos + j < s.size, 128 ≤ (s[pos + j]'h').toNat := by
  have hn : ¬ (s[pos]'h).toNat < 128 := by omega
  have hz : ∃ h' : pos + 0 < s.size, 128 ≤ (s[pos + 0]'h').toNat := ⟨h, ha⟩
  have one : pos + 1 ≤ s.size ∧ ∀ j, j < 1 → ∃ h' : pos + j < s.size, 128 ≤ (s[pos + j]'h').toNat := by
    refine ⟨h, fun j hj => ?_⟩
    have : j = 0 := by omega
    subst this; exact hz
  have ct : ∀ k, (decide (pos + k < s.size) && ((s.get! (pos + k)).toNat / 64 == 2)) = true → ∃ h' : pos + k < s.size, 128 ≤ (s[pos + k]'h').toNat := by
    intro k hk
    rw [Bool.and_eq_true] at hk
    have h1 := of_decide_eq_true hk.1
    have h2 := beq_iff_eq.1 hk.2
    refine ⟨h1, ?_⟩
    have : s.get! (pos + k) = s[pos + k]'h1 := get_at s (pos + k) h1
    rw [this] at h2
    omega
  simp only [Utf8.decode, get_at s pos h, hn, if_false]
  by_cases c1 : ((s[pos]'h).toNat / 32 == 6 && (decide (pos + 1 < s.size) && ((s.get! (pos + 1)).toNat / 64 == 2))) = true
  · have k1 := ct 1 (by rw [Bool.and_eq_true] at c1; exact c1.2)
    rw [if_pos c1]
    split
    · refine ⟨by obtain ⟨a, _⟩ := k1; omega, fun j hj => ?_⟩
      match j, hj with
      | 0, _ => exact hz
      | 1, _ => exact k1
    · exact one
  · rw [if_neg c1]
    by_cases c2 : ((s[pos]'h).toNat / 16 == 14 && (decide (pos + 1 < s.size) && ((s.get! (pos + 1)).toNat / 64 == 2)) && (decide (pos + 2 < s.size) && ((s.get! (pos + 2)).toNat / 64 == 2))) = true
    · have k1 := ct 1 (by simp only [Bool.and_eq_true] at c2 ⊢; exact c2.1.2)
      have k2 := ct 2 (by simp only [Bool.and_eq_true] at c2 ⊢; exact c2.2)
      rw [if_pos c2]
      split
      · refine ⟨by obtain ⟨a, _⟩ := k2; omega, fun j hj => ?_⟩
        match j, hj with
        | 0, _ => exact hz
        | 1, _ => exact k1
        | 2, _ => exact k2
      · exact one
    · rw [if_neg c2]
      by_cases c3 : ((s[pos]'h).toNat / 8 == 30 && (decide (pos + 1 < s.size) && ((s.get! (pos + 1)).toNat / 64 == 2)) && (decide (pos + 2 < s.size) && ((s.get! (pos + 2)).toNat / 64 == 2)) && (decide (pos + 3 < s.size) && ((s.get! (pos + 3)).toNat / 64 == 2))) = true
      · have k1 := ct 1 (by simp only [Bool.and_eq_true] at c3 ⊢; exact c3.1.1.2)
        have k2 := ct 2 (by simp only [Bool.and_eq_true] at c3 ⊢; exact c3.1.2)
        have k3 := ct 3 (by simp only [Bool.and_eq_true] at c3 ⊢; exact c3.2)
        rw [if_pos c3]
        split
        · refine ⟨by obtain ⟨a, _⟩ := k3; omega, fun j hj => ?_⟩
          match j, hj with
          | 0, _ => exact hz
          | 1, _ => exact k1
          | 2, _ => exact k2
          | 3, _ => exact k3
        · exact one
      · rw [if_neg c3]
        exact one

end Ver
end Go.Proofs.YtnmclolbndohiaaDoor
