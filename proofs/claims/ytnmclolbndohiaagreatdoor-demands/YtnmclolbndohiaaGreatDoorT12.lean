/-
  Plain facts: cuts as strings.SplitN makes them; what a rune's bytes are.
-/
import Derived.Test.YtnmclolbndohiaaGreatDoorT01
import Derived.Lib.Split
import Derived.Lib.IndexAny
import Derived.Laws.RangeAny
import Derived.Laws.Runes
namespace Go.Proofs.YtnmclolbndohiaaGreatDoor
namespace Ver

theorem idx_split (c : UInt8) : ∀ l : List UInt8, (Lib.index l [c] = -1 ∧ cutL c l = [l]) ∨ ∃ p r, l = p ++ c :: r ∧ (∀ b ∈ p, b ≠ c) ∧ Lib.index l [c] = p.length
  | [] => Or.inl ⟨rfl, rfl⟩
  | b :: l => by
    by_cases h : b = c
    · subst h
      exact Or.inr ⟨[], l, rfl, by simp, by simp [Lib.index]⟩
    · have hp : ([c] : List UInt8).isPrefixOf (b :: l) = false := by
        show ((c == b) && _) = false
        rw [beq_eq_false_iff_ne.2 (Ne.symm h)]; rfl
      rcases idx_split c l with ⟨h1, h2⟩ | ⟨p, r, h1, h2, h3⟩
      · refine Or.inl ⟨?_, ?_⟩
        · rw [Lib.index, hp, h1]; simp
        · unfold cutL; rw [if_neg h, h2]
      · refine Or.inr ⟨b :: p, r, by rw [h1]; rfl, ?_, ?_⟩
        · intro x hx
          rcases List.mem_cons.1 hx with e | e
          · rw [e]; exact h
          · exact h2 x e
        · rw [Lib.index, hp, h3]
          have : ¬ ((p.length : Int) == -1) = true := by intro e; have := beq_iff_eq.1 e; omega
          rw [if_neg this]
          simp

theorem splitK_cut (c : UInt8) : ∀ (k : Nat) (l : List UInt8), ((cutL c l).length ≤ k + 1 → Lib.splitK [c] 0 k l = cutL c l) ∧ (k + 1 < (cutL c l).length → (Lib.splitK [c] 0 k l).length = k + 1)
  | 0, l => by
    refine ⟨fun h => ?_, fun _ => rfl⟩
    rcases idx_split c l with ⟨_, h2⟩ | ⟨p, r, h1, h2, _⟩
    · rw [h2]; rfl
    · rw [h1, cutL_hit c p r h2] at h
      have := cutL_ne c r
      cases e : cutL c r with
      | nil => exact absurd e this
      | cons a t => rw [e] at h; simp at h
  | k + 1, l => by
    rcases idx_split c l with ⟨h1, h2⟩ | ⟨p, r, h1, h2, h3⟩
    · have e : Lib.splitK [c] 0 (k + 1) l = [l] := by unfold Lib.splitK; rw [h1]; rfl
      rw [e, h2]
      exact ⟨fun _ => rfl, fun h => by simp at h⟩
    · have hm : ¬ (Lib.index l [c] == -1) = true := by rw [h3]; intro e; have := beq_iff_eq.1 e; omega
      have e : Lib.splitK [c] 0 (k + 1) l = p :: Lib.splitK [c] 0 k r := by
        have e0 : Lib.splitK [c] 0 (k + 1) l = if Lib.index l [c] == -1 then [l] else l.take ((Lib.index l [c]).toNat + 0) :: Lib.splitK [c] 0 k (l.drop ((Lib.index l [c]).toNat + [c].length)) := rfl
        rw [e0, if_neg hm, h3, h1]
        simp
      rw [e]
      rw [h1, cutL_hit c p r h2]
      have ih := splitK_cut c k r
      refine ⟨fun h => ?_, fun h => ?_⟩
      · rw [ih.1 (by simpa using h)]
      · rw [List.length_cons, ih.2 (by simpa using h)]

/-- strings.SplitN(s, sep, 4), sep one byte: three pieces just where the whole cut has three, and then those. -/
theorem split_three (c : UInt8) (s sep : ByteArray) (hsep : sep.data.toList = [c]) (Q : List ByteArray) (hQ : Q = Lib.splitB sep 0 (min 4 (s.size + 1) - 1) s) :
    (Q.length = 3 → (Q.map fun x => x.data.toList) = cutL c s.data.toList) ∧ (Q.length ≠ 3 → (cutL c s.data.toList).length ≠ 3) := by
  have hd := Lib.splitB_data sep 0 (min 4 (s.size + 1) - 1) s
  rw [← hQ, hsep] at hd
  have hl : Q.length = (Lib.splitK [c] 0 (min 4 (s.size + 1) - 1) s.data.toList).length := by rw [← hd]; simp
  have hc := cutL_len c s.data.toList
  have hsz : s.data.toList.length = s.size := by simp
  have hk := splitK_cut c (min 4 (s.size + 1) - 1) s.data.toList
  by_cases h : (cutL c s.data.toList).length ≤ min 4 (s.size + 1) - 1 + 1
  · have e := hk.1 h
    rw [e] at hl hd
    exact ⟨fun _ => hd, fun h1 h2 => h1 (by omega)⟩
  · have e := hk.2 (by omega)
    refine ⟨fun h1 => ?_, fun _ => ?_⟩ <;> omega

/-- The bytes of a rune that does not begin with an ASCII byte are none of them ASCII; they lie within the text. -/
theorem decode_bytes (s : ByteArray) (pos : Nat) (h : pos < s.size) (ha : 128 ≤ (s[pos]'h).toNat) :
    pos + (Utf8.decode s pos).2 ≤ s.size ∧ ∀ j, j < (Utf8.decode s pos).2 → ∃ h' : pos + j < s.size, 128 ≤ (s[pos + j]'h').toNat := by
  have hn : ¬ (s[pos]'h).toNat < 128 := by omega
  have hz : ∃ h' : pos + 0 < s.size, 128 ≤ (s[pos + 0]'h').toNat := ⟨h, ha⟩
  have one : pos + 1 ≤ s.size ∧ ∀ j, j < 1 → ∃ h' : pos + j < s.size, 128 ≤ (s[pos + j]'h').toNat := by
    refine ⟨h, fun j hj => ?_⟩
    have : j = 0 := by omega
    subst this; exact hz
  have ct : ∀ k, (decide (pos + k < s.size) && ((s.get! (pos + k)).toNat / 64 == 2)) = true → ∃ h' : pos + k < s.size, 128 ≤ (s[pos + k]'h').toNat := by
    intro k hk
    rw [Bool.and_eq_true] at hk
    have h1 := of_decide_eq_true hk.1
    have h2 := beq_iff_eq.1 hk.2
    refine ⟨h1, ?_⟩
    have : s.get! (pos + k) = s[pos + k]'h1 := get_at s (pos + k) h1
    rw [this] at h2
    omega
  simp only [Utf8.decode, get_at s pos h, hn, if_false]
  by_cases c1 : ((s[pos]'h).toNat / 32 == 6 && (decide (pos + 1 < s.size) && ((s.get! (pos + 1)).toNat / 64 == 2))) = true
  · have k1 := ct 1 (by rw [Bool.and_eq_true] at c1; exact c1.2)
    rw [if_pos c1]
    split
    · refine ⟨by obtain ⟨a, _⟩ := k1; omega, fun j hj => ?_⟩
      match j, hj with
      | 0, _ => exact hz
      | 1, _ => exact k1
    · exact one
  · rw [if_neg c1]
    by_cases c2 : ((s[pos]'h).toNat / 16 == 14 && (decide (pos + 1 < s.size) && ((s.get! (pos + 1)).toNat / 64 == 2)) && (decide (pos + 2 < s.size) && ((s.get! (pos + 2)).toNat / 64 == 2))) = true
    · have k1 := ct 1 (by simp only [Bool.and_eq_true] at c2 ⊢; exact c2.1.2)
      have k2 := ct 2 (by simp only [Bool.and_eq_true] at c2 ⊢; exact c2.2)
      rw [if_pos c2]
      split
      · refine ⟨by obtain ⟨a, _⟩ := k2; omega, fun j hj => ?_⟩
        match j, hj with
        | 0, _ => exact hz
        | 1, _ => exact k1
        | 2, _ => exact k2
      · exact one
    · rw [if_neg c2]
      by_cases c3 : ((s[pos]'h).toNat / 8 == 30 && (decide (pos + 1 < s.size) && ((s.get! (pos + 1)).toNat / 64 == 2)) && (decide (pos + 2 < s.size) && ((s.get! (pos + 2)).toNat / 64 == 2)) && (decide (pos + 3 < s.size) && ((s.get! (pos + 3)).toNat / 64 == 2))) = true
      · have k1 := ct 1 (by simp only [Bool.and_eq_true] at c3 ⊢; exact c3.1.1.2)
        have k2 := ct 2 (by simp only [Bool.and_eq_true] at c3 ⊢; exact c3.1.2)
        have k3 := ct 3 (by simp only [Bool.and_eq_true] at c3 ⊢; exact c3.2)
        rw [if_pos c3]
        split
        · refine ⟨by obtain ⟨a, _⟩ := k3; omega, fun j hj => ?_⟩
          match j, hj with
          | 0, _ => exact hz
          | 1, _ => exact k1
          | 2, _ => exact k2
          | 3, _ => exact k3
        · exact one
      · rw [if_neg c3]
        exact one

end Ver
end Go.Proofs.YtnmclolbndohiaaGreatDoor

/-
  Plain facts: a demand as the code reads it (by its first figure) is the one that the reference reads; whether a version fits, by the numbers' parts.
-/
namespace Go.Proofs.YtnmclolbndohiaaGreatDoor
namespace Ver

def figL : List UInt8 := [48, 49, 50, 51, 52, 53, 54, 55, 56, 57]

theorem fig_of (b : UInt8) (h0 : ¬ (b.toNat : Int) < 48) (h1 : ¬ 57 < (b.toNat : Int)) : figL.contains b = true := by
  have hb : b.toNat = 48 ∨ b.toNat = 49 ∨ b.toNat = 50 ∨ b.toNat = 51 ∨ b.toNat = 52 ∨ b.toNat = 53 ∨ b.toNat = 54 ∨ b.toNat = 55 ∨ b.toNat = 56 ∨ b.toNat = 57 := by omega
  have e : ∀ n : UInt8, b.toNat = n.toNat → b = n := fun n h => UInt8.toNat_inj.1 h
  rcases hb with h | h | h | h | h | h | h | h | h | h
  · rw [e 48 h]; decide
  · rw [e 49 h]; decide
  · rw [e 50 h]; decide
  · rw [e 51 h]; decide
  · rw [e 52 h]; decide
  · rw [e 53 h]; decide
  · rw [e 54 h]; decide
  · rw [e 55 h]; decide
  · rw [e 56 h]; decide
  · rw [e 57 h]; decide

theorem num_head (l : List UInt8) (h : 0 ≤ numI l) : ∃ x t, l = x :: t ∧ figL.contains x = true := by
  cases l with
  | nil => rw [num_bad [] 0 rfl (Or.inl rfl)] at h; omega
  | cons x t =>
    refine ⟨x, t, rfl, ?_⟩
    by_cases hc : (x.toNat : Int) < 48 ∨ 57 < (x.toNat : Int)
    · exfalso
      rw [num_none (x :: t) (by show (if _ then _ else _) = _; rw [if_pos (by omega)])] at h
      omega
    · exact fig_of x (by omega) (by omega)

theorem cut_head (c : UInt8) : ∀ (l : List UInt8) (x : UInt8) (t : List UInt8) (r : List (List UInt8)), cutL c l = (x :: t) :: r → ∃ t', l = x :: t'
  | [], x, t, r, h => by simp [cutL] at h
  | b :: l, x, t, r, h => by
    unfold cutL at h
    split at h
    · simp at h
    · split at h
      · simp at h; exact ⟨l, by rw [h.1.1]⟩
      · simp at h; exact ⟨l, by rw [h.1.1]⟩

/-- A version begins with a figure. -/
theorem ver_head (l : List UInt8) (h : 0 ≤ verI l) : ∃ x t, l = x :: t ∧ figL.contains x = true := by
  unfold verI verL at h
  split at h
  · rename_i a b d hc
    split at h
    · omega
    · rename_i hn
      obtain ⟨x, t, ha, hx⟩ := num_head a (by omega)
      rw [ha] at hc
      obtain ⟨t', hl⟩ := cut_head 46 l x t _ hc
      exact ⟨x, t', hl, hx⟩
  · omega

theorem idx_at (p : List UInt8) (x : UInt8) (t : List UInt8) (hp : ∀ b ∈ p, figL.contains b = false) (hx : figL.contains x = true) : Lib.indexAny (p ++ x :: t) figL = p.length := by
  refine Lib.indexAny_hit (x := x) ?_ (by simp) hx
  intro j b hj hb
  rw [List.getElem?_append_left hj] at hb
  exact hp b (List.mem_of_getElem? hb)

/-- The signs of the four kinds of demands. -/
def sign (c : Int) (p : List UInt8) : Prop := c = 61 ∧ p = [61] ∨ c = 62 ∧ p = [62, 61] ∨ c = 126 ∧ p = [126] ∨ c = 94 ∧ p = [94]

theorem sign_fig {c : Int} {p : List UInt8} (h : sign c p) : ∀ b ∈ p, figL.contains b = false := by
  rcases h with ⟨_, rfl⟩ | ⟨_, rfl⟩ | ⟨_, rfl⟩ | ⟨_, rfl⟩ <;> decide

theorem demRest_cons (a b : UInt8) (t : List UInt8) : demRest (a :: b :: t) = if (a.toNat : Int) = 62 ∧ (b.toNat : Int) = 61 then some ((62 : Int), t) else if (a.toNat : Int) = 61 ∨ (a.toNat : Int) = 126 ∨ (a.toNat : Int) = 94 then some ((a.toNat : Int), b :: t) else none := rfl

theorem rest_of {c : Int} {p : List UInt8} (h : sign c p) (x : UInt8) (t : List UInt8) : demRest (p ++ x :: t) = some (c, x :: t) := by
  rcases h with ⟨rfl, rfl⟩ | ⟨rfl, rfl⟩ | ⟨rfl, rfl⟩ | ⟨rfl, rfl⟩
  · rw [show [61] ++ x :: t = 61 :: x :: t from rfl, demRest_cons, if_neg (by rintro ⟨a, _⟩; exact absurd a (by decide)), if_pos (by decide)]; rfl
  · rw [show [62, 61] ++ x :: t = 62 :: 61 :: x :: t from rfl, demRest_cons, if_pos (by decide)]
  · rw [show [126] ++ x :: t = 126 :: x :: t from rfl, demRest_cons, if_neg (by rintro ⟨a, _⟩; exact absurd a (by decide)), if_pos (by decide)]; rfl
  · rw [show [94] ++ x :: t = 94 :: x :: t from rfl, demRest_cons, if_neg (by rintro ⟨a, _⟩; exact absurd a (by decide)), if_pos (by decide)]; rfl

theorem of_rest {l r : List UInt8} {c : Int} (h : demRest l = some (c, r)) : ∃ p, sign c p ∧ l = p ++ r := by
  match l, h with
  | [], h => simp [demRest] at h
  | [_], h => simp [demRest] at h
  | a :: b :: t, h =>
    have h' : (if (a.toNat : Int) = 62 ∧ (b.toNat : Int) = 61 then some ((62 : Int), t) else if (a.toNat : Int) = 61 ∨ (a.toNat : Int) = 126 ∨ (a.toNat : Int) = 94 then some ((a.toNat : Int), b :: t) else none) = some (c, r) := h
    have e : ∀ (y n : UInt8), (y.toNat : Int) = (n.toNat : Int) → y = n := fun y n h => UInt8.toNat_inj.1 (by omega)
    by_cases c1 : (a.toNat : Int) = 62 ∧ (b.toNat : Int) = 61
    · rw [if_pos c1] at h'
      simp only [Option.some.injEq, Prod.mk.injEq] at h'
      refine ⟨[62, 61], Or.inr (Or.inl ⟨h'.1.symm, rfl⟩), ?_⟩
      rw [← h'.2, e a 62 c1.1, e b 61 c1.2]; rfl
    · rw [if_neg c1] at h'
      by_cases c2 : (a.toNat : Int) = 61 ∨ (a.toNat : Int) = 126 ∨ (a.toNat : Int) = 94
      · rw [if_pos c2] at h'
        simp only [Option.some.injEq, Prod.mk.injEq] at h'
        rcases c2 with c2 | c2 | c2
        · exact ⟨[61], Or.inl ⟨by omega, rfl⟩, by rw [← h'.2, e a 61 c2]; rfl⟩
        · exact ⟨[126], Or.inr (Or.inr (Or.inl ⟨by omega, rfl⟩)), by rw [← h'.2, e a 126 c2]; rfl⟩
        · exact ⟨[94], Or.inr (Or.inr (Or.inr ⟨by omega, rfl⟩)), by rw [← h'.2, e a 94 c2]; rfl⟩
      · rw [if_neg c2] at h'; simp at h'

/-- No figure: no demand but the star. -/
theorem code_nofig (l : List UInt8) (h : l ≠ [42]) (hi : Lib.indexAny l figL < 0) : demI l = (0, 0) := by
  cases hr : demRest l with
  | none => exact demI_none l h hr
  | some cr =>
    obtain ⟨c, r⟩ := cr
    obtain ⟨p, hp, hl⟩ := of_rest hr
    by_cases hv : verI r < 0
    · exact demI_bad l r c h hr hv
    · exfalso
      obtain ⟨x, t, ht, hx⟩ := ver_head r (by omega)
      rw [hl, ht, idx_at p x t (sign_fig hp) hx] at hi
      omega

/-- What stands from the first figure on is no version: no demand. -/
theorem code_nover (l : List UInt8) (k : Nat) (h : l ≠ [42]) (hi : Lib.indexAny l figL = k) (hv : verI (l.drop k) < 0) : demI l = (0, 0) := by
  cases hr : demRest l with
  | none => exact demI_none l h hr
  | some cr =>
    obtain ⟨c, r⟩ := cr
    obtain ⟨p, hp, hl⟩ := of_rest hr
    by_cases hv2 : verI r < 0
    · exact demI_bad l r c h hr hv2
    · exfalso
      obtain ⟨x, t, ht, hx⟩ := ver_head r (by omega)
      rw [hl, ht, idx_at p x t (sign_fig hp) hx] at hi
      have hk : k = p.length := by omega
      rw [hl, hk, List.drop_left] at hv
      omega

/-- A version from the first figure on, a sign ahead of it. -/
theorem code_sign (l : List UInt8) (k : Nat) (c : Int) (h : l ≠ [42]) (hv : 0 ≤ verI (l.drop k)) (hs : sign c (l.take k)) : demI l = (c, verI (l.drop k)) := by
  obtain ⟨x, t, ht, _⟩ := ver_head _ hv
  have hl : l = l.take k ++ x :: t := by rw [← ht, List.take_append_drop]
  have hr : demRest l = some (c, l.drop k) := by
    have := rest_of hs x t
    rw [← hl, ← ht] at this; exact this
  exact demI_good l _ c h hr hv

/-- A version from the first figure on, and no sign ahead of it. -/
theorem code_nosign (l : List UInt8) (k : Nat) (h : l ≠ [42]) (hi : Lib.indexAny l figL = k) (hs : ∀ c, ¬ sign c (l.take k)) : demI l = (0, 0) := by
  cases hr : demRest l with
  | none => exact demI_none l h hr
  | some cr =>
    obtain ⟨c, r⟩ := cr
    obtain ⟨p, hp, hl⟩ := of_rest hr
    by_cases hv2 : verI r < 0
    · exact demI_bad l r c h hr hv2
    · exfalso
      obtain ⟨x, t, ht, hx⟩ := ver_head r (by omega)
      rw [hl, ht, idx_at p x t (sign_fig hp) hx] at hi
      have hk : k = p.length := by omega
      apply hs c
      rw [hl, hk, List.take_left]; exact hp

theorem demI_sign (l : List UInt8) : demI l = (0, 0) ∨ (demI l = (42, 0)) ∨ (((demI l).1 = 61 ∨ (demI l).1 = 62 ∨ (demI l).1 = 126 ∨ (demI l).1 = 94) ∧ 0 ≤ (demI l).2 ∧ (demI l).2 ≤ 999999999) := by
  by_cases h : l = [42]
  · rw [h]; exact Or.inr (Or.inl rfl)
  · cases hr : demRest l with
    | none => exact Or.inl (demI_none l h hr)
    | some cr =>
      obtain ⟨c, r⟩ := cr
      by_cases hv : verI r < 0
      · exact Or.inl (demI_bad l r c h hr hv)
      · have := demI_good l r c h hr (by omega)
        rw [this]
        obtain ⟨p, hp, _⟩ := of_rest hr
        refine Or.inr (Or.inr ⟨?_, by show 0 ≤ verI r; omega, (verI_bd r).2⟩)
        rcases hp with ⟨e, _⟩ | ⟨e, _⟩ | ⟨e, _⟩ | ⟨e, _⟩
        · exact Or.inl e
        · exact Or.inr (Or.inl e)
        · exact Or.inr (Or.inr (Or.inl e))
        · exact Or.inr (Or.inr (Or.inr e))

end Ver
end Go.Proofs.YtnmclolbndohiaaGreatDoor
