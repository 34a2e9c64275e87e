/-
  Plain facts: a demand as the code reads it (by its first figure) is the one that the reference reads; whether a version fits, by the numbers' parts.
-/
import Derived.Test.YtnmclolbndohiaaDoorPlain
namespace Go.Proofs.YtnmclolbndohiaaDoor
namespace Ver

def figL : List UInt8 := [48, 49, 50, 51, 52, 53, 54, 55, 56, 57]

theorem fig_of (b : UInt8) (h0 : ¬ (b.toNat : Int) < 48) (h1 : ¬ 57 < (b.toNat : Int)) : figL.contains b = true := by
  have hb : b.toNat = 48 ∨ b.toNat = 49 ∨ b.toNat = 50 ∨ b.toNat = 51 ∨ b.toNat = 52 ∨ b.toNat = 53 ∨ b.toNat = 54 ∨ b.toNat = 55 ∨ b.toNat = 56 ∨ b.toNat = 57 := by omega
  have e : ∀ n : UInt8, b.toNat = n.toNat → b = n := fun n h => UInt8.toNat_inj.1 h
  rcases hb with h | h | h | h | h | h | h | h | h | h
  · rw [e 48 h]; decide
  · rw [e 49 h]; decide
  · rw [e 50 h]; decide
  · rw [e 51 h]; decide
  · rw [e 52 h]; decide
  · rw [e 53 h]; decide
  · rw [e 54 h]; decide
  · rw [e 55 h]; decide
  · rw [e 56 h]; decide
  · rw [e 57 h]; decide

theorem num_head (l : List UInt8) (h : 0 ≤ numI l) : ∃ x t, l = x :: t ∧ figL.contains x = true := by
  cases l with
  | nil => rw [num_bad [] 0 rfl (Or.inl rfl)] at h; omega
  | cons x t =>
    refine ⟨x, t, rfl, ?_⟩
    by_cases hc : (x.toNat : Int) < 48 ∨ 57 < (x.toNat : Int)
    · exfalso
      rw [num_none (x :: t) (by show (if _ then _ else _) = _; rw [if_pos (by omega)])] at h
      omega
    · exact fig_of x (by omega) (by omega)

theorem cut_head (c : UInt8) : ∀ (l : List UInt8) (x : UInt8) (t : List UInt8) (r : List (List UInt8)), cutL c l = (x :: t) :: r → ∃ t', l = x :: t'
  | [], x, t, r, h => by simp [cutL] at h
  | b :: l, x, t, r, h => by
    unfold cutL at h
    split at h
    · simp at h
    · split at h
      · simp at h; exact ⟨l, by rw [h.1.1]⟩
      · simp at h; exact ⟨l, by rw [h.1.1]⟩

/-- A version begins with a figure. -/
theorem ver_head (l : List UInt8) (h : 0 ≤ verI l) : ∃ x t, l = x :: t ∧ figL.contains x = true := by
  unfold verI verL at h
  split at h
  · rename_i a b d hc
    split at h
    · omega
    · rename_i hn
      obtain ⟨x, t, ha, hx⟩ := num_head a (by omega)
      rw [ha] at hc
      obtain ⟨t', hl⟩ := cut_head 46 l x t _ hc
      exact ⟨x, t', hl, hx⟩
  · omega

theorem idx_at (p : List UInt8) (x : UInt8) (t : List UInt8) (hp : ∀ b ∈ p, figL.contains b = false) (hx : figL.contains x = true) : Lib.indexAny (p ++ x :: t) figL = p.length := by
  refine Lib.indexAny_hit (x := x) ?_ (by simp) hx
  intro j b hj hb
  rw [List.getElem?_append_left hj] at hb
  exact hp b (List.mem_of_getElem? hb)

/-- The signs of the four kinds of demands. -/
def sign (c : Int) (p : List UInt8) : Prop := c = 61 ∧ p = [61] ∨ c = 62 ∧ p = [62, 61] ∨ c = 126 ∧ p = [126] ∨ c = 94 ∧ p = [94]

theorem sign_fig {c : Int} {p : List UInt8} (h : sign c p) : ∀ b ∈ p, figL.contains b = false := by
  rcases h with ⟨_, rfl⟩ | ⟨_, rfl⟩ | ⟨_, rfl⟩ | ⟨_, rfl⟩ <;> decide

theorem demRest_cons (a b : UInt8) (t : List UInt8) : demRest (a :: b :: t) = if (a.toNat : Int) = 62 ∧ (b.toNat : Int) = 61 then some ((62 : Int), t) else if (a.toNat : Int) = 61 ∨ (a.toNat : Int) = 126 ∨ (a.toNat : Int) = 94 then some ((a.toNat : Int), b :: t) else none := rfl

theorem rest_of {c : Int} {p : List UInt8} (h : sign c p) (x : UInt8) (t : List UInt8) : demRest (p ++ x :: t) = some (c, x :: t) := by
  rcases h with ⟨rfl, rfl⟩ | ⟨rfl, rfl⟩ | ⟨rfl, rfl⟩ | ⟨rfl, rfl⟩
  · rw [show [61] ++ x :: t = 61 :: x :: t from rfl, demRest_cons, if_neg (by rintro ⟨a, _⟩; exact absurd a (by decide)), if_pos (by decide)]; rfl
  · rw [show [62, 61] ++ x :: t = 62 :: 61 :: x :: t from rfl, demRest_cons, if_pos (by decide)]
  · rw [show [126] ++ x :: t = 126 :: x :: t from rfl, demRest_cons, if_neg (by rintro ⟨a, _⟩; exact absurd a (by decide)), if_pos (by decide)]; rfl
  · rw [show [94] ++ x :: t = 94 :: x :: t from rfl, demRest_cons, if_neg (by rintro ⟨a, _⟩; exact absurd a (by decide)), if_pos (by decide)]; rfl

theorem of_rest {l r : List UInt8} {c : Int} (h : demRest l = some (c, r)) : ∃ p, sign c p ∧ l = p ++ r := by
  match l, h with
  | [], h => simp [demRest] at h
  | [_], h => simp [demRest] at h
  | a :: b :: t, h =>
    have h' : (if (a.toNat : Int) = 62 ∧ (b.toNat : Int) = 61 then some ((62 : Int), t) else if (a.toNat : Int) = 61 ∨ (a.toNat : Int) = 126 ∨ (a.toNat : Int) = 94 then some ((a.toNat : Int), b :: t) else none) = some (c, r) := h
    have e : ∀ (y n : UInt8), (y.toNat : Int) = (n.toNat : Int) → y = n := fun y n h => UInt8.toNat_inj.1 (by omega)
    by_cases c1 : (a.toNat : Int) = 62 ∧ (b.toNat : Int) = 61
    · rw [if_pos c1] at h'
      simp only [Option.some.injEq, Prod.mk.injEq] at h'
      refine ⟨[62, 61], Or.inr (Or.inl ⟨h'.1.symm, rfl⟩), ?_⟩
      rw [← h'.2, e a 62 c1.1, e b 61 c1.2]; rfl
    · rw [if_neg c1] at h'
      by_cases c2 : (a.toNat : Int) = 61 ∨ (a.toNat : Int) = 126 ∨ (a.toNat : Int) = 94
      · rw [if_pos c2] at h'
        simp only [Option.some.injEq, Prod.mk.injEq] at h'
        rcases c2 with c2 | c2 | c2
        · exact ⟨[61], Or.inl ⟨by omega, rfl⟩, by rw [← h'.2, e a 61 c2]; rfl⟩
        · exact ⟨[126], Or.inr (Or.inr (Or.inl ⟨by omega, rfl⟩)), by rw [← h'.2, e a 126 c2]; rfl⟩
        · exact ⟨[94], Or.inr (Or.inr (Or.inr ⟨by omega, rfl⟩)), by rw [← h'.2, e a 94 c2]; rfl⟩
      · rw [if_neg c2] at h'; simp at h'

/-- No figure: no demand but the star. -/
theorem code_nofig (l : List UInt8) (h : l ≠ [42]) (hi : Lib.indexAny l figL < 0) : demI l = (0, 0) := by
  cases hr : demRest l with
  | none => exact demI_none l h hr
  | some cr =>
    obtain ⟨c, r⟩ := cr
    obtain ⟨p, hp, hl⟩ := of_rest hr
    by_cases hv : verI r < 0
    · exact demI_bad l r c h hr hv
    · exfalso
      obtain ⟨x, t, ht, hx⟩ := ver_head r (by omega)
      rw [hl, ht, idx_at p x t (sign_fig hp) hx] at hi
      omega

/-- What stands from the first figure on is no version: no demand. -/
theorem code_nover (l : List UInt8) (k : Nat) (h : l ≠ [42]) (hi : Lib.indexAny l figL = k) (hv : verI (l.drop k) < 0) : demI l = (0, 0) := by
  cases hr : demRest l with
  | none => exact demI_none l h hr
  | some cr =>
    obtain ⟨c, r⟩ := cr
    obtain ⟨p, hp, hl⟩ := of_rest hr
    by_cases hv2 : verI r < 0
    · exact demI_bad l r c h hr hv2
    · exfalso
      obtain ⟨x, t, ht, hx⟩ := ver_head r (by omega)
      rw [hl, ht, idx_at p x t (sign_fig hp) hx] at hi
      have hk : k = p.length := by omega
      rw [hl, hk, List.drop_left] at hv
      omega

/-- A version from the first figure on, a sign ahead of it. -/
theorem code_sign (l : List UInt8) (k : Nat) (c : Int) (h : l ≠ [42]) (hv : 0 ≤ verI (l.drop k)) (hs : sign c (l.take k)) : demI l = (c, verI (l.drop k)) := by
  obtain ⟨x, t, ht, _⟩ := ver_head _ hv
  have hl : l = l.take k ++ x :: t := by rw [← ht, List.take_append_drop]
  have hr : demRest l = some (c, l.drop k) := by
    have := rest_of hs x t
    rw [← hl, ← ht] at this; exact this
  exact demI_good l _ c h hr hv

/-- A version from the first figure on, and no sign ahead of it. -/
theorem code_nosign (l : List UInt8) (k : Nat) (h : l ≠ [42]) (hi : Lib.indexAny l figL = k) (hs : ∀ c, ¬ sign c (l.take k)) : demI l = (0, 0) := by
  cases hr : demRest l with
  | none => exact demI_none l h hr
  | some cr =>
    obtain ⟨c, r⟩ := cr
    obtain ⟨p, hp, hl⟩ := of_rest hr
    by_cases hv2 : verI r < 0
    · exact demI_bad l r c h hr hv2
    · exfalso
      obtain ⟨x, t, ht, hx⟩ := ver_head r (by omega)
      rw [hl, ht, idx_at p x t (sign_fig hp) hx] at hi
      have hk : k = p.length := by omega
      apply hs c
      rw [hl, hk, List.take_left]; exact hp

theorem demI_sign (l : List UInt8) : demI l = (0, 0) ∨ (demI l = (42, 0)) ∨ (((demI l).1 = 61 ∨ (demI l).1 = 62 ∨ (demI l).1 = 126 ∨ (demI l).1 = 94) ∧ 0 ≤ (demI l).2 ∧ (demI l).2 ≤ 999999999) := by
  by_cases h : l = [42]
  · rw [h]; exact Or.inr (Or.inl rfl)
  · cases hr : demRest l with
    | none => exact Or.inl (demI_none l h hr)
    | some cr =>
      obtain ⟨c, r⟩ := cr
      by_cases hv : verI r < 0
      · exact Or.inl (demI_bad l r c h hr hv)
      · have := demI_good l r c h hr (by omega)
        rw [this]
        obtain ⟨p, hp, _⟩ := of_rest hr
        refine Or.inr (Or.inr ⟨?_, by show 0 ≤ verI r; omega, (verI_bd r).2⟩)
        rcases hp with ⟨e, _⟩ | ⟨e, _⟩ | ⟨e, _⟩ | ⟨e, _⟩
        · exact Or.inl e
        · exact Or.inr (Or.inl e)
        · exact Or.inr (Or.inr (Or.inl e))
        · exact Or.inr (Or.inr (Or.inr e))

end Ver
end Go.Proofs.YtnmclolbndohiaaDoor
