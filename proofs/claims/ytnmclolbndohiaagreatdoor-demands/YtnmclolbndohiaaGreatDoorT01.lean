/-
  The plain mathematics of 'Fitting': versions, demands, numbers, cuts, over lists of bytes. Nothing of the program.
-/
import Derived.WalkKit
namespace Go.Proofs.YtnmclolbndohiaaGreatDoor
namespace Ver

/-- What the reference's loop over a number's bytes comes to, from n on. -/
def numTo : List UInt8 → Int → Option Int
  | [], n => some n
  | b :: r, n => if (b.toNat : Int) < 48 ∨ 57 < (b.toNat : Int) ∨ 999 < n then none else numTo r (10 * n + b.toNat - 48)

/-- A number; -1: it is none. -/
def numI (l : List UInt8) : Int :=
  match numTo l 0 with
  | none => -1
  | some n => if l = [] ∨ 999 < n ∨ (1 < l.length ∧ l.head? = some 48) then -1 else n

theorem numTo_nonneg : ∀ (l : List UInt8) (n m : Int), 0 ≤ n → numTo l n = some m → 0 ≤ m
  | [], n, m, h, e => by simp [numTo] at e; omega
  | b :: r, n, m, h, e => by
    unfold numTo at e
    split at e
    · simp at e
    · rename_i hc
      exact numTo_nonneg r _ m (by omega) e

theorem numI_bd (l : List UInt8) : -1 ≤ numI l ∧ numI l ≤ 999 := by
  unfold numI
  split
  · omega
  · rename_i n h
    have := numTo_nonneg l 0 n (by omega) h
    split <;> omega

theorem num_bad (l : List UInt8) (N : Int) (ht : numTo l 0 = some N) (h : l = [] ∨ 999 < N ∨ (1 < l.length ∧ l.head? = some 48)) : numI l = -1 := by
  unfold numI; rw [ht]; exact if_pos h
theorem num_none (l : List UInt8) (ht : numTo l 0 = none) : numI l = -1 := by
  unfold numI; rw [ht]
/-- The code's loop: the bound is asked behind each step. -/
def digTo : List UInt8 → Int → Option Int
  | [], n => some n
  | b :: r, n => if (b.toNat : Int) < 48 ∨ 57 < (b.toNat : Int) ∨ 999 < n * 10 + ((b.toNat : Int) - 48) then none else digTo r (n * 10 + ((b.toNat : Int) - 48))

theorem numTo_big : ∀ (l : List UInt8) (n : Int), 999 < n → numTo l n = none ∨ ∃ m, numTo l n = some m ∧ 999 < m
  | [], n, h => Or.inr ⟨n, rfl, h⟩
  | b :: r, n, h => Or.inl (by simp [numTo, h])

/-- The two loops come to the same, but for what is too great at the end. -/
theorem digTo_eq : ∀ (l : List UInt8) (n : Int), n ≤ 999 → digTo l n = (match numTo l n with | none => none | some m => if 999 < m then none else some m)
  | [], n, h => by simp [digTo, numTo]; omega
  | b :: r, n, h => by
    unfold digTo numTo
    by_cases h1 : (b.toNat : Int) < 48 ∨ 57 < (b.toNat : Int)
    · rw [if_pos (by omega), if_pos (by omega)]
    · rw [if_neg (show ¬ ((b.toNat : Int) < 48 ∨ 57 < (b.toNat : Int) ∨ 999 < n) by omega)]
      have e : 10 * n + (b.toNat : Int) - 48 = n * 10 + ((b.toNat : Int) - 48) := by omega
      rw [e]
      by_cases h2 : 999 < n * 10 + ((b.toNat : Int) - 48)
      · rw [if_pos (by omega)]
        rcases numTo_big r _ h2 with h3 | ⟨m, h3, h4⟩
        · rw [h3]
        · rw [h3]; simp [h4]
      · rw [if_neg (by omega)]
        exact digTo_eq r _ (by omega)

/-- The code's number: none where it is none. -/
def digI (l : List UInt8) : Option Int := if l = [] ∨ (1 < l.length ∧ l.head? = some 48) then none else digTo l 0

theorem digI_eq (l : List UInt8) : digI l = if numI l < 0 then none else some (numI l) := by
  unfold digI numI
  rw [digTo_eq l 0 (by omega)]
  have hn := numTo_nonneg l 0
  by_cases h : l = [] ∨ (1 < l.length ∧ l.head? = some 48)
  · rw [if_pos h]
    split
    · simp
    · rw [if_pos (by rcases h with h | h <;> simp [h])]
  · rw [if_neg h]
    split
    · rename_i h1; simp
    · rename_i m h1
      have := hn m (by omega) h1
      have h' : ¬ l = [] ∧ ¬ (1 < l.length ∧ l.head? = some 48) := by
        constructor
        · intro h2; exact h (Or.inl h2)
        · intro h2; exact h (Or.inr h2)
      by_cases h2 : 999 < m
      · have e : (if l = [] ∨ 999 < m ∨ (1 < l.length ∧ l.head? = some 48) then (-1 : Int) else m) = -1 := if_pos (Or.inr (Or.inl h2))
        rw [e]; simp [h2]
      · have e : (if l = [] ∨ 999 < m ∨ (1 < l.length ∧ l.head? = some 48) then (-1 : Int) else m) = m := if_neg (by rintro (h3 | h3 | h3); exact h'.1 h3; exact h2 h3; exact h'.2 h3)
        rw [e, if_neg (show ¬ m < 0 by omega)]; simp [h2]

/-- A text, parted at each byte c. -/
def cutL (c : UInt8) : List UInt8 → List (List UInt8)
  | [] => [[]]
  | b :: r => if b = c then [] :: cutL c r else match cutL c r with | [] => [[b]] | h :: t => (b :: h) :: t

theorem cutL_ne (c : UInt8) : ∀ l, cutL c l ≠ []
  | [] => by simp [cutL]
  | b :: r => by unfold cutL; split; simp; split <;> simp

theorem cutL_len (c : UInt8) : ∀ l, (cutL c l).length ≤ l.length + 1
  | [] => by simp [cutL]
  | b :: r => by
    have := cutL_len c r
    unfold cutL; split
    · simp; omega
    · split
      · simp
      · rename_i h t e; rw [e] at this; simp at this ⊢; omega

/-- A cut with a piece begun: the pieces of 'p' (no c in it) and then l. -/
theorem cutL_pre (c : UInt8) : ∀ (p l : List UInt8), (∀ b ∈ p, b ≠ c) → cutL c (p ++ l) = (match cutL c l with | [] => [p] | h :: t => (p ++ h) :: t)
  | [], l, _ => by cases h : cutL c l with
    | nil => exact absurd h (cutL_ne c l)
    | cons a b => simp [h]
  | b :: r, l, hp => by
    have hb : b ≠ c := hp b (by simp)
    have ih := cutL_pre c r l (fun x hx => hp x (by simp [hx]))
    rw [List.cons_append]
    show (if b = c then _ else _) = _
    rw [if_neg hb, ih]
    cases h : cutL c l with
    | nil => exact absurd h (cutL_ne c l)
    | cons a b => simp

theorem cutL_hit (c : UInt8) (p l : List UInt8) (hp : ∀ b ∈ p, b ≠ c) : cutL c (p ++ c :: l) = p :: cutL c l := by
  rw [cutL_pre c p _ hp]
  simp [cutL]

theorem cutL_end (c : UInt8) (p : List UInt8) (hp : ∀ b ∈ p, b ≠ c) : cutL c p = [p] := by
  have := cutL_pre c p [] hp
  simpa [cutL] using this

theorem cutL_piece (c : UInt8) : ∀ (l : List UInt8) (p : List UInt8), p ∈ cutL c l → p.length ≤ l.length
  | [], p, h => by simp [cutL] at h; simp [h]
  | b :: r, p, h => by
    have ih := cutL_piece c r
    unfold cutL at h
    split at h
    · rcases List.mem_cons.1 h with h1 | h1
      · simp [h1]
      · have := ih p h1; simp; omega
    · split at h
      · simp at h; simp [h]
      · rename_i a t e
        rw [e] at ih
        rcases List.mem_cons.1 h with h1 | h1
        · have := ih a (by simp); simp [h1]; omega
        · have := ih p (by simp [h1]); simp; omega

/-- A version as one number; -1: it is none. -/
def verL : List (List UInt8) → Int
  | [a, b, d] => if numI a < 0 ∨ numI b < 0 ∨ numI d < 0 then -1 else 1000 * (1000 * numI a + numI b) + numI d
  | _ => -1
def verI (l : List UInt8) : Int := verL (cutL 46 l)

theorem verI_bd (l : List UInt8) : -1 ≤ verI l ∧ verI l ≤ 999999999 := by
  unfold verI verL
  split
  · rename_i a b d h
    have := numI_bd a; have := numI_bd b; have := numI_bd d
    split <;> omega
  · omega

/-- A demand's sign, and what stands behind it. -/
def demRest : List UInt8 → Option (Int × List UInt8)
  | c :: b :: r => if (c.toNat : Int) = 62 ∧ (b.toNat : Int) = 61 then some (62, r) else if (c.toNat : Int) = 61 ∨ (c.toNat : Int) = 126 ∨ (c.toNat : Int) = 94 then some (c.toNat, b :: r) else none
  | _ => none

/-- A demand: its sign (0: it is none), and a version. -/
def demI (l : List UInt8) : Int × Int :=
  if l = [42] then (42, 0) else match demRest l with
    | none => (0, 0)
    | some (c, r) => if verI r < 0 then (0, 0) else (c, verI r)

theorem demI_none (l : List UInt8) (h : l ≠ [42]) (hr : demRest l = none) : demI l = (0, 0) := by
  unfold demI; rw [if_neg h, hr]
theorem demI_bad (l r : List UInt8) (c : Int) (h : l ≠ [42]) (hr : demRest l = some (c, r)) (hv : verI r < 0) : demI l = (0, 0) := by
  unfold demI; rw [if_neg h, hr]; exact if_pos hv
theorem demI_good (l r : List UInt8) (c : Int) (h : l ≠ [42]) (hr : demRest l = some (c, r)) (hv : 0 ≤ verI r) : demI l = (c, verI r) := by
  unfold demI; rw [if_neg h, hr]; exact if_neg (by omega)

/-- Does a version fit? (The reference's words.) -/
def fitI (c d v : Int) : Bool :=
  if c = 42 then true
  else if c = 61 then v == d
  else if c = 62 then decide (d ≤ v)
  else if c = 126 then decide (d ≤ v) && (v / 1000 == d / 1000)
  else if 0 < d / 1000000 then decide (d ≤ v) && (v / 1000000 == d / 1000000)
  else if 0 < d / 1000 % 1000 then decide (d ≤ v) && (v / 1000 == d / 1000 % 1000)
  else v == d

end Ver
end Go.Proofs.YtnmclolbndohiaaGreatDoor
