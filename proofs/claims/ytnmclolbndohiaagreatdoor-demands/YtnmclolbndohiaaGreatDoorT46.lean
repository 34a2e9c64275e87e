/-
  The walk of 'Demands'.
-/
import Derived.Test.YtnmclolbndohiaaGreatDoorT19
import Derived.Test.YtnmclolbndohiaaGreatDoorT45
namespace Go.Proofs.YtnmclolbndohiaaGreatDoor
open Go.RowKit
open Ver

theorem dem_sign (l r : List UInt8) (c : Int) (h : l ≠ [42]) (hr : demRest l = some (c, r)) (v : Int) (hv : verI r = v) (h0 : 0 ≤ v) : demI l = (c, v) := by
  rw [← hv]
  exact demI_good l r c h hr (by omega)
theorem text_list (b0 b1 b2 : Nat) : ∃ x r, (textB b0 b1 b2).data.toList = x :: r := by
  have e : (textB b0 b1 b2).data.toList = (digB b0).data.toList ++ 46 :: ((digB b1).data.toList ++ 46 :: (digB b2).data.toList) := by
    unfold textB; simp
  rw [e]
  cases (digB b0).data.toList with
  | nil => exact ⟨46, _, rfl⟩
  | cons x r => exact ⟨x, _, rfl⟩
/-- The four demands of a version's text. -/
theorem dem_four (b0 b1 b2 : Nat) (h0 : b0 < 1000) (h1 : b1 < 1000) (h2 : b2 < 1000) :
    demI ((⟨#[61]⟩ : ByteArray) ++ textB b0 b1 b2).data.toList = (61, verN b0 b1 b2) ∧ demI ((⟨#[62, 61]⟩ : ByteArray) ++ textB b0 b1 b2).data.toList = (62, verN b0 b1 b2) ∧ demI ((⟨#[126]⟩ : ByteArray) ++ textB b0 b1 b2).data.toList = (126, verN b0 b1 b2) ∧ demI ((⟨#[94]⟩ : ByteArray) ++ textB b0 b1 b2).data.toList = (94, verN b0 b1 b2) := by
  have hv : verI (textB b0 b1 b2).data.toList = verN b0 b1 b2 := ver_text b0 b1 b2 h0 h1 h2
  have hn : 0 ≤ verN b0 b1 b2 := by unfold verN; omega
  obtain ⟨x, r, e⟩ := text_list b0 b1 b2
  have l1 : ((⟨#[61]⟩ : ByteArray) ++ textB b0 b1 b2).data.toList = 61 :: (textB b0 b1 b2).data.toList := by simp
  have l2 : ((⟨#[62, 61]⟩ : ByteArray) ++ textB b0 b1 b2).data.toList = 62 :: 61 :: (textB b0 b1 b2).data.toList := by simp
  have l3 : ((⟨#[126]⟩ : ByteArray) ++ textB b0 b1 b2).data.toList = 126 :: (textB b0 b1 b2).data.toList := by simp
  have l4 : ((⟨#[94]⟩ : ByteArray) ++ textB b0 b1 b2).data.toList = 94 :: (textB b0 b1 b2).data.toList := by simp
  rw [l1, l2, l3, l4]
  rw [e] at hv ⊢
  refine ⟨dem_sign _ (x :: r) 61 (by simp) ?_ _ hv hn, dem_sign _ (x :: r) 62 (by simp) ?_ _ hv hn, dem_sign _ (x :: r) 126 (by simp) ?_ _ hv hn, dem_sign _ (x :: r) 94 (by simp) ?_ _ hv hn⟩
  · unfold demRest; dsimp only; rw [if_neg (fun h => by simp at h), if_pos (Or.inl (by decide))]; rfl
  · unfold demRest; dsimp only; rw [if_pos ⟨by decide, by decide⟩]
  · unfold demRest; dsimp only; rw [if_neg (fun h => by simp at h), if_pos (Or.inr (Or.inl (by decide)))]; rfl
  · unfold demRest; dsimp only; rw [if_neg (fun h => by simp at h), if_pos (Or.inr (Or.inr (by decide)))]; rfl

theorem fits_yes (a b : ByteArray) (c d v : Int) (w : World) (t0 t1 : TypeId) (p0 p1 : Value) (m : Int) (ha : a.size ≤ 1000) (hb : b.size ≤ 1000) (G : Glob t0 t1 p0 p1 m w) (hv : verI a.data.toList = v) (hv0 : 0 ≤ v) (hd : demI b.data.toList = (c, d)) (hc : c ≠ 0) :
    Calls Tryz.prog 15 #[.string a, .string b] w fun e w' => e = .returned (.tuple #[.bool (fitI c d v), .int .i64 0]) ∧ Below w.heap.size w w' := by
  have := codeFits_any a b w t0 t1 p0 p1 m (by omega) (by omega) G
  unfold fitsRes at this
  rw [hd, hv, if_neg (by rintro (h | h); omega; exact hc h)] at this
  exact this

/-- The two variables of three numbers each. -/
structure DmAt (w : World) (A B : Nat) (a0 a1 a2 b0 b1 b2 : Int) (W : World) : Prop where
  below : Below w.heap.size w W
  la : A < W.heap.size
  lb : B < W.heap.size
  ca0 : W.cell? ⟨A, 0, none⟩ = some (.int .i64 a0)
  ca1 : W.cell? ⟨A, 1, none⟩ = some (.int .i64 a1)
  ca2 : W.cell? ⟨A, 2, none⟩ = some (.int .i64 a2)
  cb0 : W.cell? ⟨B, 0, none⟩ = some (.int .i64 b0)
  cb1 : W.cell? ⟨B, 1, none⟩ = some (.int .i64 b1)
  cb2 : W.cell? ⟨B, 2, none⟩ = some (.int .i64 b2)
theorem DmAt.on {w W W' : World} {A B : Nat} {a0 a1 a2 b0 b1 b2 : Int} (h : DmAt w A B a0 a1 a2 b0 b1 b2 W) (hb : Below W.heap.size W W') : DmAt w A B a0 a1 a2 b0 b1 b2 W' :=
  ⟨h.below.trans (hb.mono h.below.size), Nat.lt_of_lt_of_le h.la hb.size, Nat.lt_of_lt_of_le h.lb hb.size, (hb.cell (p := ⟨A, 0, none⟩) h.la).trans h.ca0, (hb.cell (p := ⟨A, 1, none⟩) h.la).trans h.ca1, (hb.cell (p := ⟨A, 2, none⟩) h.la).trans h.ca2, (hb.cell (p := ⟨B, 0, none⟩) h.lb).trans h.cb0, (hb.cell (p := ⟨B, 1, none⟩) h.lb).trans h.cb1, (hb.cell (p := ⟨B, 2, none⟩) h.lb).trans h.cb2⟩

set_option maxHeartbeats 3200000 in
set_option maxRecDepth 100000 in
theorem demands_any (x0 x1 x2 y0 y1 y2 : Int) (V : NoV) (w : World) (t0 t1 : TypeId) (p0 p1 : Value) (m : Int) (hx0 : In64 x0) (hx1 : In64 x1) (hx2 : In64 x2) (hy0 : In64 y0) (hy1 : In64 y1) (hy2 : In64 y2) (S : Sent w) (G : Glob t0 t1 p0 p1 m w) (hV : NoAt V w) (hT : ErrT w) (hgn : 29 ≤ w.heap.size) :
    Calls Tryz.prog 4 #[.agg #[.int .i64 x0, .int .i64 x1, .int .i64 x2], .agg #[.int .i64 y0, .int .i64 y1, .int .i64 y2]] w fun e w' => e = .returned (.bool true) ∧ Below w.heap.size w w' := by
  obtain ⟨a0, ea0, ha0⟩ : ∃ n : Nat, smallI x0 = n ∧ n < 1000 := ⟨(smallI x0).toNat, by have := smallI_bd x0; omega, by have := smallI_bd x0; omega⟩
  obtain ⟨a1, ea1, ha1⟩ : ∃ n : Nat, smallI x1 = n ∧ n < 1000 := ⟨(smallI x1).toNat, by have := smallI_bd x1; omega, by have := smallI_bd x1; omega⟩
  obtain ⟨a2, ea2, ha2⟩ : ∃ n : Nat, smallI x2 = n ∧ n < 1000 := ⟨(smallI x2).toNat, by have := smallI_bd x2; omega, by have := smallI_bd x2; omega⟩
  obtain ⟨b0, eb0, hb0⟩ : ∃ n : Nat, smallI y0 = n ∧ n < 1000 := ⟨(smallI y0).toNat, by have := smallI_bd y0; omega, by have := smallI_bd y0; omega⟩
  obtain ⟨b1, eb1, hb1⟩ : ∃ n : Nat, smallI y1 = n ∧ n < 1000 := ⟨(smallI y1).toNat, by have := smallI_bd y1; omega, by have := smallI_bd y1; omega⟩
  obtain ⟨b2, eb2, hb2⟩ : ∃ n : Nat, smallI y2 = n ∧ n < 1000 := ⟨(smallI y2).toNat, by have := smallI_bd y2; omega, by have := smallI_bd y2; omega⟩
  have HSA : Hid (∀ W, Calls Tryz.prog 13 #[.agg #[.int .i64 x0, .int .i64 x1, .int .i64 x2]] W fun e w' => e = .returned (.agg #[.int .i64 a0, .int .i64 a1, .int .i64 a2]) ∧ Below W.heap.size W w') := fun W => by
    have := small_any x0 x1 x2 W hx0 hx1 hx2
    rw [ea0, ea1, ea2] at this; exact this
  have HSB : Hid (∀ W, Calls Tryz.prog 13 #[.agg #[.int .i64 y0, .int .i64 y1, .int .i64 y2]] W fun e w' => e = .returned (.agg #[.int .i64 b0, .int .i64 b1, .int .i64 b2]) ∧ Below W.heap.size W w') := fun W => by
    have := small_any y0 y1 y2 W hy0 hy1 hy2
    rw [eb0, eb1, eb2] at this; exact this
  have HTA : Hid (∀ W, Calls Tryz.prog 14 #[.agg #[.int .i64 a0, .int .i64 a1, .int .i64 a2]] W fun e w' => e = .returned (.string (textB a0 a1 a2)) ∧ Below W.heap.size W w') := fun W => text_any a0 a1 a2 W ha0 ha1 ha2
  have HTB : Hid (∀ W, Calls Tryz.prog 14 #[.agg #[.int .i64 b0, .int .i64 b1, .int .i64 b2]] W fun e w' => e = .returned (.string (textB b0 b1 b2)) ∧ Below W.heap.size W w') := fun W => text_any b0 b1 b2 W hb0 hb1 hb2
  have HBE : Hid (∀ W, Calls Tryz.prog 16 #[.agg #[.int .i64 a0, .int .i64 a1, .int .i64 a2], .agg #[.int .i64 b0, .int .i64 b1, .int .i64 b2]] W fun e w' => e = .returned (.bool (behB a0 a1 a2 b0 b1 b2)) ∧ Below W.heap.size W w') := fun W => behind_any _ _ _ _ _ _ W
  have sa := textB_size a0 a1 a2
  have sb := textB_size b0 b1 b2
  have va : verI (textB a0 a1 a2).data.toList = verN a0 a1 a2 := ver_text a0 a1 a2 ha0 ha1 ha2
  have vn : 0 ≤ verN a0 a1 a2 := by unfold verN; omega
  obtain ⟨dm1, dm2, dm3, dm4⟩ := dem_four b0 b1 b2 hb0 hb1 hb2
  have s1 : ((⟨#[61]⟩ : ByteArray) ++ textB b0 b1 b2).size ≤ 1000 := by rw [ByteArray.size_append]; have : (⟨#[61]⟩ : ByteArray).size = 1 := rfl; omega
  have s2 : ((⟨#[62, 61]⟩ : ByteArray) ++ textB b0 b1 b2).size ≤ 1000 := by rw [ByteArray.size_append]; have : (⟨#[62, 61]⟩ : ByteArray).size = 2 := rfl; omega
  have s3 : ((⟨#[126]⟩ : ByteArray) ++ textB b0 b1 b2).size ≤ 1000 := by rw [ByteArray.size_append]; have : (⟨#[126]⟩ : ByteArray).size = 1 := rfl; omega
  have s4 : ((⟨#[94]⟩ : ByteArray) ++ textB b0 b1 b2).size ≤ 1000 := by rw [ByteArray.size_append]; have : (⟨#[94]⟩ : ByteArray).size = 1 := rfl; omega
  have gl : ∀ W, Below w.heap.size w W → Glob t0 t1 p0 p1 m W := fun W hW => G.on hW G.lt
  have HF0 : Hid (∀ W, Below w.heap.size w W → Calls Tryz.prog 15 #[.string (textB a0 a1 a2), .string ⟨#[42]⟩] W fun e w' => e = .returned (.tuple #[.bool true, .int .i64 0]) ∧ Below W.heap.size W w') := fun W hW => fits_yes _ _ 42 0 _ W t0 t1 p0 p1 m (by omega) (by show 1 ≤ 1000; omega) (gl W hW) va vn rfl (by omega)
  have HF1 : Hid (∀ W, Below w.heap.size w W → Calls Tryz.prog 15 #[.string (textB a0 a1 a2), .string ((⟨#[61]⟩ : ByteArray) ++ textB b0 b1 b2)] W fun e w' => e = .returned (.tuple #[.bool (eq3B a0 a1 a2 b0 b1 b2), .int .i64 0]) ∧ Below W.heap.size W w') := fun W hW => by
    have := fits_yes _ _ 61 _ _ W t0 t1 p0 p1 m (by omega) s1 (gl W hW) va vn dm1 (by omega)
    rw [fit_eq a0 a1 a2 b0 b1 b2 ha1 ha2 hb1 hb2] at this; exact this
  have HF2 : Hid (∀ W, Below w.heap.size w W → Calls Tryz.prog 15 #[.string (textB a0 a1 a2), .string ((⟨#[62, 61]⟩ : ByteArray) ++ textB b0 b1 b2)] W fun e w' => e = .returned (.tuple #[.bool (behB a0 a1 a2 b0 b1 b2), .int .i64 0]) ∧ Below W.heap.size W w') := fun W hW => by
    have := fits_yes _ _ 62 _ _ W t0 t1 p0 p1 m (by omega) s2 (gl W hW) va vn dm2 (by omega)
    rw [fit_least a0 a1 a2 b0 b1 b2 ha1 ha2 hb1 hb2] at this; exact this
  have HF3 : Hid (∀ W, Below w.heap.size w W → Calls Tryz.prog 15 #[.string (textB a0 a1 a2), .string ((⟨#[126]⟩ : ByteArray) ++ textB b0 b1 b2)] W fun e w' => e = .returned (.tuple #[.bool (behB a0 a1 a2 b0 b1 b2 && ((a0 : Int) == b0 && (a1 : Int) == b1)), .int .i64 0]) ∧ Below W.heap.size W w') := fun W hW => by
    have := fits_yes _ _ 126 _ _ W t0 t1 p0 p1 m (by omega) s3 (gl W hW) va vn dm3 (by omega)
    rw [fit_tilde3 a0 a1 a2 b0 b1 b2 ha1 ha2 hb1 hb2] at this; exact this
  have HF4 : Hid (∀ W, Below w.heap.size w W → Calls Tryz.prog 15 #[.string (textB a0 a1 a2), .string ((⟨#[94]⟩ : ByteArray) ++ textB b0 b1 b2)] W fun e w' => e = .returned (.tuple #[.bool (behB a0 a1 a2 b0 b1 b2 && wantB a0 a1 a2 b0 b1 b2), .int .i64 0]) ∧ Below W.heap.size W w') := fun W hW => by
    have := fits_yes _ _ 94 _ _ W t0 t1 p0 p1 m (by omega) s4 (gl W hW) va vn dm4 (by omega)
    rw [fit_caret3 a0 a1 a2 b0 b1 b2 ha1 ha2 hb1 hb2] at this; exact this
  have heq : ∀ W : World, (Op.equalIn 10000 25 (.agg #[.int .i64 a0, .int .i64 a1, .int .i64 a2]) (.agg #[.int .i64 b0, .int .i64 b1, .int .i64 b2])).run Tryz.prog W = .ok (eq3B a0 a1 a2 b0 b1 b2) W := fun W => eqArrI _ _ _ _ _ _ W
  have hwb : wantB a0 a1 a2 b0 b1 b2 = if ((b0 : Int) == 0) = true ∧ ((b1 : Int) == 0) = true then eq3B a0 a1 a2 b0 b1 b2 else if ((b0 : Int) == 0) = true then ((a0 : Int) == b0 && (a1 : Int) == b1) else (a0 : Int) == b0 := by
    unfold wantB; simp only [beq_iff_eq]
  have bb2 : Below w.heap.size w ((w.alloc (.cells #[.int .i64 x0, .int .i64 x1, .int .i64 x2] 25)).alloc (.cells #[.int .i64 y0, .int .i64 y1, .int .i64 y2] 25)) := ((Below.refl _ _).alloc (Nat.le_refl _) _).alloc (by simp) _
  have HKN : Hid (Calls Tryz.prog 12 #[] ((w.alloc (.cells #[.int .i64 x0, .int .i64 x1, .int .i64 x2] 25)).alloc (.cells #[.int .i64 y0, .int .i64 y1, .int .i64 y2] 25)) fun e w' => e = .returned (.bool true) ∧ Below ((w.alloc (.cells #[.int .i64 x0, .int .i64 x1, .int .i64 x2] 25)).alloc (.cells #[.int .i64 y0, .int .i64 y1, .int .i64 y2] 25)).heap.size ((w.alloc (.cells #[.int .i64 x0, .int .i64 x1, .int .i64 x2] 25)).alloc (.cells #[.int .i64 y0, .int .i64 y1, .int .i64 y2] 25)) w') := known_any V _ t0 t1 p0 p1 m (S.on bb2) (G.on bb2 G.lt) (hV.on bb2 hgn) (hT.on bb2 hgn) (Nat.le_trans hgn bb2.size)
  have HB0 : Hid (Below w.heap.size w ((w.alloc (.cells #[.int .i64 x0, .int .i64 x1, .int .i64 x2] 25)).alloc (.cells #[.int .i64 y0, .int .i64 y1, .int .i64 y2] 25))) := bb2
  rw [hwb] at HF4
  generalize textB a0 a1 a2 = TA at *
  generalize textB b0 b1 b2 = TB at *
  generalize eq3B a0 a1 a2 b0 b1 b2 = EQ at *
  generalize behB a0 a1 a2 b0 b1 b2 = UP at *
  generalize hE0 : ((a0 : Int) == (b0 : Int)) = E0 at *
  generalize hE1 : ((a1 : Int) == (b1 : Int)) = E1 at *
  generalize hZ0 : ((b0 : Int) == 0) = Z0 at *
  generalize hZ1 : ((b1 : Int) == 0) = Z1 at *
  clear hx0 hx1 hx2 hy0 hy1 hy2 S G hV hT hgn ea0 ea1 ea2 eb0 eb1 eb2 ha0 ha1 ha2 hb0 hb1 hb2 va vn dm1 dm2 dm3 dm4 s1 s2 s3 s4 gl hwb bb2 sa
  go_enter Tryz.func4, Tryz.ntmps4
  go_wp2_with fail
  refine Calls.mono HKN.out ?_
  rintro e w1 ⟨rfl, hb1⟩
  have c20 : w1.cell? ⟨w.heap.size, 0, none⟩ = some (.int .i64 x0) := (hb1.cell (p := ⟨w.heap.size, 0, none⟩) (by simp; omega)).trans (by simp)
  have c21 : w1.cell? ⟨w.heap.size, 1, none⟩ = some (.int .i64 x1) := (hb1.cell (p := ⟨w.heap.size, 1, none⟩) (by simp; omega)).trans (by simp)
  have c22 : w1.cell? ⟨w.heap.size, 2, none⟩ = some (.int .i64 x2) := (hb1.cell (p := ⟨w.heap.size, 2, none⟩) (by simp; omega)).trans (by simp)
  have c30 : w1.cell? ⟨w.heap.size + 1, 0, none⟩ = some (.int .i64 y0) := (hb1.cell (p := ⟨w.heap.size + 1, 0, none⟩) (by simp)).trans (by simp)
  have c31 : w1.cell? ⟨w.heap.size + 1, 1, none⟩ = some (.int .i64 y1) := (hb1.cell (p := ⟨w.heap.size + 1, 1, none⟩) (by simp)).trans (by simp)
  have c32 : w1.cell? ⟨w.heap.size + 1, 2, none⟩ = some (.int .i64 y2) := (hb1.cell (p := ⟨w.heap.size + 1, 2, none⟩) (by simp)).trans (by simp)
  have hs1 : w.heap.size + 1 < w1.heap.size := by have := hb1.size; simp at this; omega
  have HB1 : Hid (Below w.heap.size w w1) := HB0.out.trans (hb1.mono HB0.out.size)
  clear hb1 HKN HB0
  go_wp2_with fail
  refine Calls.mono (HSA.out _) ?_
  rintro e w2 ⟨rfl, hb2⟩
  have d30 : w2.cell? ⟨w.heap.size + 1, 0, none⟩ = some (.int .i64 y0) := (hb2.cell (p := ⟨w.heap.size + 1, 0, none⟩) hs1).trans c30
  have d31 : w2.cell? ⟨w.heap.size + 1, 1, none⟩ = some (.int .i64 y1) := (hb2.cell (p := ⟨w.heap.size + 1, 1, none⟩) hs1).trans c31
  have d32 : w2.cell? ⟨w.heap.size + 1, 2, none⟩ = some (.int .i64 y2) := (hb2.cell (p := ⟨w.heap.size + 1, 2, none⟩) hs1).trans c32
  have hs2 : w.heap.size + 1 < w2.heap.size := Nat.lt_of_lt_of_le hs1 hb2.size
  have HB2 : Hid (Below w.heap.size w w2) := HB1.out.trans (hb2.mono HB1.out.size)
  clear hb2 HB1 c20 c21 c22 c30 c31 c32 hs1
  go_wp2_with fail
  refine Calls.mono (HSB.out _) ?_
  rintro e w3 ⟨rfl, hb3⟩
  have HW4 : Hid (DmAt w w2.heap.size w3.heap.size a0 a1 a2 b0 b1 b2 (w3.alloc (.cells #[.int .i64 b0, .int .i64 b1, .int .i64 b2] 25))) := by
    have hl : w2.heap.size < w3.heap.size := by have := hb3.size; simp at this; omega
    have hc : ∀ o, (w3.alloc (.cells #[.int .i64 b0, .int .i64 b1, .int .i64 b2] 25)).cell? ⟨w2.heap.size, o, none⟩ = #[Value.int .i64 (a0 : Int), .int .i64 (a1 : Int), .int .i64 (a2 : Int)][o]? := fun o => by
      rw [World.cell?_alloc_past _ _ _ hl, hb3.cell (p := ⟨w2.heap.size, o, none⟩) (by simp)]
      exact World.cell?_alloc_at _ _ _ _ rfl
    have hd : ∀ o, (w3.alloc (.cells #[.int .i64 b0, .int .i64 b1, .int .i64 b2] 25)).cell? ⟨w3.heap.size, o, none⟩ = #[Value.int .i64 (b0 : Int), .int .i64 (b1 : Int), .int .i64 (b2 : Int)][o]? := fun o => World.cell?_alloc_at _ _ _ _ rfl
    have hb : Below w.heap.size w (w3.alloc (.cells #[.int .i64 b0, .int .i64 b1, .int .i64 b2] 25)) := ((HB2.out.alloc HB2.out.size _).trans (hb3.mono (by simp; have := HB2.out.size; omega))).alloc (by have := HB2.out.size; omega) _
    exact ⟨hb, by simp; omega, by simp, hc 0, hc 1, hc 2, hd 0, hd 1, hd 2⟩
  have hl3 : w2.heap.size < w3.heap.size := by have := hb3.size; simp at this; omega
  have f0 : w3.cell? ⟨w2.heap.size, 0, none⟩ = some (.int .i64 a0) := (hb3.cell (p := ⟨w2.heap.size, 0, none⟩) (by simp)).trans (by simp)
  have f1 : w3.cell? ⟨w2.heap.size, 1, none⟩ = some (.int .i64 a1) := (hb3.cell (p := ⟨w2.heap.size, 1, none⟩) (by simp)).trans (by simp)
  have f2 : w3.cell? ⟨w2.heap.size, 2, none⟩ = some (.int .i64 a2) := (hb3.cell (p := ⟨w2.heap.size, 2, none⟩) (by simp)).trans (by simp)
  clear hb3 HB2 d30 d31 d32 hs2 HSA HSB
  go_wp2_with fail
  refine Calls.mono (HTA.out _) ?_
  rintro e w5 ⟨rfl, hb5⟩
  have HW5 : Hid (DmAt w w2.heap.size w3.heap.size a0 a1 a2 b0 b1 b2 w5) := HW4.out.on hb5
  clear hb5 HW4 f0 f1 f2 hl3 HTA
  generalize w2.heap.size = A at *
  generalize w3.heap.size = B at *
  have la5 := HW5.out.la
  have lb5 := HW5.out.lb
  have p50 := HW5.out.ca0
  have p51 := HW5.out.ca1
  have p52 := HW5.out.ca2
  have r50 := HW5.out.cb0
  have r51 := HW5.out.cb1
  have r52 := HW5.out.cb2
  go_wp2_with fail
  refine Calls.mono (HF0.out _ HW5.out.below) ?_
  rintro e w6 ⟨rfl, hb6⟩
  have HW6 : Hid (DmAt w A B a0 a1 a2 b0 b1 b2 w6) := HW5.out.on hb6
  clear hb6 HW5 la5 lb5 p50 p51 p52 r50 r51 r52
  have la6 := HW6.out.la
  have lb6 := HW6.out.lb
  have p60 := HW6.out.ca0
  have p61 := HW6.out.ca1
  have p62 := HW6.out.ca2
  have r60 := HW6.out.cb0
  have r61 := HW6.out.cb1
  have r62 := HW6.out.cb2
  go_wp2_with fail
  refine Calls.mono (HTB.out _) ?_
  rintro e w7 ⟨rfl, hb7⟩
  have HW7 : Hid (DmAt w A B a0 a1 a2 b0 b1 b2 w7) := HW6.out.on hb7
  clear hb7 HW6 la6 lb6 p60 p61 p62 r60 r61 r62
  have la7 := HW7.out.la
  have lb7 := HW7.out.lb
  have p70 := HW7.out.ca0
  have p71 := HW7.out.ca1
  have p72 := HW7.out.ca2
  have r70 := HW7.out.cb0
  have r71 := HW7.out.cb1
  have r72 := HW7.out.cb2
  go_wp2_with fail
  refine Calls.mono (HF1.out _ HW7.out.below) ?_
  rintro e w8 ⟨rfl, hb8⟩
  have HW8 : Hid (DmAt w A B a0 a1 a2 b0 b1 b2 w8) := HW7.out.on hb8
  clear hb8 HW7 la7 lb7 p70 p71 p72 r70 r71 r72
  have la8 := HW8.out.la
  have lb8 := HW8.out.lb
  have p80 := HW8.out.ca0
  have p81 := HW8.out.ca1
  have p82 := HW8.out.ca2
  have r80 := HW8.out.cb0
  have r81 := HW8.out.cb1
  have r82 := HW8.out.cb2
  go_wp2_with fail
  refine Calls.mono (HTB.out _) ?_
  rintro e w9 ⟨rfl, hb9⟩
  have HW9 : Hid (DmAt w A B a0 a1 a2 b0 b1 b2 w9) := HW8.out.on hb9
  clear hb9 HW8 la8 lb8 p80 p81 p82 r80 r81 r82
  have la9 := HW9.out.la
  have lb9 := HW9.out.lb
  have p90 := HW9.out.ca0
  have p91 := HW9.out.ca1
  have p92 := HW9.out.ca2
  have r90 := HW9.out.cb0
  have r91 := HW9.out.cb1
  have r92 := HW9.out.cb2
  go_wp2_with fail
  refine Calls.mono (HF2.out _ HW9.out.below) ?_
  rintro e w10 ⟨rfl, hb10⟩
  have HW10 : Hid (DmAt w A B a0 a1 a2 b0 b1 b2 w10) := HW9.out.on hb10
  clear hb10 HW9 la9 lb9 p90 p91 p92 r90 r91 r92
  have la10 := HW10.out.la
  have lb10 := HW10.out.lb
  have p100 := HW10.out.ca0
  have p101 := HW10.out.ca1
  have p102 := HW10.out.ca2
  have r100 := HW10.out.cb0
  have r101 := HW10.out.cb1
  have r102 := HW10.out.cb2
  go_wp2_with fail
  refine Calls.mono (HTB.out _) ?_
  rintro e w11 ⟨rfl, hb11⟩
  have HW11 : Hid (DmAt w A B a0 a1 a2 b0 b1 b2 w11) := HW10.out.on hb11
  clear hb11 HW10 la10 lb10 p100 p101 p102 r100 r101 r102
  have la11 := HW11.out.la
  have lb11 := HW11.out.lb
  have p110 := HW11.out.ca0
  have p111 := HW11.out.ca1
  have p112 := HW11.out.ca2
  have r110 := HW11.out.cb0
  have r111 := HW11.out.cb1
  have r112 := HW11.out.cb2
  go_wp2_with fail
  refine Calls.mono (HF3.out _ HW11.out.below) ?_
  rintro e w12 ⟨rfl, hb12⟩
  have HW12 : Hid (DmAt w A B a0 a1 a2 b0 b1 b2 w12) := HW11.out.on hb12
  clear hb12 HW11 la11 lb11 p110 p111 p112 r110 r111 r112
  have la12 := HW12.out.la
  have lb12 := HW12.out.lb
  have p120 := HW12.out.ca0
  have p121 := HW12.out.ca1
  have p122 := HW12.out.ca2
  have r120 := HW12.out.cb0
  have r121 := HW12.out.cb1
  have r122 := HW12.out.cb2
  go_wp2_with fail
  refine Calls.mono (HTB.out _) ?_
  rintro e w13 ⟨rfl, hb13⟩
  have HW13 : Hid (DmAt w A B a0 a1 a2 b0 b1 b2 w13) := HW12.out.on hb13
  clear hb13 HW12 la12 lb12 p120 p121 p122 r120 r121 r122
  have la13 := HW13.out.la
  have lb13 := HW13.out.lb
  have p130 := HW13.out.ca0
  have p131 := HW13.out.ca1
  have p132 := HW13.out.ca2
  have r130 := HW13.out.cb0
  have r131 := HW13.out.cb1
  have r132 := HW13.out.cb2
  go_wp2_with fail
  refine Calls.mono (HF4.out _ HW13.out.below) ?_
  rintro e w14 ⟨rfl, hb14⟩
  have HW14 : Hid (DmAt w A B a0 a1 a2 b0 b1 b2 w14) := HW13.out.on hb14
  clear hb14 HW13 la13 lb13 p130 p131 p132 r130 r131 r132
  clear HF0 HF1 HF2 HF3 HF4 HTB sb
  have la14 := HW14.out.la
  have lb14 := HW14.out.lb
  have p140 := HW14.out.ca0
  have p141 := HW14.out.ca1
  have p142 := HW14.out.ca2
  have r140 := HW14.out.cb0
  have r141 := HW14.out.cb1
  have r142 := HW14.out.cb2
  cases E0 <;> cases E1 <;> cases Z0 <;> cases Z1 <;> cases UP <;> cases EQ
  all_goals (
    go_wp2_with fail
    refine Calls.mono (HBE.out _) ?_
    rintro e w15 ⟨rfl, hb15⟩
    have HW15 : Hid (DmAt w A B a0 a1 a2 b0 b1 b2 w15) := HW14.out.on hb15
    have la15 := HW15.out.la
    have lb15 := HW15.out.lb
    have p0 := HW15.out.ca0
    have p1 := HW15.out.ca1
    have p2 := HW15.out.ca2
    have r0 := HW15.out.cb0
    have r1 := HW15.out.cb1
    have r2 := HW15.out.cb2
    clear hb15 HW14 HBE la14 lb14 p140 p141 p142 r140 r141 r142
    go_wp2
    go_ret
    exact ⟨rfl, HW15.out.below⟩)

end Go.Proofs.YtnmclolbndohiaaGreatDoor
