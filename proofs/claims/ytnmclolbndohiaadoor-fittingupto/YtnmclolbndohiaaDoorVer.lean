/-
  The walk of the reference's 'Version' (6).
-/
import Derived.Test.YtnmclolbndohiaaDoorCut
namespace Go.Proofs.YtnmclolbndohiaaDoor
open Go.RowKit
open Ver

/-- 'Cut', its slice laid open. -/
theorem cut_any (s : ByteArray) (c : UInt8) (cI : Int) (HC : Hid (cI = (c.toNat : Int))) (w : World) (hs : s.size ≤ 1048576) :
    Calls Tryd.prog 13 #[.string s, .int .u8 cI] w fun e w' => ∃ g cap P, e = .returned (.slice (some ⟨g, 0, none⟩) (List.length P) cap) ∧ Hid (datas P = cutL c s.data.toList) ∧
      (∀ j (h : j < P.length), w'.cell? ⟨g, j, none⟩ = some (.string P[j])) ∧ P.length ≤ 1048577 ∧ Below w.heap.size w w' := by
  refine (cut_own s c cI HC w hs).mono ?_
  rintro e w' ⟨v, P, rfl, hown, hP, hb⟩
  have hl : (datas P).length = P.length := by simp [datas]
  have hne : P.length ≠ 0 := by
    intro h
    apply cutL_ne c s.data.toList
    rw [← hP]; exact List.length_eq_zero_iff.1 (by omega)
  have hle : P.length ≤ 1048577 := by
    have := cutL_len c s.data.toList
    rw [← hP, hl] at this; simp at this; omega
  rcases hown.2 with ⟨_, h0⟩ | ⟨g, cap, cur, hv, hg, _⟩
  · exact absurd h0 hne
  · refine ⟨g, cap, P, by rw [hv], hP, ?_, hle, hb⟩
    intro j hj
    rw [hv] at hown
    rw [hown.cellAt j (by omega)]
    simp [hj]

theorem piece_size {c : UInt8} {s : ByteArray} {P : List ByteArray} (h : datas P = cutL c s.data.toList) (x : ByteArray) (hx : x ∈ P) : x.size ≤ s.size := by
  have : x.data.toList ∈ cutL c s.data.toList := by rw [← h]; exact List.mem_map.2 ⟨x, hx, rfl⟩
  have := cutL_piece c _ _ this
  simpa using this

theorem verI_no (s : ByteArray) (P : List ByteArray) (h : datas P = cutL 46 s.data.toList) (hn : P.length ≠ 3) : verI s.data.toList = -1 := by
  unfold verI verL
  rw [← h]
  match P, hn with
  | [], _ => rfl
  | [_], _ => rfl
  | [_, _], _ => rfl
  | [_, _, _], hn => simp at hn
  | _ :: _ :: _ :: _ :: _, _ => rfl

theorem verI_three (s a b d : ByteArray) (h : datas [a, b, d] = cutL 46 s.data.toList) :
    verI s.data.toList = if numI a.data.toList < 0 ∨ numI b.data.toList < 0 ∨ numI d.data.toList < 0 then -1 else 1000 * (1000 * numI a.data.toList + numI b.data.toList) + numI d.data.toList := by
  unfold verI; rw [← h]; rfl

set_option maxHeartbeats 800000 in
set_option maxRecDepth 100000 in
theorem version_any (s : ByteArray) (w : World) (hs : s.size ≤ 1048576) :
    Calls Tryd.prog 6 #[.string s] w fun e w' => e = .returned (.int .i64 (verI s.data.toList)) ∧ Below w.heap.size w w' := by
  go_enter Tryd.func6, Tryd.ntmps6
  go_wp2_with fail
  refine (cut_any s 46 46 rfl _ hs).mono ?_
  rintro e w1 ⟨g, cap, P, rfl, hP, hcell, hle, hb⟩
  by_cases h3 : P.length = 3
  · match P, h3 with
    | [a, b, d], _ =>
      have ha := piece_size hP.out a (by simp)
      have hb' := piece_size hP.out b (by simp)
      have hd := piece_size hP.out d (by simp)
      have hv := verI_three s a b d hP.out
      have c0 := hcell 0 (by simp)
      have c1 := hcell 1 (by simp)
      have c2 := hcell 2 (by simp)
      simp only [List.getElem_cons_zero, List.getElem_cons_succ] at c0 c1 c2
      clear hcell hP hle
      have Ca := fun w => number_any a w (by omega)
      have Cb := fun w => number_any b w (by omega)
      have Cd := fun w => number_any d w (by omega)
      have ba := numI_bd a.data.toList
      have bb := numI_bd b.data.toList
      have bd := numI_bd d.data.toList
      generalize numI a.data.toList = na at *
      generalize numI b.data.toList = nb at *
      generalize numI d.data.toList = nd at *
      have HA : Hid (∀ w, Calls Tryd.prog 14 #[.string a] w fun e w' => e = .returned (.int .i64 na) ∧ w' = w) := Ca
      have HB : Hid (∀ w, Calls Tryd.prog 14 #[.string b] w fun e w' => e = .returned (.int .i64 nb) ∧ w' = w) := Cb
      have HD : Hid (∀ w, Calls Tryd.prog 14 #[.string d] w fun e w' => e = .returned (.int .i64 nd) ∧ w' = w) := Cd
      have HV : Hid (verI s.data.toList = if na < 0 ∨ nb < 0 ∨ nd < 0 then -1 else 1000 * (1000 * na + nb) + nd) := hv
      clear Ca Cb Cd hv
      obtain ⟨ba1, ba2⟩ := ba
      obtain ⟨bb1, bb2⟩ := bb
      obtain ⟨bd1, bd2⟩ := bd
      go_wp2
      go_loop [4, 5] (fun v i => ∃ (k : Nat) (V : Int), i = .int .i64 k ∧ v = .int .i64 V ∧ 0 ≤ V ∧ V ≤ 999999999 ∧ (k = 0 ∧ V = 0 ∨ k = 1 ∧ 0 ≤ na ∧ V = na ∨ k = 2 ∧ 0 ≤ na ∧ 0 ≤ nb ∧ V = 1000 * na + nb ∨ k = 3 ∧ 0 ≤ na ∧ 0 ≤ nb ∧ 0 ≤ nd ∧ V = 1000 * (1000 * na + nb) + nd))
        (fun _ i => 3 - (intOf i).toNat)
      case atStart => exact ⟨0, 0, rfl, rfl, by omega, by omega, Or.inl ⟨rfl, rfl⟩⟩
      case round =>
        obtain ⟨k, V, rfl, rfl, hV0, hV1, hk⟩ := hrel
        rcases hk with ⟨rfl, rfl⟩ | ⟨rfl, hna, rfl⟩ | ⟨rfl, hna, hnb, rfl⟩ | ⟨rfl, hna, hnb, hnd, rfl⟩
        · by_cases hx : na < 0
          · go_wp2_with (go_at_call 14; refine (HA.out _).mono ?_; rintro e w' ⟨rfl, rfl⟩)
            go_ret
            exact ⟨ret_int (by rw [HV.out, if_pos (Or.inl hx)]), hb⟩
          · have hx' : 0 ≤ na := by omega
            go_wp2_with (go_at_call 14; refine (HA.out _).mono ?_; rintro e w' ⟨rfl, rfl⟩)
            go_round
            case rel => exact ⟨1, na, rfl, by go_num, by omega, by omega, Or.inr (Or.inl ⟨rfl, hx', rfl⟩)⟩
            case measure => simp [intOf]
        · by_cases hx : nb < 0
          · go_wp2_with (go_at_call 14; refine (HB.out _).mono ?_; rintro e w' ⟨rfl, rfl⟩)
            go_ret
            exact ⟨ret_int (by rw [HV.out, if_pos (Or.inr (Or.inl hx))]), hb⟩
          · have hx' : 0 ≤ nb := by omega
            go_wp2_with (go_at_call 14; refine (HB.out _).mono ?_; rintro e w' ⟨rfl, rfl⟩)
            go_round
            case rel => exact ⟨2, 1000 * V + nb, rfl, by go_num, by omega, by omega, Or.inr (Or.inr (Or.inl ⟨rfl, hna, hx', rfl⟩))⟩
            case measure => simp [intOf]
        · by_cases hx : nd < 0
          · go_wp2_with (go_at_call 14; refine (HD.out _).mono ?_; rintro e w' ⟨rfl, rfl⟩)
            go_ret
            exact ⟨ret_int (by rw [HV.out, if_pos (Or.inr (Or.inr hx))]), hb⟩
          · have hx' : 0 ≤ nd := by omega
            go_wp2_with (go_at_call 14; refine (HD.out _).mono ?_; rintro e w' ⟨rfl, rfl⟩)
            go_round
            case rel => exact ⟨3, 1000 * (1000 * na + nb) + nd, rfl, by go_num, by omega, by omega, Or.inr (Or.inr (Or.inr ⟨rfl, hna, hnb, hx', rfl⟩))⟩
            case measure => simp [intOf]
        · go_wp2
          go_ret
          exact ⟨ret_int (by rw [HV.out, if_neg (by omega)]), hb⟩
  · have HV : Hid (verI s.data.toList = -1) := verI_no s P hP.out h3
    have hq : ((P.length : Int) != 3) = true := by rw [bne_iff_ne]; omega
    clear hP h3 hcell
    go_wp2
    go_ret
    exact ⟨ret_int HV.out.symm, hb⟩

end Go.Proofs.YtnmclolbndohiaaDoor
