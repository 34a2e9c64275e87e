/-
  slices.Grow at []string, by the guide's shelf.
-/
import Derived.Test.YtnmclolbndohiaaGreatDoorT06
import Derived.Shelf.Spec.SlicesGrow
namespace Go.Proofs
open Go.Shelf
def Tryz.grow_ren : Go.Shelf.Ren := ⟨fun | 4 => 209 | n => n, fun | 22 => 43 | 25 => 9 | n => n, fun | n => n⟩
theorem Tryz.grow : Go.Proofs.Lays8.n4 Tryz.prog Tryz.grow_ren := {
  mixed := by kernel_rfl
  f4 := ⟨Tryz.f209.name, by kernel_rfl, Tryz.func209.trans (congrArg some (by kernel_rfl))⟩
  t0 := Tryz.underlying0
  a0 := Tryz.isAgg0
  z0 := Tryz.sizeOf0
  v0 := Tryz.zeroValue0
  t3 := Tryz.underlying3
  a3 := Tryz.isAgg3
  z3 := Tryz.sizeOf3
  v3 := Tryz.zeroValue3
  t4 := Tryz.underlying4
  a4 := Tryz.isAgg4
  z4 := Tryz.sizeOf4
  v4 := Tryz.zeroValue4
  t9 := Tryz.underlying9
  a9 := Tryz.isAgg9
  z9 := Tryz.sizeOf9
  v9 := Tryz.zeroValue9
  t20 := Tryz.underlying20
  a20 := Tryz.isAgg20
  z20 := Tryz.sizeOf20
  v20 := Tryz.zeroValue20
  t22 := Tryz.underlying43
  a22 := Tryz.isAgg43
  z22 := Tryz.sizeOf43
  v22 := Tryz.zeroValue43 }
end Go.Proofs
namespace Go.Proofs.YtnmclolbndohiaaGreatDoor
open Go.RowKit
open Ver

/-- slices.Grow(nil, n): an empty row with room. -/
theorem grow_nil (n : Nat) (w : World) (hn : 0 < n) (hn2 : n ≤ 1048576) :
    Calls Tryz.prog 209 #[.slice none 0 0, .int .i64 n] w fun e w' => ∃ g cap, e = .returned (.slice (some ⟨g, 0, none⟩) 0 cap) ∧ w'.ownsRow w.heap.size 9 1 (.slice (some ⟨g, 0, none⟩) 0 cap) 0 [] ∧ Below w.heap.size w w' := by
  obtain ⟨i0, hi, hz0, hz1, hz2⟩ := info_parts Tryz.info9
  have := Any8.slices_Grow_grow Tryz.grow i0 (.string ByteArray.empty) hi hz0 (by omega) none 0 0 n [] w (by omega) (by omega) (by rw [hz2]; omega) (by omega) (by simp) (fun _ => rfl) (fun a h => by cases h)
  refine this.mono fun e w' h => ?_
  obtain ⟨rfl, rfl⟩ := h
  refine ⟨w.heap.size, _, rfl, ?_, ((Below.refl _ _).drew).alloc (by simp) _⟩
  refine ⟨rfl, Or.inr ⟨w.heap.size, _, _, rfl, Nat.le_refl _, heap_alloc_new w.drew _, Nat.zero_le _, grownCap_le_maxLen _ _ _ _ (by unfold maxLen; omega), ?_, by simp⟩⟩
  have hge := grownCap_ge w (0 + n) 0 9
  rw [Nat.zero_add] at hge
  have hg : Tryz.grow_ren.t 25 = 9 := rfl
  rw [hg]
  have hc : (Value.string ByteArray.empty).cells.size = 1 := rfl
  rw [Array.size_append, Array.size_append, size_zeroCells, size_zeroCells, hc]
  simp
  omega

/-- What has been laid behind one another. -/
def catUpTo (PA PB : List ByteArray) (k : Nat) : List ByteArray := if k = 0 then [] else if k = 1 then PA else PA ++ PB

set_option maxHeartbeats 1600000 in
set_option maxRecDepth 100000 in
theorem concat_two (g oA oB cA cB gs : Nat) (PA PB : List ByteArray) (nA nB : Nat) (w : World) (HA : Hid (nA = PA.length)) (HB : Hid (nB = PB.length)) (hpos : 0 < nA + nB) (hA2 : nA ≤ 1048576) (hle : nA + nB ≤ 1048576) (hg : g < w.heap.size) (hgs : gs < w.heap.size)
    (s0 : w.cell? ⟨gs, 0, none⟩ = some (.slice (some ⟨g, oA, none⟩) nA cA)) (s1 : w.cell? ⟨gs, 1, none⟩ = some (.slice (some ⟨g, oB, none⟩) nB cB))
    (HCA : Hid (∀ j (h : j < PA.length), w.cell? ⟨g, oA + j, none⟩ = some (.string PA[j]))) (HCB : Hid (∀ j (h : j < PB.length), w.cell? ⟨g, oB + j, none⟩ = some (.string PB[j]))) :
    Calls Tryz.prog 182 #[.slice (some ⟨gs, 0, none⟩) 2 2] w fun e w' => ∃ v, e = .returned v ∧ w'.ownsRow w.heap.size 9 1 v (PA ++ PB).length ((PA ++ PB).map Value.string) ∧ Below w.heap.size w w' := by
  obtain ⟨i0, hi, hz0, hz1, hz2⟩ := info_parts Tryz.info9
  have HGR : Hid (Calls Tryz.prog 209 #[.slice none 0 0, .int .i64 ((nA : Int) + (nB : Int))] w fun e w' => ∃ g cap, e = .returned (.slice (some ⟨g, 0, none⟩) 0 cap) ∧ w'.ownsRow w.heap.size 9 1 (.slice (some ⟨g, 0, none⟩) 0 cap) 0 [] ∧ Below w.heap.size w w') := by
    have := grow_nil (nA + nB) w hpos hle
    push_cast at this; exact this
  go_enter Tryz.func182, Tryz.ntmps182
  go_wp2
  go_loop [3, 11] (fun z i => ∃ k : Nat, k ≤ 2 ∧ i = .int .i64 k ∧ z = .int .i64 (if k = 0 then 0 else if k = 1 then (nA : Int) else (nA : Int) + (nB : Int))) (fun _ i => 2 - (intOf i).toNat)
  case atStart => exact ⟨0, by omega, rfl, rfl⟩
  case round =>
    obtain ⟨k, hk, rfl, rfl⟩ := hrel
    obtain rfl | rfl | rfl : k = 0 ∨ k = 1 ∨ k = 2 := by omega
    · go_wp2
      go_round
      case rel => exact ⟨1, by omega, by go_num, by simp⟩
      case measure => simp [intOf]
    · go_wp2
      go_round
      case rel => exact ⟨2, by omega, by go_num, by simp⟩
      case measure => simp [intOf]
    · go_wp2_with fail
      refine HGR.out.mono ?_
      rintro e w1 ⟨gn, cn, rfl, hown, hb1⟩
      have HO1 : Hid (w1.ownsRow w.heap.size 9 1 (.slice (some ⟨gn, 0, none⟩) 0 cn) 0 []) := hown
      have HB1 : Hid (Below w.heap.size w w1) := hb1
      clear hown hb1 HGR
      go_wp2
      go_loopw [6, 27] (fun v i wr => ∃ (k : Nat) (av : Option Addr) (cv : Nat), k ≤ 2 ∧ i = .int .i64 k ∧ v = .slice av (catUpTo PA PB k).length cv ∧ wr.ownsRow w.heap.size 9 1 (.slice av (catUpTo PA PB k).length cv) (catUpTo PA PB k).length ((catUpTo PA PB k).map Value.string) ∧ Below w.heap.size w wr) (fun _ i _ => 2 - (intOf i).toNat)
      case atStart => exact ⟨0, some ⟨gn, 0, none⟩, cn, by omega, rfl, rfl, HO1.out, HB1.out⟩
      case round =>
        obtain ⟨k, av, cv, hk, rfl, rfl, hown, hb⟩ := hrel
        have HO : Hid (wr.ownsRow w.heap.size 9 1 (.slice av (catUpTo PA PB k).length cv) (catUpTo PA PB k).length ((catUpTo PA PB k).map Value.string)) := hown
        have HBW : Hid (Below w.heap.size w wr) := hb
        have c0 : wr.cell? ⟨gs, 0, none⟩ = some (.slice (some ⟨g, oA, none⟩) nA cA) := (hb.cell (p := ⟨gs, 0, none⟩) hgs).trans s0
        have c1 : wr.cell? ⟨gs, 1, none⟩ = some (.slice (some ⟨g, oB, none⟩) nB cB) := (hb.cell (p := ⟨gs, 1, none⟩) hgs).trans s1
        clear hown HO1 HB1
        obtain rfl | rfl | rfl : k = 0 ∨ k = 1 ∨ k = 2 := by omega
        · have HN : Hid (∀ j u, (PA.map Value.string)[j]? = some u → wr.cell? ((⟨g, oA, none⟩ : Addr).add j) = some u) := fun j u hj => by
            rw [List.getElem?_map] at hj
            cases hx : PA[j]? with
            | none => rw [hx] at hj; cases hj
            | some x =>
              rw [hx] at hj
              obtain ⟨hjl, rfl⟩ := List.getElem?_eq_some_iff.1 hx
              have := (HBW.out.cell (p := ⟨g, oA + j, none⟩) hg).trans (HCA.out j hjl)
              cases hj
              by_cases h0 : j = 0
              · subst h0; simpa [Addr.add] using this
              · simpa [Addr.add, h0] using this
          go_wp2_with (at_builtin; refine wpList_append_own _ rfl _ _ 43 rfl w.heap.size 9 i0 (.string ByteArray.empty) 1 16 Tryz.underlying43 hi hz0 hz1 hz2 rfl (by decide) _ _ _ rfl HO.out ⟨g, oA, none⟩ nA cA (PA.map Value.string) rfl ?c0 ?c1 ?c2 ?c3 ?c4 ?c5 ?_)
          case c0 => have := HA.out; simp; omega
          case c1 => exact HN.out
          case c2 => intro u hu; obtain ⟨x, _, rfl⟩ := List.mem_map.1 hu; rfl
          case c3 => have := HA.out; have := HB.out; simp [catUpTo]; unfold maxLen; omega
          case c4 => have := HA.out; have := HB.out; simp [catUpTo]; omega
          case c5 => exact HBW.out.size
          intro v' w2 hown' hgrow _
          have HB2 : Hid (Below w.heap.size w w2) := HBW.out.grown hgrow HBW.out.size (fun j hj => (HO.out.lt j hj).1)
          have hE : (catUpTo PA PB 0).map Value.string ++ PA.map Value.string = (catUpTo PA PB 1).map Value.string := by simp [catUpTo]
          have hL : (catUpTo PA PB 0).length + nA = (catUpTo PA PB 1).length := by have := HA.out; simp [catUpTo]; omega
          rw [hE, hL] at hown'
          obtain ⟨av2, cv2, hfo⟩ := ownsRow_form hown'
          subst hfo
          have HO2 : Hid (w2.ownsRow w.heap.size 9 1 (.slice av2 (catUpTo PA PB 1).length cv2) (catUpTo PA PB 1).length ((catUpTo PA PB 1).map Value.string)) := hown'
          clear hown' hgrow HN hE hL HO HBW hb c0 c1
          go_wp2
          go_roundw
          case rel => exact ⟨1, av2, cv2, by omega, by go_num, rfl, HO2.out, HB2.out⟩
          case measure => simp [intOf]
        · have HN : Hid (∀ j u, (PB.map Value.string)[j]? = some u → wr.cell? ((⟨g, oB, none⟩ : Addr).add j) = some u) := fun j u hj => by
            rw [List.getElem?_map] at hj
            cases hx : PB[j]? with
            | none => rw [hx] at hj; cases hj
            | some x =>
              rw [hx] at hj
              obtain ⟨hjl, rfl⟩ := List.getElem?_eq_some_iff.1 hx
              have := (HBW.out.cell (p := ⟨g, oB + j, none⟩) hg).trans (HCB.out j hjl)
              cases hj
              by_cases h0 : j = 0
              · subst h0; simpa [Addr.add] using this
              · simpa [Addr.add, h0] using this
          go_wp2_with (at_builtin; refine wpList_append_own _ rfl _ _ 43 rfl w.heap.size 9 i0 (.string ByteArray.empty) 1 16 Tryz.underlying43 hi hz0 hz1 hz2 rfl (by decide) _ _ _ rfl HO.out ⟨g, oB, none⟩ nB cB (PB.map Value.string) rfl ?c0 ?c1 ?c2 ?c3 ?c4 ?c5 ?_)
          case c0 => have := HB.out; simp; omega
          case c1 => exact HN.out
          case c2 => intro u hu; obtain ⟨x, _, rfl⟩ := List.mem_map.1 hu; rfl
          case c3 => have := HA.out; have := HB.out; simp [catUpTo]; unfold maxLen; omega
          case c4 => have := HA.out; have := HB.out; simp [catUpTo]; omega
          case c5 => exact HBW.out.size
          intro v' w2 hown' hgrow _
          have HB2 : Hid (Below w.heap.size w w2) := HBW.out.grown hgrow HBW.out.size (fun j hj => (HO.out.lt j hj).1)
          have hE : (catUpTo PA PB 1).map Value.string ++ PB.map Value.string = (catUpTo PA PB 2).map Value.string := by simp [catUpTo]
          have hL : (catUpTo PA PB 1).length + nB = (catUpTo PA PB 2).length := by have := HB.out; simp [catUpTo]; omega
          rw [hE, hL] at hown'
          obtain ⟨av2, cv2, hfo⟩ := ownsRow_form hown'
          subst hfo
          have HO2 : Hid (w2.ownsRow w.heap.size 9 1 (.slice av2 (catUpTo PA PB 2).length cv2) (catUpTo PA PB 2).length ((catUpTo PA PB 2).map Value.string)) := hown'
          clear hown' hgrow HN hE hL HO HBW hb c0 c1
          go_wp2
          go_roundw
          case rel => exact ⟨2, av2, cv2, by omega, by go_num, rfl, HO2.out, HB2.out⟩
          case measure => simp [intOf]
        · clear hb c0 c1
          go_wp2
          go_ret
          exact ⟨_, rfl, HO.out, HBW.out⟩

end Go.Proofs.YtnmclolbndohiaaGreatDoor
