/-
  The walk of the code's 'parseFeatures'.
-/
import Derived.Test.YtnmclolbndohiaaGreatDoorT18
import Derived.Test.YtnmclolbndohiaaGreatDoorT04
import Derived.Test.YtnmclolbndohiaaGreatDoorShelf
namespace Go.Proofs.YtnmclolbndohiaaGreatDoor
open Go.RowKit
open Ver

/-- The errors at package level that the rows list. -/
def sentL : List Nat := [3, 4, 11, 12, 14, 15, 5, 18, 13, 17, 22, 6, 2, 8, 9, 10]
structure Sent (w : World) : Prop where
  cell : ∀ k ∈ sentL, ∃ t p, w.cell? ⟨k, 0, none⟩ = some (.iface t p)
  lt : ∀ k ∈ sentL, k < w.heap.size
theorem Sent.on {w w' : World} (h : Sent w) (hb : Below w.heap.size w w') : Sent w' where
  cell := fun k hk => by
    obtain ⟨t, p, hc⟩ := h.cell k hk
    exact ⟨t, p, (hb.cell (p := ⟨k, 0, none⟩) (h.lt k hk)).trans hc⟩
  lt := fun k hk => Nat.lt_of_lt_of_le (h.lt k hk) hb.size

def featsP (ws : List (List UInt8)) : Option (List (List UInt8)) := if ws.length ≤ 5 then plusAll ws else none
def FeatsEnds (B : Nat) (r : Option (List (List UInt8))) (e : Ending) (w' : World) : Prop :=
  ∃ a k c er, e = .returned (.tuple #[.slice a k c, er]) ∧ (r = none → ∃ t p, er = .iface t p) ∧
    ∀ fs, r = some fs → er = .nilIface ∧ ∃ F : List ByteArray, datas F = fs ∧ F.length = k ∧ w'.ownsRow B 9 1 (.slice a k c) F.length (F.map Value.string)
theorem feats_no {B : Nat} {r : Option (List (List UInt8))} {a : Option Addr} {k c : Nat} {t : TypeId} {p : Value} {w' : World} (h : r = none) : FeatsEnds B r (.returned (.tuple #[.slice a k c, .iface t p])) w' :=
  ⟨a, k, c, .iface t p, rfl, ⟨fun _ => ⟨t, p, rfl⟩, fun fs h' => (by rw [h] at h'; cases h')⟩⟩
theorem feats_yes {B : Nat} {r : Option (List (List UInt8))} {a : Option Addr} {c : Nat} {F : List ByteArray} {w' : World} (h : r = some (datas F)) (ho : w'.ownsRow B 9 1 (.slice a F.length c) F.length (F.map Value.string)) : FeatsEnds B r (.returned (.tuple #[.slice a F.length c, .nilIface])) w' :=
  ⟨a, F.length, c, .nilIface, rfl, ⟨fun h' => (by rw [h] at h'; cases h'), fun fs h' => (by rw [h] at h'; exact ⟨rfl, F, Option.some.inj h', rfl, ho⟩)⟩⟩

theorem has_plus (l : List UInt8) : Lib.hasPrefix l [43] = decide (l.head? = some 43) := by
  cases l with
  | nil => rfl
  | cons b r =>
    show ((43 == b) && _) = _
    by_cases h : b = 43
    · subst h; rfl
    · have h' : (43 == b) = false := beq_eq_false_iff_ne.2 (fun e => h e.symm)
      rw [h']; simp [h]
theorem trim_plus {l : List UInt8} (h : l.head? = some 43) : Lib.trimPrefix l [43] = l.tail := by
  cases l with
  | nil => cases h
  | cons b r =>
    have : b = 43 := by simpa using h
    subst this
    simp [Lib.trimPrefix, Lib.hasPrefix]
theorem nameL_pos {l : List UInt8} (h : nameL l = true) : 0 < l.length := by
  cases l with
  | nil => cases h
  | cons a b => simp

set_option maxHeartbeats 1600000 in
set_option maxRecDepth 100000 in
theorem parseFeats_any (g o cap n : Nat) (P : List ByteArray) (w : World) (HL : Hid (n = P.length)) (hn : n ≤ 1048576) (hg : g < w.heap.size) (HC : Hid (∀ j (h : j < P.length), w.cell? ⟨g, o + j, none⟩ = some (.string P[j]))) (S : Sent w) :
    Calls Tryz.prog 126 #[.slice (some ⟨g, o, none⟩) n cap] w fun e w' => FeatsEnds w.heap.size (featsP (datas P)) e w' ∧ Below w.heap.size w w' := by
  obtain ⟨i0, hi, hz0, hz1, hz2⟩ := info_parts Tryz.info9
  have HS : Hid (Sent w) := S
  by_cases h5 : 5 < n
  · have HR : Hid (featsP (datas P) = none) := by show _ = _; unfold featsP; rw [if_neg (by have := HL.out; simp [datas]; omega)]
    obtain ⟨t, p, hc⟩ := S.cell 5 (by decide)
    have k5 : (5 : Int) < (n : Int) := by omega
    generalize featsP (datas P) = r at *
    clear S h5
    go_enter Tryz.func126, Tryz.ntmps126
    go_wp2
    go_quiet (fail)
    go_wp2
    go_ret2
    exact ⟨feats_no HR.out, below_drewN _ _⟩
  have k5 : ¬ (5 : Int) < (n : Int) := by omega
  have HR : Hid (featsP (datas P) = plusAll (datas P)) := by show _ = _; unfold featsP; rw [if_pos (by have := HL.out; simp [datas]; omega)]
  generalize featsP (datas P) = r at *
  have HPX : Hid (∀ (x : ByteArray) (w : World), Calls Tryz.prog 162 #[.string x, .string ⟨#[43]⟩] w fun e w' => e = .returned (.tuple #[.string ⟨(Lib.trimPrefix x.data.toList [43]).toArray⟩, .bool (Lib.hasPrefix x.data.toList [43])]) ∧ w' = w) := fun x w => Tryz.strings_CutPrefix x ⟨#[43]⟩ w
  clear S h5
  go_enter Tryz.func126, Tryz.ntmps126
  go_wp2
  go_loopw [4, 15] (fun v i wr => ∃ (k : Nat) (F : List ByteArray) (av : Option Addr) (cv : Nat), k ≤ n ∧ i = .int .i64 k ∧ v = .slice av F.length cv ∧ F.length ≤ k ∧ wr.ownsRow w.heap.size 9 1 (.slice av F.length cv) F.length (F.map Value.string) ∧ PlusRel (datas P) (datas F) (datas (P.drop k)) ∧ Below w.heap.size w wr) (fun _ i _ => n - (intOf i).toNat)
  case atStart => exact ⟨0, [], none, 0, by omega, rfl, rfl, by simp, World.ownsRow_nil _ _ _ _, PlusRel_start _, Below.refl _ _⟩
  case round =>
    obtain ⟨k, F, av, cv, hk, rfl, rfl, hF, hown, hrl, hb⟩ := hrel
    have HRL : Hid (PlusRel (datas P) (datas F) (datas (P.drop k))) := hrl
    have HB : Hid (Below w.heap.size w wr) := hb
    have HO : Hid (wr.ownsRow w.heap.size 9 1 (.slice av F.length cv) F.length (F.map Value.string)) := hown
    clear hrl hown
    by_cases hlt : k < n
    · have hkP : k < P.length := by rw [← HL.out]; exact hlt
      have hck : wr.cell? ⟨g, o + k, none⟩ = some (.string P[k]) := (hb.cell (p := ⟨g, o + k, none⟩) hg).trans (HC.out k hkP)
      have HDR : Hid (datas (P.drop k) = P[k].data.toList :: datas (P.drop (k + 1))) := by
        show _ = _
        rw [List.drop_eq_getElem_cons hkP]; rfl
      have hsz := hb.size
      clear hb
      generalize P[k] = x at *
      by_cases hp : x.data.toList.head? = some 43
      · have e1 : Lib.hasPrefix x.data.toList [43] = true := by rw [has_plus]; exact decide_eq_true hp
        have e2 := trim_plus hp
        have HPX' : Hid (∀ w : World, Calls Tryz.prog 162 #[.string x, .string ⟨#[43]⟩] w fun e w' => e = .returned (.tuple #[.string ⟨x.data.toList.tail.toArray⟩, .bool true]) ∧ w' = w) := fun w => by
          have := HPX.out x w
          rw [e1, e2] at this; exact this
        have HNM : Hid (∀ w : World, Calls Tryz.prog 125 #[.string ⟨x.data.toList.tail.toArray⟩] w fun e w' => e = .returned (.bool (nameL x.data.toList.tail)) ∧ Below w.heap.size w w') := fun w => by
          have := isName_any ⟨x.data.toList.tail.toArray⟩ w
          simpa using this
        have HDT : Hid (((⟨x.data.toList.tail.toArray⟩ : ByteArray).data.toList) = x.data.toList.tail) := by show _ = _; simp
        have HLEN : Hid (nameL x.data.toList.tail = true → 1 < x.data.toList.length) := fun h => by
          have := nameL_pos h
          simp at this ⊢; omega
        have HH : Hid (x.data.toList.head? = some 43) := hp
        generalize (⟨x.data.toList.tail.toArray⟩ : ByteArray) = y at *
        clear e1 e2 hp
        cases hnx : nameL x.data.toList.tail
        · have HE : Hid (r = none) := HR.out.trans (PlusRel_stop (by have := HRL.out; rw [HDR.out] at this; exact this) (fun h => by rw [hnx] at h; exact Bool.noConfusion h.2))
          rw [hnx] at HNM
          clear hnx HRL HDR HR HPX HDT HLEN HH
          go_wp2_with fail
          refine (HPX'.out _).mono ?_
          rintro e w' ⟨rfl, hw'⟩
          obtain rfl : wr = w' := hw'.symm
          go_wp2_with fail
          refine (HNM.out _).mono ?_
          rintro e w2 ⟨rfl, hb2⟩
          have HB2 : Hid (Below w.heap.size w w2) := HB.out.trans (hb2.mono (by omega))
          obtain ⟨t, p, hc⟩ := (HS.out.on HB2.out).cell 17 (by decide)
          clear hb2 HB HNM HPX'
          go_wp2
          go_quiet (fail)
          go_wp2
          go_ret2
          exact ⟨feats_no HE.out, HB2.out.trans ((below_drewN _ _).mono HB2.out.size)⟩
        · have HST : Hid (PlusRel (datas P) (datas (F ++ [y])) (datas (P.drop (k + 1)))) := by
            have h1 := PlusRel_step (by have := HRL.out; rw [HDR.out] at this; exact this) (w := x.data.toList) ⟨⟨HLEN.out hnx, HH.out⟩, hnx⟩
            have e : datas (F ++ [y]) = datas F ++ [x.data.toList.tail] := by unfold datas; rw [List.map_append, List.map_singleton, HDT.out]
            show PlusRel _ _ _
            rw [e]; exact h1
          rw [hnx] at HNM
          clear hnx HRL HDR HPX HDT HLEN HH
          go_wp2_with fail
          refine (HPX'.out _).mono ?_
          rintro e w' ⟨rfl, hw'⟩
          obtain rfl : wr = w' := hw'.symm
          go_wp2_with fail
          refine (HNM.out _).mono ?_
          rintro e w2 ⟨rfl, hb2⟩
          have HB2 : Hid (Below w.heap.size w w2) := HB.out.trans (hb2.mono (by omega))
          have HO2 : Hid (w2.ownsRow w.heap.size 9 1 (.slice av F.length cv) F.length (F.map Value.string)) := Hold.on (r := ⟨9, 1, .slice av F.length cv, F.length, F.map Value.string⟩) HO.out hb2
          clear hb2 HB HNM HPX' HO hck
          go_wp2_with (at_builtin; refine wpList_append_own _ rfl _ _ 43 rfl w.heap.size 9 i0 (.string ByteArray.empty) 1 16 Tryz.underlying43 hi hz0 hz1 hz2 rfl (by decide) _ _ _ rfl (HO2.out.alloc _) ⟨w2.heap.size, 0, none⟩ 1 1 [.string y] rfl rfl ?c1 ?c2 ?c3 ?c4 ?c5 ?_)
          case c1 => exact cell_one_new _ _ _
          case c2 => intro u hu; simp at hu; subst hu; rfl
          case c3 => unfold maxLen; omega
          case c4 => omega
          case c5 => have := HB2.out.size; simp; omega
          intro v' w3 hown' hgrow _
          have HB3 : Hid (Below w.heap.size w w3) := below_grown HB2.out.size HB2.out HO2.out hgrow
          obtain ⟨av2, cv2, hfo⟩ := ownsRow_form hown'
          have HO3 : Hid (w3.ownsRow w.heap.size 9 1 (.slice av2 (F ++ [y]).length cv2) (F ++ [y]).length ((F ++ [y]).map Value.string)) := by show World.ownsRow _ _ _ _ _ _ _; rw [hfo] at hown'; simpa using hown'
          subst hfo
          clear hgrow hown' HO2 HB2
          go_wp2
          go_roundw
          case rel => exact ⟨k + 1, F ++ [y], av2, cv2, by omega, by go_num, by simp, by simp; omega, HO3.out, HST.out, HB3.out⟩
          case measure => simp [intOf]; omega
      · have e1 : Lib.hasPrefix x.data.toList [43] = false := by rw [has_plus]; exact decide_eq_false hp
        have HE : Hid (r = none) := HR.out.trans (PlusRel_stop (by have := HRL.out; rw [HDR.out] at this; exact this) (fun h => hp h.1.2))
        have HPX' : Hid (∀ w : World, Calls Tryz.prog 162 #[.string x, .string ⟨#[43]⟩] w fun e w' => e = .returned (.tuple #[.string ⟨(Lib.trimPrefix x.data.toList [43]).toArray⟩, .bool false]) ∧ w' = w) := fun w => by
          have := HPX.out x w
          rw [e1] at this; exact this
        generalize (⟨(Lib.trimPrefix x.data.toList [43]).toArray⟩ : ByteArray) = y at *
        obtain ⟨t, p, hc⟩ := (HS.out.on HB.out).cell 17 (by decide)
        clear e1 hp HRL HDR HR HPX
        go_wp2_with fail
        refine (HPX'.out _).mono ?_
        rintro e w' ⟨rfl, hw'⟩
        obtain rfl : wr = w' := hw'.symm
        go_wp2
        go_quiet (fail)
        go_wp2
        go_ret2
        exact ⟨feats_no HE.out, HB.out.trans ((below_drewN _ _).mono HB.out.size)⟩
    · have HE : Hid (r = some (datas F)) := by
        have e : P.drop k = [] := List.drop_of_length_le (by rw [← HL.out]; omega)
        have := HRL.out; rw [e] at this; exact HR.out.trans (PlusRel_end this)
      clear HRL hb
      go_wp2
      go_ret2
      exact ⟨feats_yes HE.out HO.out, HB.out⟩

end Go.Proofs.YtnmclolbndohiaaGreatDoor
