/-
  The walk of the reference's 'Cut' (13): a slice of texts that the call makes.
-/
import Derived.Test.YtnmclolbndohiaaDoorNum
import Derived.Lib.IndexBytes
import Derived.Maps.AppendAt
namespace Go.Proofs.YtnmclolbndohiaaDoor
open Go.RowKit
open Ver

theorem Tryd.info9 : (Tryd.prog.info? 9).map (fun i => (i.zero, i.size, i.bytes)) = some (some (.string ByteArray.empty), 1, 16) := by kernel_rfl

abbrev datas (P : List ByteArray) : List (List UInt8) := P.map fun x => x.data.toList

theorem below_grown {B : Nat} {w wr w1 : World} {o : Obj} {v : Value} {n : Nat} {xs : List Value} (hB : B ≤ wr.heap.size) (hnx : Below B w wr) (hown : wr.ownsRow B 9 1 v n xs) (hg : (wr.alloc o).grownBy w1 v.ownBlock) : Below B w w1 :=
  (hnx.alloc hB o).grown hg (by simp; omega) (fun j hj => (hown.lt j hj).1)

set_option maxHeartbeats 800000 in
set_option maxRecDepth 100000 in
theorem cut_own (s : ByteArray) (c : UInt8) (cI : Int) (HC : Hid (cI = (c.toNat : Int))) (w : World) (hs : s.size ≤ 1048576) :
    Calls Tryd.prog 13 #[.string s, .int .u8 cI] w fun e w' => ∃ v P, e = .returned v ∧ w'.ownsRow w.heap.size 9 1 v P.length (P.map Value.string) ∧ datas P = cutL c s.data.toList ∧ Below w.heap.size w w' := by
  obtain ⟨i0, hi, hz0, hz1, hz2⟩ := info_parts Tryd.info9
  go_enter Tryd.func13, Tryd.ntmps13
  go_wp2
  go_loopw [5, 6, 7] (fun v f i wr => ∃ (k fr : Nat) (P : List ByteArray), k ≤ s.size ∧ fr ≤ k ∧ P.length ≤ fr ∧ i = .int .i64 k ∧ f = .int .i64 fr ∧ wr.ownsRow w.heap.size 9 1 v P.length (P.map Value.string) ∧ CutRel c s.data.toList (datas P) fr k ∧ Below w.heap.size w wr)
    (fun _ _ i _ => s.size - (intOf i).toNat)
  case atStart => exact ⟨0, 0, [], Nat.zero_le _, Nat.le_refl _, Nat.le_refl _, rfl, rfl, World.ownsRow_nil _ _ _ _, CutRel_start _ _, Below.refl _ _⟩
  case round =>
    obtain ⟨k, fr, P, hk, hf, hP, rfl, rfl, hown, hcut, hnx⟩ := hrel
    have HR : Hid (CutRel c s.data.toList (datas P) fr k) := hcut
    clear hcut
    have hsz := hnx.size
    by_cases hlt : k < s.size
    · by_cases hq : (s[k].toNat : Int) = cI
      · have hq' : ((s[k].toNat : Int) == cI) = true := by simpa using hq
        have HR' : Hid (CutRel c s.data.toList (datas (P ++ [s.extract fr k])) (k + 1) (k + 1)) := by
          have hb : s[k] = c := by apply UInt8.toNat_inj.1; have := HC.out; omega
          have := CutRel_hit c _ _ fr k hf (by rw [drop_byte s k hlt, hb]) HR.out
          show CutRel c _ _ _ _
          rw [datas, List.map_append, List.map_singleton, Lib.extract_data]; exact this
        clear HR hq
        go_wp2_with (at_builtin; refine wpList_append_own _ rfl _ _ 46 rfl w.heap.size 9 i0 (.string ByteArray.empty) 1 16 Tryd.underlying46 hi hz0 hz1 hz2 rfl (by decide) _ _ _ rfl (hown.alloc _) ⟨wr.heap.size, 0, none⟩ 1 1 [.string (s.extract fr k)] rfl rfl ?c1 ?c2 ?c3 ?c4 ?c5 ?_)
        case c1 => exact cell_one_new _ _ _
        case c2 => intro u hu; simp at hu; subst hu; rfl
        case c3 => unfold maxLen; omega
        case c4 => omega
        case c5 => simp; omega
        intro v' w1 hown' hgrow _
        have hb1 := below_grown hsz hnx hown hgrow
        clear hgrow hown hnx
        go_wp2
        go_roundw
        case rel => exact ⟨k + 1, k + 1, P ++ [s.extract fr k], by omega, by omega, by simp; omega, by go_num, by go_num, by simpa using hown', HR'.out, hb1⟩
        case measure => simp [intOf]; omega
      · have hq' : ((s[k].toNat : Int) == cI) = false := by simpa using hq
        have HR' : Hid (CutRel c s.data.toList (datas P) fr (k + 1)) :=
          CutRel_miss c _ _ fr k s[k] hf (drop_byte s k hlt) (by intro e; apply hq; rw [e]; exact HC.out.symm) HR.out
        clear HR hq
        go_wp2
        go_roundw
        case rel => exact ⟨k + 1, fr, P, by omega, by omega, hP, by go_num, rfl, hown, HR'.out, hnx⟩
        case measure => simp [intOf]; omega
    · have HE : Hid (datas (P ++ [s.extract fr s.size]) = cutL c s.data.toList) := by
        have := CutRel_end c _ _ fr k (by simp; omega) HR.out
        show datas _ = _
        rw [datas, List.map_append, List.map_singleton, Lib.extract_to_end]; exact this
      clear HR
      go_wp2_with (at_builtin; refine wpList_append_own _ rfl _ _ 46 rfl w.heap.size 9 i0 (.string ByteArray.empty) 1 16 Tryd.underlying46 hi hz0 hz1 hz2 rfl (by decide) _ _ _ rfl (hown.alloc _) ⟨wr.heap.size, 0, none⟩ 1 1 [.string (s.extract fr s.size)] rfl rfl ?d1 ?d2 ?d3 ?d4 ?d5 ?_)
      case d1 => exact cell_one_new _ _ _
      case d2 => intro u hu; simp at hu; subst hu; rfl
      case d3 => unfold maxLen; omega
      case d4 => omega
      case d5 => simp; omega
      intro v' w1 hown' hgrow _
      have hb1 := below_grown hsz hnx hown hgrow
      clear hgrow hown hnx
      go_wp2
      go_ret
      exact ⟨v', P ++ [s.extract fr s.size], rfl, by simpa using hown', HE.out, hb1⟩

end Go.Proofs.YtnmclolbndohiaaDoor
