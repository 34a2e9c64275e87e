/-
  The walk of the code's 'checkItem'.
-/
import Derived.Test.YtnmclolbndohiaaGreatDoorT21
import Derived.BigQuiet
import Derived.Test.YtnmclolbndohiaaGreatDoorT12
import Derived.Test.YtnmclolbndohiaaGreatDoorT07
import Derived.Lib.SplitLaws
namespace Go.Proofs.YtnmclolbndohiaaGreatDoor
open Go.RowKit
open Ver

def CItemEnds (ok : Bool) (kd : Int) (yp yf : ByteArray) (e : Ending) : Prop :=
  ∃ (k' : Int) (p' f' : ByteArray) (er : Value), e = .returned (.tuple #[.agg #[.int .i64 k', .string p', .string f'], er]) ∧ (ok = false → ∃ t p, er = .iface t p) ∧ (ok = true → er = .nilIface ∧ k' = kd ∧ p' = yp ∧ f' = yf)
theorem citem_no {ok : Bool} {kd : Int} {yp yf : ByteArray} {t : TypeId} {p : Value} (h : ok = false) : CItemEnds ok kd yp yf (.returned (.tuple #[.agg #[.int .i64 0, .string ⟨#[]⟩, .string ⟨#[]⟩], .iface t p])) :=
  ⟨0, ⟨#[]⟩, ⟨#[]⟩, .iface t p, rfl, ⟨fun _ => ⟨t, p, rfl⟩, fun h' => (by rw [h] at h'; cases h')⟩⟩
theorem citem_yes {ok : Bool} {kd : Int} {yp yf : ByteArray} (h : ok = true) : CItemEnds ok kd yp yf (.returned (.tuple #[.agg #[.int .i64 kd, .string yp, .string yf], .nilIface])) :=
  ⟨kd, yp, yf, .nilIface, rfl, ⟨fun h' => (by rw [h] at h'; cases h'), fun _ => ⟨rfl, rfl, rfl, rfl⟩⟩⟩

set_option maxHeartbeats 1600000 in
set_option maxRecDepth 100000 in
theorem checkItem_any (kd : Int) (yp yf : ByteArray) (g cap n : Nat) (P : List ByteArray) (w : World) (HL : Hid (n = P.length)) (hn : n ≤ 1048576) (hg : g < w.heap.size) (HC : Hid (∀ j (h : j < P.length), w.cell? ⟨g, j, none⟩ = some (.string P[j]))) (S : Sent w) :
    Calls Tryz.prog 210 #[.agg #[.int .i64 kd, .string yp, .string yf], .slice (some ⟨g, 0, none⟩) n cap] w fun e w' => CItemEnds (P.all fun x => nameL x.data.toList) kd yp yf e ∧ Below w.heap.size w w' := by
  have HS : Hid (Sent w) := S
  have hb0 : Below w.heap.size w ((w.alloc (.cells #[.int .i64 kd, .string yp, .string yf] 303)).alloc (.cells #[.int .i64 0, .string ⟨#[]⟩, .string ⟨#[]⟩] 303)) := ((Below.refl _ _).alloc (Nat.le_refl _) _).alloc (by simp) _
  have HB0 : Hid (Below w.heap.size w ((w.alloc (.cells #[.int .i64 kd, .string yp, .string yf] 303)).alloc (.cells #[.int .i64 0, .string ⟨#[]⟩, .string ⟨#[]⟩] 303))) := hb0
  have HALL : Hid (∀ k, (h : k < P.length) → nameL P[k].data.toList = false → (P.all fun x => nameL x.data.toList) = false) := fun k h hx => by
    rw [List.all_eq_false]
    exact ⟨P[k], List.getElem_mem _, by simp [hx]⟩
  have HYES : Hid ((∀ k, (h : k < P.length) → nameL P[k].data.toList = true) → (P.all fun x => nameL x.data.toList) = true) := fun h => by
    rw [List.all_eq_true]
    intro x hx
    obtain ⟨k, hk, rfl⟩ := List.getElem_of_mem hx
    exact h k hk
  generalize (P.all fun x => nameL x.data.toList) = ok at *
  clear S hb0
  go_enter Tryz.func210, Tryz.ntmps210
  go_wp2
  go_loopw [10] (fun i wr => ∃ k : Nat, k ≤ n ∧ i = .int .i64 k ∧ Below (w.heap.size + 1 + 1) ((w.alloc (.cells #[.int .i64 kd, .string yp, .string yf] 303)).alloc (.cells #[.int .i64 0, .string ⟨#[]⟩, .string ⟨#[]⟩] 303)) wr ∧ ∀ j, (h : j < P.length) → j < k → nameL P[j].data.toList = true) (fun i _ => n - (intOf i).toNat)
  case atStart => exact ⟨0, by omega, rfl, Below.refl _ _, fun j _ h => by omega⟩
  case round =>
    obtain ⟨k, hk, rfl, hb, hnm⟩ := hrel
    have HNM : Hid (∀ j, (h : j < P.length) → j < k → nameL P[j].data.toList = true) := hnm
    have HB : Hid (Below w.heap.size w wr) := HB0.out.trans (hb.mono (by omega))
    have hsz : w.heap.size + 1 + 1 ≤ wr.heap.size := by have := hb.size; simp at this; omega
    have hi : ∀ o, wr.cell? ⟨w.heap.size, o, none⟩ = #[Value.int .i64 kd, .string yp, .string yf][o]? := fun o => by
      rw [hb.cell (p := ⟨w.heap.size, o, none⟩) (by show w.heap.size < _; omega)]
      exact (World.cell?_alloc_past _ _ _ (by simp)).trans (World.cell?_alloc_at _ _ _ _ rfl)
    have hz : ∀ o, wr.cell? ⟨w.heap.size + 1, o, none⟩ = #[Value.int .i64 0, .string ⟨#[]⟩, .string ⟨#[]⟩][o]? := fun o => by
      rw [hb.cell (p := ⟨w.heap.size + 1, o, none⟩) (by show w.heap.size + 1 < _; omega)]
      exact World.cell?_alloc_at _ _ _ _ (by simp)
    have hf : ∀ o, wr.frozen? ⟨w.heap.size + 1, o, none⟩ = false := fun o => by
      rw [hb.frozen (p := ⟨w.heap.size + 1, o, none⟩) (by show w.heap.size + 1 < _; omega)]
      exact World.frozen?_alloc_at _ _ _ _ (by simp)
    have HB2 : Hid (Below (w.heap.size + 1 + 1) ((w.alloc (.cells #[.int .i64 kd, .string yp, .string yf] 303)).alloc (.cells #[.int .i64 0, .string ⟨#[]⟩, .string ⟨#[]⟩] 303)) wr) := hb
    have HZ : Hid (∀ o, wr.cell? ⟨w.heap.size + 1, o, none⟩ = #[Value.int .i64 0, .string ⟨#[]⟩, .string ⟨#[]⟩][o]?) := hz
    have HF : Hid (∀ o, wr.frozen? ⟨w.heap.size + 1, o, none⟩ = false) := hf
    have HI : Hid (∀ o, wr.cell? ⟨w.heap.size, o, none⟩ = #[Value.int .i64 kd, .string yp, .string yf][o]?) := hi
    clear hnm hi hz hf hb HB0
    by_cases hlt : k < n
    · have hkP : k < P.length := by rw [← HL.out]; exact hlt
      have hck : wr.cell? ⟨g, k, none⟩ = some (.string P[k]) := (HB.out.cell (p := ⟨g, k, none⟩) hg).trans (HC.out k hkP)
      have HX : Hid (∀ w : World, Calls Tryz.prog 125 #[.string P[k]] w fun e w' => e = .returned (.bool (nameL P[k].data.toList)) ∧ Below w.heap.size w w') := fun w => isName_any P[k] w
      have HNO : Hid (nameL P[k].data.toList = false → ok = false) := HALL.out k hkP
      have HUP : Hid (nameL P[k].data.toList = true → ∀ j, (h : j < P.length) → j < k + 1 → nameL P[j].data.toList = true) := fun hx j h hj => by
        by_cases e : j = k
        · subst e; exact hx
        · exact HNM.out j h (by omega)
      generalize P[k] = x at *
      clear HNM HALL
      go_wp2_with fail
      refine (HX.out _).mono ?_
      rintro e w2 ⟨rfl, hb2⟩
      have HB3 : Hid (Below w.heap.size w w2) := HB.out.trans (hb2.mono (by omega))
      cases hx : nameL x.data.toList
      · have HE : Hid (ok = false) := HNO.out hx
        have r0 := (hb2.cell (p := ⟨w.heap.size + 1, 0, none⟩) (by show w.heap.size + 1 < _; omega)).trans (HZ.out 0)
        have r1 := (hb2.cell (p := ⟨w.heap.size + 1, 1, none⟩) (by show w.heap.size + 1 < _; omega)).trans (HZ.out 1)
        have r2 := (hb2.cell (p := ⟨w.heap.size + 1, 2, none⟩) (by show w.heap.size + 1 < _; omega)).trans (HZ.out 2)
        have z0 := (hb2.frozen (p := ⟨w.heap.size + 1, 0, none⟩) (by show w.heap.size + 1 < _; omega)).trans (HF.out 0)
        have z1 := (hb2.frozen (p := ⟨w.heap.size + 1, 1, none⟩) (by show w.heap.size + 1 < _; omega)).trans (HF.out 1)
        have z2 := (hb2.frozen (p := ⟨w.heap.size + 1, 2, none⟩) (by show w.heap.size + 1 < _; omega)).trans (HF.out 2)
        simp at r0 r1 r2
        obtain ⟨t, p, hc⟩ := (HS.out.on HB3.out).cell 22 (by decide)
        have hgl := HS.out.lt 22 (by decide)
        have hs2 := hb2.size
        clear hb2 HX HNO HUP HZ HF HI HB2 hx hck
        go_wp2
        go_region
        all_goals (try go_wp2)
        all_goals exact bodyPost_ret (v := .tuple #[.agg #[.int .i64 0, .string ⟨#[]⟩, .string ⟨#[]⟩], .iface t p]) (by simp [results, Tryz.results210, go_sem, r0, r1, r2]) rfl ⟨citem_no HE.out, (((HB3.out.setCell (Nat.le_succ _) _).setCell (Nat.le_succ _) _).setCell (Nat.le_succ _) _).drew⟩
      · have HU := HUP.out hx
        have HU' : Hid (∀ j, (h : j < P.length) → j < k + 1 → nameL P[j].data.toList = true) := HU
        have HB5 : Hid (Below (w.heap.size + 1 + 1) ((w.alloc (.cells #[.int .i64 kd, .string yp, .string yf] 303)).alloc (.cells #[.int .i64 0, .string ⟨#[]⟩, .string ⟨#[]⟩] 303)) w2) := HB2.out.trans (hb2.mono (by omega))
        clear hb2 HX HNO HUP HZ HF HI HB2 hx hck HU
        go_wp2
        go_roundw
        case rel => exact ⟨k + 1, by omega, by go_num, HB5.out, HU'.out⟩
        case measure => simp [intOf]; omega
    · have HE : Hid (ok = true) := HYES.out (fun j h => HNM.out j h (by have := HL.out; omega))
      have r0 := HZ.out 0
      have r1 := HZ.out 1
      have r2 := HZ.out 2
      have i0 := HI.out 0
      have i1 := HI.out 1
      have i2 := HI.out 2
      have z0 := HF.out 0
      have z1 := HF.out 1
      have z2 := HF.out 2
      simp at r0 r1 r2 i0 i1 i2
      clear HZ HF HI HB2 HNM HALL HYES
      go_wp2
      exact bodyPost_ret (v := .tuple #[.agg #[.int .i64 kd, .string yp, .string yf], .nilIface]) (by simp [results, Tryz.results210, go_sem, r0, r1, r2]) rfl ⟨citem_yes HE.out, ((HB.out.setCell (Nat.le_succ _) _).setCell (Nat.le_succ _) _).setCell (Nat.le_succ _) _⟩

end Go.Proofs.YtnmclolbndohiaaGreatDoor

/-
  The walk of the code's 'parseItem'.
-/
namespace Go.Proofs.YtnmclolbndohiaaGreatDoor
open Go.RowKit
open Ver

def CItem.abs (y : CItem) : List UInt8 × List UInt8 × Bool := (y.pack.data.toList, y.feat.data.toList, decide (y.kind = 3))
structure CItem.Ok (y : CItem) : Prop where
  own : y.kind = 0 ↔ y.pack.data.toList = []
  dep : y.kind = 1 ↔ (y.pack.data.toList ≠ [] ∧ y.feat.data.toList = [])
def PItemEnds (l : List UInt8) (e : Ending) : Prop :=
  ∃ (k' : Int) (p' f' : ByteArray) (er : Value), e = .returned (.tuple #[.agg #[.int .i64 k', .string p', .string f'], er]) ∧ ((itemL l).2 = false → ∃ t p, er = .iface t p) ∧ ((itemL l).2 = true → er = .nilIface ∧ CItem.abs ⟨k', p', f'⟩ = (itemL l).1 ∧ CItem.Ok ⟨k', p', f'⟩)
/-- What a checked item comes to. -/
structure Tells (l : List UInt8) (b : Bool) (kd : Int) (yp yf : ByteArray) : Prop where
  ok : b = (itemL l).2
  is : b = true → CItem.abs ⟨kd, yp, yf⟩ = (itemL l).1 ∧ CItem.Ok ⟨kd, yp, yf⟩
theorem pitem_of {l : List UInt8} {ok : Bool} {kd k' : Int} {yp yf p' f' : ByteArray} {er : Value} (h : Tells l ok kd yp yf) (h1 : ok = false → ∃ t p, er = .iface t p) (h2 : ok = true → er = .nilIface ∧ k' = kd ∧ p' = yp ∧ f' = yf) :
    PItemEnds l (.returned (.tuple #[.agg #[.int .i64 k', .string p', .string f'], er])) := by
  refine ⟨k', p', f', er, rfl, ⟨fun e => h1 (h.ok.trans e), fun e => ?_⟩⟩
  have e' : ok = true := h.ok.trans e
  obtain ⟨a, rfl, rfl, rfl⟩ := h2 e'
  exact ⟨a, (h.is e').1, (h.is e').2⟩

theorem nameL_ne {l : List UInt8} (h : nameL l = true) : l ≠ [] := fun e => by rw [e] at h; cases h
theorem allOk_bad : ∀ (l : List UInt8) (j : Nat) (b : UInt8), b ∈ l → (¬ (97 ≤ (b.toNat : Int) ∧ (b.toNat : Int) ≤ 122)) → (¬ (48 ≤ (b.toNat : Int) ∧ (b.toNat : Int) ≤ 57)) → allOk j l = false
  | [], _, _, h, _, _ => by cases h
  | a :: r, j, b, h, h1, h2 => by
    unfold allOk
    rcases List.mem_cons.1 h with rfl | h
    · have : okAt j b = false := decide_eq_false (fun h => h.elim h1 (fun h => h2 h.1))
      rw [this]; rfl
    · rw [allOk_bad r (j + 1) b h h1 h2]; simp
theorem nameL_slash {l : List UInt8} (h : 47 ∈ l) : nameL l = false := nameL_no (allOk_bad l 0 47 h (by decide) (by decide))
theorem nameL_colon {l : List UInt8} (h : 58 ∈ l) : nameL l = false := nameL_no (allOk_bad l 0 58 h (by decide) (by decide))

def depW : List UInt8 := [100, 101, 112, 58]
theorem has_dep (l : List UInt8) : Lib.hasPrefix l depW = decide (l.take 4 = depW) := by
  unfold Lib.hasPrefix
  by_cases h : l.take 4 = depW
  · rw [decide_eq_true h, List.isPrefixOf_iff_prefix]
    rw [← h]; exact List.take_prefix _ _
  · rw [decide_eq_false h]
    cases e : depW.isPrefixOf l with
    | false => rfl
    | true =>
      exfalso; apply h
      obtain ⟨t, ht⟩ := List.isPrefixOf_iff_prefix.1 e
      rw [← ht]; rfl
theorem trim_dep {l : List UInt8} (h : l.take 4 = depW) : Lib.trimPrefix l depW = l.drop 4 := by
  unfold Lib.trimPrefix
  rw [has_dep, decide_eq_true h, if_pos rfl]; rfl
theorem has_weak (l : List UInt8) : Lib.hasSuffix l [63] = decide (l ≠ [] ∧ l.getLast? = some 63) := by
  unfold Lib.hasSuffix
  by_cases h : l ≠ [] ∧ l.getLast? = some 63
  · rw [decide_eq_true h, List.isSuffixOf_iff_suffix]
    refine ⟨l.dropLast, ?_⟩
    have h1 := List.dropLast_concat_getLast h.1
    have h2 : l.getLast h.1 = 63 := by have := h.2; rw [List.getLast?_eq_some_getLast h.1] at this; exact Option.some.inj this
    rw [h2] at h1; exact h1
  · rw [decide_eq_false h]
    cases e : [63].isSuffixOf l with
    | false => rfl
    | true =>
      exfalso; apply h
      obtain ⟨t, ht⟩ := List.isSuffixOf_iff_suffix.1 e
      rw [← ht]; simp
theorem trim_weak {l : List UInt8} (h : l ≠ [] ∧ l.getLast? = some 63) : Lib.trimSuffix l [63] = l.dropLast := by
  unfold Lib.trimSuffix
  rw [has_weak, decide_eq_true h, if_pos rfl, List.dropLast_eq_take]; rfl

theorem tells_dep {l : List UInt8} {y : ByteArray} (h : l.take 4 = depW) (hy : y.data.toList = l.drop 4) : Tells l (nameL (l.drop 4)) 1 y ⟨#[]⟩ := by
  by_cases h4 : 4 < l.length
  · have e : itemL l = ((l.drop 4, [], false), nameL (l.drop 4)) := by unfold itemL; rw [if_pos ⟨h4, h⟩]
    refine ⟨by rw [e], fun hn => ⟨?_, ⟨?_, ?_⟩⟩⟩
    · rw [e]; simp [CItem.abs, hy]
    · have := nameL_ne hn
      simp only [hy]; exact ⟨fun h => by simp at h, fun h => absurd h this⟩
    · refine ⟨fun _ => ⟨?_, rfl⟩, fun _ => rfl⟩
      show y.data.toList ≠ []
      rw [hy]; exact nameL_ne hn
  · have h58 : 58 ∈ l := by
      have : (58 : UInt8) ∈ l.take 4 := by rw [h]; decide
      exact List.mem_of_mem_take this
    have e1 : l.drop 4 = [] := List.drop_of_length_le (by omega)
    have e2 : (itemL l).2 = false := by
      unfold itemL
      rw [if_neg (fun h => h4 h.1)]
      rcases idx_split 47 l with ⟨_, hc⟩ | ⟨p, r, hl, hp, _⟩
      · rw [hc]; exact nameL_colon h58
      · exfalso
        have : l.length ≤ 4 := by omega
        have h47 : (47 : UInt8) ∈ l := by rw [hl]; simp
        have e3 : l = depW := by rw [← h, List.take_of_length_le this]
        rw [e3] at h47
        revert h47; decide
    refine ⟨by rw [e1, e2]; rfl, fun hn => ?_⟩
    rw [e1] at hn; cases hn
theorem tells_own {l : List UInt8} {y : ByteArray} (h : ¬ l.take 4 = depW) (hc : cutL 47 l = [l]) (hy : y.data.toList = l) : Tells l (nameL l) 0 ⟨#[]⟩ y := by
  have e := itemL_one (fun h' => h h'.2) hc
  refine ⟨by rw [e], fun _ => ⟨?_, ⟨?_, ?_⟩⟩⟩
  · rw [e]; simp [CItem.abs, hy]
  · exact ⟨fun _ => rfl, fun _ => rfl⟩
  · exact ⟨fun h => by simp at h, fun h => absurd rfl h.1⟩
/-- Cut once, and cut wholly. -/
theorem cut_tail {p r : List UInt8} (hp : ∀ b ∈ p, b ≠ 47) : ∃ f t, cutL 47 (p ++ 47 :: r) = p :: f :: t ∧ (t = [] → f = r) ∧ (t ≠ [] → 47 ∈ r) := by
  rw [cutL_hit 47 p r hp]
  rcases idx_split 47 r with ⟨_, hc⟩ | ⟨q, s, hr, hq, _⟩
  · exact ⟨r, [], (by rw [hc]), ⟨fun _ => rfl, fun h => absurd rfl h⟩⟩
  · cases hcs : cutL 47 s with
    | nil => exact absurd hcs (cutL_ne 47 s)
    | cons a b =>
      exact ⟨q, a :: b, (by rw [hr, cutL_hit 47 q s hq, hcs]), ⟨fun h => (by cases h), fun _ => (by rw [hr]; simp)⟩⟩
theorem tells_weak {p r : List UInt8} {yp yf : ByteArray} (h : ¬ (p ++ 47 :: r).take 4 = depW) (hp : ∀ b ∈ p, b ≠ 47) (hw : p ≠ [] ∧ p.getLast? = some 63) (hy : yp.data.toList = p.dropLast) (hf : yf.data.toList = r) :
    Tells (p ++ 47 :: r) (nameL p.dropLast && nameL r) 3 yp yf := by
  obtain ⟨f, t, hc, h1, h2⟩ := cut_tail (r := r) hp
  have e := itemL_weak (fun h' => h h'.2) hc hw
  cases t with
  | nil =>
    obtain rfl := h1 rfl
    refine ⟨by rw [e]; simp, fun hn => ?_⟩
    obtain ⟨n1, n2⟩ := Bool.and_eq_true_iff.1 hn
    refine ⟨by rw [e]; simp [CItem.abs, hy, hf], ⟨?_, ?_⟩⟩
    · simp only [hy]; exact ⟨fun h => by simp at h, fun h => absurd h (nameL_ne n1)⟩
    · simp only [hf]; exact ⟨fun h => by simp at h, fun h => absurd h.2 (nameL_ne n2)⟩
  | cons a b =>
    have hr := nameL_slash (h2 (by simp))
    refine ⟨by rw [e, hr]; simp, fun hn => ?_⟩
    rw [hr] at hn; simp at hn
theorem tells_with {p r : List UInt8} {yp yf : ByteArray} (h : ¬ (p ++ 47 :: r).take 4 = depW) (hp : ∀ b ∈ p, b ≠ 47) (hw : ¬ (p ≠ [] ∧ p.getLast? = some 63)) (hy : yp.data.toList = p) (hf : yf.data.toList = r) :
    Tells (p ++ 47 :: r) (nameL p && nameL r) 2 yp yf := by
  obtain ⟨f, t, hc, h1, h2⟩ := cut_tail (r := r) hp
  have e := itemL_plain (fun h' => h h'.2) hc hw
  cases t with
  | nil =>
    obtain rfl := h1 rfl
    refine ⟨by rw [e]; simp, fun hn => ?_⟩
    obtain ⟨n1, n2⟩ := Bool.and_eq_true_iff.1 hn
    refine ⟨by rw [e]; simp [CItem.abs, hy, hf], ⟨?_, ?_⟩⟩
    · simp only [hy]; exact ⟨fun h => by simp at h, fun h => absurd h (nameL_ne n1)⟩
    · simp only [hf]; exact ⟨fun h => by simp at h, fun h => absurd h.2 (nameL_ne n2)⟩
  | cons a b =>
    have hr := nameL_slash (h2 (by simp))
    refine ⟨by rw [e, hr]; simp, fun hn => ?_⟩
    rw [hr] at hn; simp at hn

end Go.Proofs.YtnmclolbndohiaaGreatDoor

/-
  The walk of the code's 'parseItem'. (Written by gen_pitem.py.)
-/
namespace Go.Proofs.YtnmclolbndohiaaGreatDoor
open Go.RowKit
open Ver

theorem below3' {w w2 : World} (hb : Below w.heap.size w w2) (x0 x1 x2 : Value) : Below w.heap.size w (((w2.setCell ⟨w.heap.size, 0, none⟩ x0).setCell ⟨w.heap.size, 1, none⟩ x1).setCell ⟨w.heap.size, 2, none⟩ x2) :=
  ((hb.setCell (Nat.le_refl _) _).setCell (Nat.le_refl _) _).setCell (Nat.le_refl _) _

set_option maxHeartbeats 1600000 in
set_option maxRecDepth 100000 in
theorem pitem_dep (s : ByteArray) (w : World) (h : s.data.toList.take 4 = depW) (S : Sent w) :
    Calls Tryz.prog 183 #[.string s] w fun e w' => PItemEnds s.data.toList e ∧ Below w.heap.size w w' := by
  have HS : Hid (Sent w) := S
  have HZ0 : Hid (∀ o, (w.alloc (.cells #[Value.int .i64 0, .string ⟨#[]⟩, .string ⟨#[]⟩] 303)).cell? ⟨w.heap.size, o, none⟩ = #[Value.int .i64 0, .string ⟨#[]⟩, .string ⟨#[]⟩][o]?) := fun o => World.cell?_alloc_at _ _ _ _ rfl
  have HF0 : Hid (∀ o, (w.alloc (.cells #[Value.int .i64 0, .string ⟨#[]⟩, .string ⟨#[]⟩] 303)).frozen? ⟨w.heap.size, o, none⟩ = false) := fun o => World.frozen?_alloc_at _ _ _ _ rfl
  have HB0 : Hid (Below w.heap.size w (w.alloc (.cells #[Value.int .i64 0, .string ⟨#[]⟩, .string ⟨#[]⟩] 303))) := (Below.refl _ _).alloc (Nat.le_refl _) _
  have HPX : Hid (∀ w : World, Calls Tryz.prog 162 #[.string s, .string ⟨#[100, 101, 112, 58]⟩] w fun e w' => e = .returned (.tuple #[.string ⟨(s.data.toList.drop 4).toArray⟩, .bool true]) ∧ w' = w) := fun w => by
    have := Tryz.strings_CutPrefix s ⟨#[100, 101, 112, 58]⟩ w
    rw [show (⟨#[100, 101, 112, 58]⟩ : ByteArray).data.toList = depW from rfl, trim_dep h, has_dep, decide_eq_true h] at this
    exact this
  have HD1 : Hid (((⟨(s.data.toList.drop 4).toArray⟩ : ByteArray).data.toList) = s.data.toList.drop 4) := by show _ = _; simp
  have HD2 : Hid (True) := trivial
  have HT : Hid (Tells s.data.toList (nameL (s.data.toList.drop 4)) 1 ⟨(s.data.toList.drop 4).toArray⟩ ⟨#[]⟩) := tells_dep h HD1.out
  generalize (⟨(s.data.toList.drop 4).toArray⟩ : ByteArray) = y at *
  clear h
  have HCK : Hid (∀ (W : World) (B : Nat), W.heap.size = B → Below w.heap.size w W → Calls Tryz.prog 210 #[.agg #[.int .i64 1, .string y, .string ⟨#[]⟩], .slice (some ⟨B, 0, none⟩) 1 1] (W.alloc (.cells #[.string y] 9)) fun e w' => CItemEnds (nameL (s.data.toList.drop 4)) 1 y ⟨#[]⟩ e ∧ Below (B + 1) (W.alloc (.cells #[.string y] 9)) w') := fun W B hWB hW => by
    subst hWB
    have hb := hW.alloc hW.size (.cells #[.string y] 9)
    have := checkItem_any 1 y ⟨#[]⟩ W.heap.size 1 1 [y] (W.alloc (.cells #[.string y] 9)) rfl (by omega) (by simp) (fun j h => by
      rw [World.cell?_alloc_at _ _ _ _ rfl]
      match j, h with
      | 0, _ => rfl) (HS.out.on hb)
    rw [World.size_alloc] at this
    refine this.mono fun e w' h => ⟨?_, h.2⟩
    have e1 : ([y].all fun x => nameL x.data.toList) = (nameL (s.data.toList.drop 4)) := by simp [HD1.out]
    rw [e1] at h; exact h.1
  generalize (nameL (s.data.toList.drop 4)) = ok at *
  clear S HD1 HD2
  go_enter Tryz.func183, Tryz.ntmps183
  go_wp2_with fail
  refine (HPX.out _).mono ?_
  rintro e w' ⟨rfl, rfl⟩
  have HBW : Hid (_) := HB0
  have HZW : Hid (_) := HZ0
  have HFW : Hid (_) := HF0
  have hlw : w.heap.size < (w.alloc (.cells #[Value.int .i64 0, .string ⟨#[]⟩, .string ⟨#[]⟩] 303)).heap.size := by simp
  go_wp2_with fail
  refine (HCK.out _ (w.heap.size + 1) (by simp) HBW.out).mono ?_
  rintro e w3 ⟨⟨k', p', f', er, rfl, h1, h2⟩, hb3⟩
  have HB3 : Hid (Below w.heap.size w w3) := (HBW.out.alloc HBW.out.size _).trans (hb3.mono (by omega))
  have hz : ∀ o, w3.cell? ⟨w.heap.size, o, none⟩ = #[Value.int .i64 0, .string ⟨#[]⟩, .string ⟨#[]⟩][o]? := fun o => by
    rw [hb3.cell (p := ⟨w.heap.size, o, none⟩) (by show w.heap.size < _; omega)]
    exact (World.cell?_alloc_past _ _ _ hlw).trans (HZW.out o)
  have hf : ∀ o, w3.frozen? ⟨w.heap.size, o, none⟩ = false := fun o => by
    rw [hb3.frozen (p := ⟨w.heap.size, o, none⟩) (by show w.heap.size < _; omega)]
    exact (World.frozen?_alloc_past _ _ _ hlw).trans (HFW.out o)
  have r0 := hz 0
  have r1 := hz 1
  have r2 := hz 2
  simp at r0 r1 r2
  have z0 := hf 0
  have z1 := hf 1
  have z2 := hf 2
  have hsw : w.heap.size < w3.heap.size := by have := hb3.size; simp at this; omega
  have HE : Hid (PItemEnds s.data.toList (.returned (.tuple #[.agg #[.int .i64 k', .string p', .string f'], er]))) := pitem_of HT.out h1 h2
  clear hz hf hb3 h1 h2 HCK HT HZW HFW HBW
  go_wp2
  exact bodyPost_ret (v := .tuple #[.agg #[.int .i64 k', .string p', .string f'], er]) (by simp [results, Tryz.results183, go_sem, r0, r1, r2]) rfl ⟨HE.out, below3' HB3.out _ _ _⟩

set_option maxHeartbeats 1600000 in
set_option maxRecDepth 100000 in
theorem pitem_own (s : ByteArray) (w : World) (m : Int) (hs : s.size ≤ 1048576) (hm : w.cell? ⟨16, 0, none⟩ = some (.int .i64 m)) (hml : 16 < w.heap.size) (h : ¬ s.data.toList.take 4 = depW) (hi : Lib.index s.data.toList [47] = -1) (hc : cutL 47 s.data.toList = [s.data.toList]) (S : Sent w) :
    Calls Tryz.prog 183 #[.string s] w fun e w' => PItemEnds s.data.toList e ∧ Below w.heap.size w w' := by
  have HS : Hid (Sent w) := S
  have HZ0 : Hid (∀ o, (w.alloc (.cells #[Value.int .i64 0, .string ⟨#[]⟩, .string ⟨#[]⟩] 303)).cell? ⟨w.heap.size, o, none⟩ = #[Value.int .i64 0, .string ⟨#[]⟩, .string ⟨#[]⟩][o]?) := fun o => World.cell?_alloc_at _ _ _ _ rfl
  have HF0 : Hid (∀ o, (w.alloc (.cells #[Value.int .i64 0, .string ⟨#[]⟩, .string ⟨#[]⟩] 303)).frozen? ⟨w.heap.size, o, none⟩ = false) := fun o => World.frozen?_alloc_at _ _ _ _ rfl
  have HB0 : Hid (Below w.heap.size w (w.alloc (.cells #[Value.int .i64 0, .string ⟨#[]⟩, .string ⟨#[]⟩] 303))) := (Below.refl _ _).alloc (Nat.le_refl _) _
  have HPX : Hid (∀ w : World, Calls Tryz.prog 162 #[.string s, .string ⟨#[100, 101, 112, 58]⟩] w fun e w' => e = .returned (.tuple #[.string s, .bool false]) ∧ w' = w) := fun w => by
    have := Tryz.strings_CutPrefix s ⟨#[100, 101, 112, 58]⟩ w
    rw [show (⟨#[100, 101, 112, 58]⟩ : ByteArray).data.toList = depW from rfl, has_dep, decide_eq_false h] at this
    have e : Lib.trimPrefix s.data.toList depW = s.data.toList := by unfold Lib.trimPrefix; rw [has_dep, decide_eq_false h]; rfl
    rw [e] at this
    simpa using this
  have hcut : Lib.cut s.data.toList [47] = (s.data.toList, [], false) := by unfold Lib.cut; rw [hi]; rfl
  have HCT : Hid (∀ w : World, w.cell? ⟨16, 0, none⟩ = some (.int .i64 m) → Calls Tryz.prog 81 #[.string s, .string ⟨#[47]⟩] w fun e w' => e = .returned (.tuple #[.string s, .string ⟨#[]⟩, .bool false]) ∧ ∃ n, w' = w.drewN n) := fun w hw => by
    have := Tryz.strings_Cut s ⟨#[47]⟩ m w (by omega) hw
    rw [show (⟨#[47]⟩ : ByteArray).data.toList = [47] from rfl, hcut] at this
    simpa using this
  have HM : Hid ((w.alloc (.cells #[Value.int .i64 0, .string ⟨#[]⟩, .string ⟨#[]⟩] 303)).cell? ⟨16, 0, none⟩ = some (.int .i64 m)) := (HB0.out.cell (p := ⟨16, 0, none⟩) hml).trans hm
  have HD1 : Hid (True) := trivial
  have HD2 : Hid (True) := trivial
  have HT : Hid (Tells s.data.toList (nameL s.data.toList) 0 ⟨#[]⟩ s) := tells_own h hc rfl
  clear h hcut hi hc hm
  have HCK : Hid (∀ (W : World) (B : Nat), W.heap.size = B → Below w.heap.size w W → Calls Tryz.prog 210 #[.agg #[.int .i64 0, .string ⟨#[]⟩, .string s], .slice (some ⟨B, 0, none⟩) 1 1] (W.alloc (.cells #[.string s] 9)) fun e w' => CItemEnds (nameL s.data.toList) 0 ⟨#[]⟩ s e ∧ Below (B + 1) (W.alloc (.cells #[.string s] 9)) w') := fun W B hWB hW => by
    subst hWB
    have hb := hW.alloc hW.size (.cells #[.string s] 9)
    have := checkItem_any 0 ⟨#[]⟩ s W.heap.size 1 1 [s] (W.alloc (.cells #[.string s] 9)) rfl (by omega) (by simp) (fun j h => by
      rw [World.cell?_alloc_at _ _ _ _ rfl]
      match j, h with
      | 0, _ => rfl) (HS.out.on hb)
    rw [World.size_alloc] at this
    refine this.mono fun e w' h => ⟨?_, h.2⟩
    have e1 : ([s].all fun x => nameL x.data.toList) = (nameL s.data.toList) := by simp []
    rw [e1] at h; exact h.1
  generalize (nameL s.data.toList) = ok at *
  clear S HD1 HD2
  go_enter Tryz.func183, Tryz.ntmps183
  go_wp2_with fail
  refine (HPX.out _).mono ?_
  rintro e w' ⟨rfl, rfl⟩
  go_wp2_with fail
  refine (HCT.out _ HM.out).mono ?_
  rintro e w' ⟨rfl, nq, rfl⟩
  have HBW : Hid (Below w.heap.size w ((w.alloc (.cells #[Value.int .i64 0, .string ⟨#[]⟩, .string ⟨#[]⟩] 303)).drewN nq)) := HB0.out.trans ((below_drewN _ _).mono HB0.out.size)
  have HZW : Hid (∀ o, ((w.alloc (.cells #[Value.int .i64 0, .string ⟨#[]⟩, .string ⟨#[]⟩] 303)).drewN nq).cell? ⟨w.heap.size, o, none⟩ = #[Value.int .i64 0, .string ⟨#[]⟩, .string ⟨#[]⟩][o]?) := fun o => HZ0.out o
  have HFW : Hid (∀ o, ((w.alloc (.cells #[Value.int .i64 0, .string ⟨#[]⟩, .string ⟨#[]⟩] 303)).drewN nq).frozen? ⟨w.heap.size, o, none⟩ = false) := fun o => HF0.out o
  have hlw : w.heap.size < ((w.alloc (.cells #[Value.int .i64 0, .string ⟨#[]⟩, .string ⟨#[]⟩] 303)).drewN nq).heap.size := by simp
  go_wp2_with fail
  refine (HCK.out _ (w.heap.size + 1) (by simp) HBW.out).mono ?_
  rintro e w3 ⟨⟨k', p', f', er, rfl, h1, h2⟩, hb3⟩
  have HB3 : Hid (Below w.heap.size w w3) := (HBW.out.alloc HBW.out.size _).trans (hb3.mono (by omega))
  have hz : ∀ o, w3.cell? ⟨w.heap.size, o, none⟩ = #[Value.int .i64 0, .string ⟨#[]⟩, .string ⟨#[]⟩][o]? := fun o => by
    rw [hb3.cell (p := ⟨w.heap.size, o, none⟩) (by show w.heap.size < _; omega)]
    exact (World.cell?_alloc_past _ _ _ hlw).trans (HZW.out o)
  have hf : ∀ o, w3.frozen? ⟨w.heap.size, o, none⟩ = false := fun o => by
    rw [hb3.frozen (p := ⟨w.heap.size, o, none⟩) (by show w.heap.size < _; omega)]
    exact (World.frozen?_alloc_past _ _ _ hlw).trans (HFW.out o)
  have r0 := hz 0
  have r1 := hz 1
  have r2 := hz 2
  simp at r0 r1 r2
  have z0 := hf 0
  have z1 := hf 1
  have z2 := hf 2
  have hsw : w.heap.size < w3.heap.size := by have := hb3.size; simp at this; omega
  have HE : Hid (PItemEnds s.data.toList (.returned (.tuple #[.agg #[.int .i64 k', .string p', .string f'], er]))) := pitem_of HT.out h1 h2
  clear hz hf hb3 h1 h2 HCK HT HZW HFW HBW
  go_wp2
  exact bodyPost_ret (v := .tuple #[.agg #[.int .i64 k', .string p', .string f'], er]) (by simp [results, Tryz.results183, go_sem, r0, r1, r2]) rfl ⟨HE.out, below3' HB3.out _ _ _⟩

set_option maxHeartbeats 1600000 in
set_option maxRecDepth 100000 in
theorem pitem_weak (s : ByteArray) (w : World) (m : Int) (hs : s.size ≤ 1048576) (hm : w.cell? ⟨16, 0, none⟩ = some (.int .i64 m)) (hml : 16 < w.heap.size) (h : ¬ s.data.toList.take 4 = depW) (p r : List UInt8) (hl : s.data.toList = p ++ 47 :: r) (hp : ∀ b ∈ p, b ≠ 47) (hi : Lib.index s.data.toList [47] = p.length) (hw : p ≠ [] ∧ p.getLast? = some 63) (S : Sent w) :
    Calls Tryz.prog 183 #[.string s] w fun e w' => PItemEnds s.data.toList e ∧ Below w.heap.size w w' := by
  have HS : Hid (Sent w) := S
  have HZ0 : Hid (∀ o, (w.alloc (.cells #[Value.int .i64 0, .string ⟨#[]⟩, .string ⟨#[]⟩] 303)).cell? ⟨w.heap.size, o, none⟩ = #[Value.int .i64 0, .string ⟨#[]⟩, .string ⟨#[]⟩][o]?) := fun o => World.cell?_alloc_at _ _ _ _ rfl
  have HF0 : Hid (∀ o, (w.alloc (.cells #[Value.int .i64 0, .string ⟨#[]⟩, .string ⟨#[]⟩] 303)).frozen? ⟨w.heap.size, o, none⟩ = false) := fun o => World.frozen?_alloc_at _ _ _ _ rfl
  have HB0 : Hid (Below w.heap.size w (w.alloc (.cells #[Value.int .i64 0, .string ⟨#[]⟩, .string ⟨#[]⟩] 303))) := (Below.refl _ _).alloc (Nat.le_refl _) _
  have HPX : Hid (∀ w : World, Calls Tryz.prog 162 #[.string s, .string ⟨#[100, 101, 112, 58]⟩] w fun e w' => e = .returned (.tuple #[.string s, .bool false]) ∧ w' = w) := fun w => by
    have := Tryz.strings_CutPrefix s ⟨#[100, 101, 112, 58]⟩ w
    rw [show (⟨#[100, 101, 112, 58]⟩ : ByteArray).data.toList = depW from rfl, has_dep, decide_eq_false h] at this
    have e : Lib.trimPrefix s.data.toList depW = s.data.toList := by unfold Lib.trimPrefix; rw [has_dep, decide_eq_false h]; rfl
    rw [e] at this
    simpa using this
  have hcut : Lib.cut s.data.toList [47] = (p, r, true) := by
    unfold Lib.cut
    rw [hi, if_pos (by omega), hl]
    simp
  obtain ⟨pB, hpB⟩ : ∃ x : ByteArray, x = ⟨p.toArray⟩ := ⟨_, rfl⟩
  obtain ⟨rB, hrB⟩ : ∃ x : ByteArray, x = ⟨r.toArray⟩ := ⟨_, rfl⟩
  have hpd : pB.data.toList = p := by rw [hpB]
  have hrd : rB.data.toList = r := by rw [hrB]
  have hps : pB.size ≤ 1048576 := by
    have e : pB.data.toList.length = pB.size := by simp
    have e1 : p.length ≤ s.data.toList.length := by rw [hl]; simp
    have e2 : s.data.toList.length = s.size := by simp
    rw [hpd] at e; omega
  have HCT : Hid (∀ w : World, w.cell? ⟨16, 0, none⟩ = some (.int .i64 m) → Calls Tryz.prog 81 #[.string s, .string ⟨#[47]⟩] w fun e w' => e = .returned (.tuple #[.string pB, .string rB, .bool true]) ∧ ∃ n, w' = w.drewN n) := fun w hw => by
    have := Tryz.strings_Cut s ⟨#[47]⟩ m w (by omega) hw
    rw [show (⟨#[47]⟩ : ByteArray).data.toList = [47] from rfl, hcut] at this
    rw [hpB, hrB]; exact this
  have HM : Hid ((w.alloc (.cells #[Value.int .i64 0, .string ⟨#[]⟩, .string ⟨#[]⟩] 303)).cell? ⟨16, 0, none⟩ = some (.int .i64 m)) := (HB0.out.cell (p := ⟨16, 0, none⟩) hml).trans hm
  have HSX : Hid (∀ w : World, Calls Tryz.prog 211 #[.string pB, .string ⟨#[63]⟩] w fun e w' => e = .returned (.tuple #[.string ⟨p.dropLast.toArray⟩, .bool true]) ∧ w' = w) := fun w => by
    have := Tryz.strings_CutSuffix pB ⟨#[63]⟩ w (by omega)
    rw [show (⟨#[63]⟩ : ByteArray).data.toList = [63] from rfl, hpd, trim_weak hw, has_weak, decide_eq_true hw] at this
    exact this
  obtain ⟨y, hyB⟩ : ∃ x : ByteArray, x = ⟨p.dropLast.toArray⟩ := ⟨_, rfl⟩
  have hyd : y.data.toList = p.dropLast := by rw [hyB]
  rw [← hyB] at HSX
  have HD1 : Hid (y.data.toList = p.dropLast) := hyd
  have HD2 : Hid (rB.data.toList = r) := hrd
  have HT : Hid (Tells s.data.toList (nameL p.dropLast && nameL r) 3 y rB) := by have := tells_weak (yp := y) (yf := rB) (by rw [← hl]; exact h) hp hw hyd hrd; rw [← hl] at this; exact this
  clear h hcut hi hm hpB hrB hyB hpd hrd hyd hw hp hl hps
  have HCK : Hid (∀ (W : World) (B : Nat), W.heap.size = B → Below w.heap.size w W → Calls Tryz.prog 210 #[.agg #[.int .i64 3, .string y, .string rB], .slice (some ⟨B, 0, none⟩) 2 2] (W.alloc (.cells #[.string y, .string rB] 9)) fun e w' => CItemEnds (nameL p.dropLast && nameL r) 3 y rB e ∧ Below (B + 1) (W.alloc (.cells #[.string y, .string rB] 9)) w') := fun W B hWB hW => by
    subst hWB
    have hb := hW.alloc hW.size (.cells #[.string y, .string rB] 9)
    have := checkItem_any 3 y rB W.heap.size 2 2 [y, rB] (W.alloc (.cells #[.string y, .string rB] 9)) rfl (by omega) (by simp) (fun j h => by
      rw [World.cell?_alloc_at _ _ _ _ rfl]
      match j, h with
      | 0, _ => rfl
      | 1, _ => rfl) (HS.out.on hb)
    rw [World.size_alloc] at this
    refine this.mono fun e w' h => ⟨?_, h.2⟩
    have e1 : ([y, rB].all fun x => nameL x.data.toList) = (nameL p.dropLast && nameL r) := by simp [HD1.out, HD2.out]
    rw [e1] at h; exact h.1
  generalize (nameL p.dropLast && nameL r) = ok at *
  clear S HD1 HD2
  go_enter Tryz.func183, Tryz.ntmps183
  go_wp2_with fail
  refine (HPX.out _).mono ?_
  rintro e w' ⟨rfl, rfl⟩
  go_wp2_with fail
  refine (HCT.out _ HM.out).mono ?_
  rintro e w' ⟨rfl, nq, rfl⟩
  have HBW : Hid (Below w.heap.size w ((w.alloc (.cells #[Value.int .i64 0, .string ⟨#[]⟩, .string ⟨#[]⟩] 303)).drewN nq)) := HB0.out.trans ((below_drewN _ _).mono HB0.out.size)
  have HZW : Hid (∀ o, ((w.alloc (.cells #[Value.int .i64 0, .string ⟨#[]⟩, .string ⟨#[]⟩] 303)).drewN nq).cell? ⟨w.heap.size, o, none⟩ = #[Value.int .i64 0, .string ⟨#[]⟩, .string ⟨#[]⟩][o]?) := fun o => HZ0.out o
  have HFW : Hid (∀ o, ((w.alloc (.cells #[Value.int .i64 0, .string ⟨#[]⟩, .string ⟨#[]⟩] 303)).drewN nq).frozen? ⟨w.heap.size, o, none⟩ = false) := fun o => HF0.out o
  have hlw : w.heap.size < ((w.alloc (.cells #[Value.int .i64 0, .string ⟨#[]⟩, .string ⟨#[]⟩] 303)).drewN nq).heap.size := by simp
  go_wp2_with fail
  refine (HSX.out _).mono ?_
  rintro e w' ⟨rfl, rfl⟩
  go_wp2_with fail
  refine (HCK.out _ (w.heap.size + 1) (by simp) HBW.out).mono ?_
  rintro e w3 ⟨⟨k', p', f', er, rfl, h1, h2⟩, hb3⟩
  have HB3 : Hid (Below w.heap.size w w3) := (HBW.out.alloc HBW.out.size _).trans (hb3.mono (by omega))
  have hz : ∀ o, w3.cell? ⟨w.heap.size, o, none⟩ = #[Value.int .i64 0, .string ⟨#[]⟩, .string ⟨#[]⟩][o]? := fun o => by
    rw [hb3.cell (p := ⟨w.heap.size, o, none⟩) (by show w.heap.size < _; omega)]
    exact (World.cell?_alloc_past _ _ _ hlw).trans (HZW.out o)
  have hf : ∀ o, w3.frozen? ⟨w.heap.size, o, none⟩ = false := fun o => by
    rw [hb3.frozen (p := ⟨w.heap.size, o, none⟩) (by show w.heap.size < _; omega)]
    exact (World.frozen?_alloc_past _ _ _ hlw).trans (HFW.out o)
  have r0 := hz 0
  have r1 := hz 1
  have r2 := hz 2
  simp at r0 r1 r2
  have z0 := hf 0
  have z1 := hf 1
  have z2 := hf 2
  have hsw : w.heap.size < w3.heap.size := by have := hb3.size; simp at this; omega
  have HE : Hid (PItemEnds s.data.toList (.returned (.tuple #[.agg #[.int .i64 k', .string p', .string f'], er]))) := pitem_of HT.out h1 h2
  clear hz hf hb3 h1 h2 HCK HT HZW HFW HBW
  go_wp2
  exact bodyPost_ret (v := .tuple #[.agg #[.int .i64 k', .string p', .string f'], er]) (by simp [results, Tryz.results183, go_sem, r0, r1, r2]) rfl ⟨HE.out, below3' HB3.out _ _ _⟩

set_option maxHeartbeats 1600000 in
set_option maxRecDepth 100000 in
theorem pitem_with (s : ByteArray) (w : World) (m : Int) (hs : s.size ≤ 1048576) (hm : w.cell? ⟨16, 0, none⟩ = some (.int .i64 m)) (hml : 16 < w.heap.size) (h : ¬ s.data.toList.take 4 = depW) (p r : List UInt8) (hl : s.data.toList = p ++ 47 :: r) (hp : ∀ b ∈ p, b ≠ 47) (hi : Lib.index s.data.toList [47] = p.length) (hw : ¬ (p ≠ [] ∧ p.getLast? = some 63)) (S : Sent w) :
    Calls Tryz.prog 183 #[.string s] w fun e w' => PItemEnds s.data.toList e ∧ Below w.heap.size w w' := by
  have HS : Hid (Sent w) := S
  have HZ0 : Hid (∀ o, (w.alloc (.cells #[Value.int .i64 0, .string ⟨#[]⟩, .string ⟨#[]⟩] 303)).cell? ⟨w.heap.size, o, none⟩ = #[Value.int .i64 0, .string ⟨#[]⟩, .string ⟨#[]⟩][o]?) := fun o => World.cell?_alloc_at _ _ _ _ rfl
  have HF0 : Hid (∀ o, (w.alloc (.cells #[Value.int .i64 0, .string ⟨#[]⟩, .string ⟨#[]⟩] 303)).frozen? ⟨w.heap.size, o, none⟩ = false) := fun o => World.frozen?_alloc_at _ _ _ _ rfl
  have HB0 : Hid (Below w.heap.size w (w.alloc (.cells #[Value.int .i64 0, .string ⟨#[]⟩, .string ⟨#[]⟩] 303))) := (Below.refl _ _).alloc (Nat.le_refl _) _
  have HPX : Hid (∀ w : World, Calls Tryz.prog 162 #[.string s, .string ⟨#[100, 101, 112, 58]⟩] w fun e w' => e = .returned (.tuple #[.string s, .bool false]) ∧ w' = w) := fun w => by
    have := Tryz.strings_CutPrefix s ⟨#[100, 101, 112, 58]⟩ w
    rw [show (⟨#[100, 101, 112, 58]⟩ : ByteArray).data.toList = depW from rfl, has_dep, decide_eq_false h] at this
    have e : Lib.trimPrefix s.data.toList depW = s.data.toList := by unfold Lib.trimPrefix; rw [has_dep, decide_eq_false h]; rfl
    rw [e] at this
    simpa using this
  have hcut : Lib.cut s.data.toList [47] = (p, r, true) := by
    unfold Lib.cut
    rw [hi, if_pos (by omega), hl]
    simp
  obtain ⟨pB, hpB⟩ : ∃ x : ByteArray, x = ⟨p.toArray⟩ := ⟨_, rfl⟩
  obtain ⟨rB, hrB⟩ : ∃ x : ByteArray, x = ⟨r.toArray⟩ := ⟨_, rfl⟩
  have hpd : pB.data.toList = p := by rw [hpB]
  have hrd : rB.data.toList = r := by rw [hrB]
  have hps : pB.size ≤ 1048576 := by
    have e : pB.data.toList.length = pB.size := by simp
    have e1 : p.length ≤ s.data.toList.length := by rw [hl]; simp
    have e2 : s.data.toList.length = s.size := by simp
    rw [hpd] at e; omega
  have HCT : Hid (∀ w : World, w.cell? ⟨16, 0, none⟩ = some (.int .i64 m) → Calls Tryz.prog 81 #[.string s, .string ⟨#[47]⟩] w fun e w' => e = .returned (.tuple #[.string pB, .string rB, .bool true]) ∧ ∃ n, w' = w.drewN n) := fun w hw => by
    have := Tryz.strings_Cut s ⟨#[47]⟩ m w (by omega) hw
    rw [show (⟨#[47]⟩ : ByteArray).data.toList = [47] from rfl, hcut] at this
    rw [hpB, hrB]; exact this
  have HM : Hid ((w.alloc (.cells #[Value.int .i64 0, .string ⟨#[]⟩, .string ⟨#[]⟩] 303)).cell? ⟨16, 0, none⟩ = some (.int .i64 m)) := (HB0.out.cell (p := ⟨16, 0, none⟩) hml).trans hm
  have HSX : Hid (∀ w : World, Calls Tryz.prog 211 #[.string pB, .string ⟨#[63]⟩] w fun e w' => e = .returned (.tuple #[.string ⟨(Lib.trimSuffix p [63]).toArray⟩, .bool false]) ∧ w' = w) := fun w => by
    have := Tryz.strings_CutSuffix pB ⟨#[63]⟩ w (by omega)
    rw [show (⟨#[63]⟩ : ByteArray).data.toList = [63] from rfl, hpd, has_weak, decide_eq_false hw] at this
    exact this
  generalize (⟨(Lib.trimSuffix p [63]).toArray⟩ : ByteArray) = y0 at *
  have HD1 : Hid (pB.data.toList = p) := hpd
  have HD2 : Hid (rB.data.toList = r) := hrd
  have HT : Hid (Tells s.data.toList (nameL p && nameL r) 2 pB rB) := by have := tells_with (yp := pB) (yf := rB) (by rw [← hl]; exact h) hp hw hpd hrd; rw [← hl] at this; exact this
  clear h hcut hi hm hpB hrB hpd hrd hw hp hl hps
  have HCK : Hid (∀ (W : World) (B : Nat), W.heap.size = B → Below w.heap.size w W → Calls Tryz.prog 210 #[.agg #[.int .i64 2, .string pB, .string rB], .slice (some ⟨B, 0, none⟩) 2 2] (W.alloc (.cells #[.string pB, .string rB] 9)) fun e w' => CItemEnds (nameL p && nameL r) 2 pB rB e ∧ Below (B + 1) (W.alloc (.cells #[.string pB, .string rB] 9)) w') := fun W B hWB hW => by
    subst hWB
    have hb := hW.alloc hW.size (.cells #[.string pB, .string rB] 9)
    have := checkItem_any 2 pB rB W.heap.size 2 2 [pB, rB] (W.alloc (.cells #[.string pB, .string rB] 9)) rfl (by omega) (by simp) (fun j h => by
      rw [World.cell?_alloc_at _ _ _ _ rfl]
      match j, h with
      | 0, _ => rfl
      | 1, _ => rfl) (HS.out.on hb)
    rw [World.size_alloc] at this
    refine this.mono fun e w' h => ⟨?_, h.2⟩
    have e1 : ([pB, rB].all fun x => nameL x.data.toList) = (nameL p && nameL r) := by simp [HD1.out, HD2.out]
    rw [e1] at h; exact h.1
  generalize (nameL p && nameL r) = ok at *
  clear S HD1 HD2
  go_enter Tryz.func183, Tryz.ntmps183
  go_wp2_with fail
  refine (HPX.out _).mono ?_
  rintro e w' ⟨rfl, rfl⟩
  go_wp2_with fail
  refine (HCT.out _ HM.out).mono ?_
  rintro e w' ⟨rfl, nq, rfl⟩
  have HBW : Hid (Below w.heap.size w ((w.alloc (.cells #[Value.int .i64 0, .string ⟨#[]⟩, .string ⟨#[]⟩] 303)).drewN nq)) := HB0.out.trans ((below_drewN _ _).mono HB0.out.size)
  have HZW : Hid (∀ o, ((w.alloc (.cells #[Value.int .i64 0, .string ⟨#[]⟩, .string ⟨#[]⟩] 303)).drewN nq).cell? ⟨w.heap.size, o, none⟩ = #[Value.int .i64 0, .string ⟨#[]⟩, .string ⟨#[]⟩][o]?) := fun o => HZ0.out o
  have HFW : Hid (∀ o, ((w.alloc (.cells #[Value.int .i64 0, .string ⟨#[]⟩, .string ⟨#[]⟩] 303)).drewN nq).frozen? ⟨w.heap.size, o, none⟩ = false) := fun o => HF0.out o
  have hlw : w.heap.size < ((w.alloc (.cells #[Value.int .i64 0, .string ⟨#[]⟩, .string ⟨#[]⟩] 303)).drewN nq).heap.size := by simp
  go_wp2_with fail
  refine (HSX.out _).mono ?_
  rintro e w' ⟨rfl, rfl⟩
  go_wp2_with fail
  refine (HCK.out _ (w.heap.size + 1) (by simp) HBW.out).mono ?_
  rintro e w3 ⟨⟨k', p', f', er, rfl, h1, h2⟩, hb3⟩
  have HB3 : Hid (Below w.heap.size w w3) := (HBW.out.alloc HBW.out.size _).trans (hb3.mono (by omega))
  have hz : ∀ o, w3.cell? ⟨w.heap.size, o, none⟩ = #[Value.int .i64 0, .string ⟨#[]⟩, .string ⟨#[]⟩][o]? := fun o => by
    rw [hb3.cell (p := ⟨w.heap.size, o, none⟩) (by show w.heap.size < _; omega)]
    exact (World.cell?_alloc_past _ _ _ hlw).trans (HZW.out o)
  have hf : ∀ o, w3.frozen? ⟨w.heap.size, o, none⟩ = false := fun o => by
    rw [hb3.frozen (p := ⟨w.heap.size, o, none⟩) (by show w.heap.size < _; omega)]
    exact (World.frozen?_alloc_past _ _ _ hlw).trans (HFW.out o)
  have r0 := hz 0
  have r1 := hz 1
  have r2 := hz 2
  simp at r0 r1 r2
  have z0 := hf 0
  have z1 := hf 1
  have z2 := hf 2
  have hsw : w.heap.size < w3.heap.size := by have := hb3.size; simp at this; omega
  have HE : Hid (PItemEnds s.data.toList (.returned (.tuple #[.agg #[.int .i64 k', .string p', .string f'], er]))) := pitem_of HT.out h1 h2
  clear hz hf hb3 h1 h2 HCK HT HZW HFW HBW
  go_wp2
  exact bodyPost_ret (v := .tuple #[.agg #[.int .i64 k', .string p', .string f'], er]) (by simp [results, Tryz.results183, go_sem, r0, r1, r2]) rfl ⟨HE.out, below3' HB3.out _ _ _⟩

theorem parseItem_any (s : ByteArray) (w : World) (m : Int) (hs : s.size ≤ 1048576) (hm : w.cell? ⟨16, 0, none⟩ = some (.int .i64 m)) (hml : 16 < w.heap.size) (S : Sent w) :
    Calls Tryz.prog 183 #[.string s] w fun e w' => PItemEnds s.data.toList e ∧ Below w.heap.size w w' := by
  by_cases h : s.data.toList.take 4 = depW
  · exact pitem_dep s w h S
  · rcases idx_split 47 s.data.toList with ⟨hi, hc⟩ | ⟨p, r, hl, hp, hi⟩
    · exact pitem_own s w m hs hm hml h hi hc S
    · by_cases hw : p ≠ [] ∧ p.getLast? = some 63
      · exact pitem_weak s w m hs hm hml h p r hl hp hi hw S
      · exact pitem_with s w m hs hm hml h p r hl hp hi hw S

end Go.Proofs.YtnmclolbndohiaaGreatDoor

/-
  strings.Split at a space, strings.Clone: as the code calls them.
-/
namespace Go.Proofs.YtnmclolbndohiaaGreatDoor
open Go.RowKit
open Ver

theorem count_cut (c : UInt8) (sep : ByteArray) (hsep : sep.data.toList = [c]) : ∀ (k : Nat) (s : ByteArray), s.size ≤ k → (cutL c s.data.toList).length = Lib.countB s sep + 1 := by
  have h1 : sep.size = 1 := by have e : sep.data.toList.length = sep.size := by simp
                               rw [hsep] at e; simpa using e.symm
  intro k
  induction k with
  | zero =>
    intro s hs
    have e0 : s.data.toList.length = s.size := by simp
    have e : s.data.toList = [] := List.length_eq_zero_iff.1 (by omega)
    have hi : Lib.indexB s sep = -1 := by
      show Lib.index s.data.toList sep.data.toList = -1
      rw [e, hsep]; rfl
    rw [Lib.countB_miss s sep hi, e]; rfl
  | succ k ih =>
    intro s hs
    rcases idx_split c s.data.toList with ⟨hi, hc⟩ | ⟨p, r, hl, hp, hi⟩
    · have hi' : Lib.indexB s sep = -1 := by
        show Lib.index s.data.toList sep.data.toList = -1
        rw [hsep]; exact hi
      rw [Lib.countB_miss s sep hi', hc]; rfl
    · have hi' : Lib.indexB s sep = (p.length : Nat) := by
        show Lib.index s.data.toList sep.data.toList = _
        rw [hsep]; exact hi
      rw [Lib.countB_hit s sep p.length (by omega) hi']
      have hd : (s.extract (p.length + sep.size) s.size).data.toList = r := by
        rw [Lib.extract_to_end, h1, hl]; simp
      have hsz : s.size = p.length + 1 + r.length := by
        have e : s.data.toList.length = s.size := by simp
        rw [hl] at e; simp at e; omega
      have hsz2 : (s.extract (p.length + sep.size) s.size).size = r.length := by
        have e : (s.extract (p.length + sep.size) s.size).data.toList.length = (s.extract (p.length + sep.size) s.size).size := by simp
        rw [hd] at e; exact e.symm
      have := ih (s.extract (p.length + sep.size) s.size) (by omega)
      rw [hd] at this
      rw [hl, cutL_hit c p r hp, List.length_cons, this]; omega

theorem split_any (s : ByteArray) (m : Int) (w : World) (hs : s.size ≤ 1048576) (hm : w.cell? ⟨16, 0, none⟩ = some (.int .i64 m)) :
    Calls Tryz.prog 82 #[.string s, .string ⟨#[32]⟩] w fun e w' => ∃ P : List ByteArray, e = .returned (.slice (some ⟨w.heap.size, 0, none⟩) P.length P.length) ∧ datas P = cutL 32 s.data.toList ∧ w'.ownsRow w.heap.size 9 1 (.slice (some ⟨w.heap.size, 0, none⟩) P.length P.length) P.length (P.map Value.string) ∧ w'.heap.size = w.heap.size + 1 ∧ Below w.heap.size w w' := by
  have hl := Lib.splitB_all ⟨#[32]⟩ (by decide) 0 _ s rfl
  have hcc := count_cut 32 ⟨#[32]⟩ rfl _ s (Nat.le_refl _)
  have hle := cutL_len 32 s.data.toList
  have hsz : s.data.toList.length = s.size := by simp
  refine (Tryz.strings_Split s ⟨#[32]⟩ m w (by omega) hm (by decide)).mono ?_
  rintro e w' ⟨rfl, rfl⟩
  refine ⟨Lib.splitB ⟨#[32]⟩ 0 (Lib.countB s ⟨#[32]⟩) s, by rw [hl], ?_, ?_, by simp, (Below.refl _ _).alloc (Nat.le_refl _) _⟩
  · have hd := Lib.splitB_data ⟨#[32]⟩ 0 (Lib.countB s ⟨#[32]⟩) s
    rw [show (⟨#[32]⟩ : ByteArray).data.toList = [32] from rfl, (splitK_cut 32 _ s.data.toList).1 (by omega)] at hd
    exact hd
  · refine ⟨by simp, Or.inr ⟨w.heap.size, _, _, rfl, Nat.le_refl _, heap_alloc_new w _, Nat.le_refl _, by unfold maxLen; omega, by simp, List.take_of_length_le (by simp)⟩⟩

theorem clone_any (s : ByteArray) (w : World) (hs : s.size ≤ 1048576) :
    Calls Tryz.prog 83 #[.string s] w fun e w' => e = .returned (.string s) ∧ Below w.heap.size w w' := by
  have HC : Hid (∀ w : World, Calls Tryz.prog 124 #[.string s] w fun e w' => e = .returned (.string s) ∧ Below w.heap.size w w') := fun w => Tryz.stringslite_Clone s w (by omega)
  go_enter Tryz.func83, Tryz.ntmps83
  go_wp2_with fail
  refine (HC.out _).mono ?_
  rintro e w1 ⟨rfl, hb⟩
  have HB : Hid (Below w.heap.size w w1) := hb
  clear hb
  go_wp2
  go_ret
  exact ⟨rfl, HB.out⟩

end Go.Proofs.YtnmclolbndohiaaGreatDoor
