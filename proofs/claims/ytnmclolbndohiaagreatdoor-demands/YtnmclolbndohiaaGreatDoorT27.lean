/-
  The code's asks.Parse, at any words; what it says beside the reference's 'need'.
-/
import Derived.Test.YtnmclolbndohiaaGreatDoorT23
import Derived.Test.YtnmclolbndohiaaGreatDoorT24
import Derived.Test.YtnmclolbndohiaaGreatDoorT25
import Derived.Test.YtnmclolbndohiaaGreatDoorT26
import Derived.Deep.RegionWith
namespace Go.Proofs.YtnmclolbndohiaaGreatDoor
open Go.RowKit
open Ver

theorem askP_noname {nm dm : List UInt8} {rest : List (List UInt8)} (h : nameL nm = false) : askP (nm :: dm :: rest) = none := by
  unfold askP; simp only; rw [if_neg (fun h' => by rw [h] at h'; exact Bool.noConfusion h'.1)]

theorem ask_any (g o cap : Nat) (P : List ByteArray) (w : World) (t0 t1 : TypeId) (p0 p1 : Value) (m : Int) (hcap : P.length ≤ cap) (hlen : P.length ≤ 1048000) (hg : g < w.heap.size) (HC : ∀ j (h : j < P.length), w.cell? ⟨g, o + j, none⟩ = some (.string P[j]))
    (HSZ : ∀ x ∈ P, x.size ≤ 1048576) (S : Sent w) (G : Glob t0 t1 p0 p1 m w) :
    Calls Tryz.prog 84 #[.slice (some ⟨g, o, none⟩) P.length cap] w fun e w' => AskEnds w.heap.size (askP (datas P)) e w' ∧ Below w.heap.size w w' := by
  match P, hcap, hlen, HC, HSZ with
  | [], _, _, _, _ => exact ask_short g o cap 0 w (by omega) S
  | [a], _, _, _, _ => exact ask_short g o cap 1 w (by omega) S
  | nm :: dm :: Q, hcap, hlen, HC, HSZ =>
    have d0 : w.cell? ⟨g, o, none⟩ = some (.string nm) := HC 0 (by simp)
    have d1 : w.cell? ⟨g, o + 1, none⟩ = some (.string dm) := HC 1 (by simp)
    have hdm := HSZ dm (by simp)
    cases hnm : nameL nm.data.toList
    · have e : askP (datas (nm :: dm :: Q)) = none := askP_noname hnm
      rw [e]
      exact ask_noname g o cap _ nm w (by simp) hg d0 hnm S
    · cases Q with
      | nil => exact ask_none g o cap nm dm w t0 t1 p0 p1 m hcap hg d0 d1 hdm hnm S G
      | cons bw Q =>
        have d2 : w.cell? ⟨g, o + 2, none⟩ = some (.string bw) := HC 2 (by simp)
        have hQ : Q.length ≤ 1048000 := by simp at hlen; omega
        have hQc : ∀ j (h : j < Q.length), w.cell? ⟨g, o + 3 + j, none⟩ = some (.string Q[j]) := fun j h => by
          have := HC (j + 3) (by simp; omega)
          have e : o + (j + 3) = o + 3 + j := by omega
          rw [e] at this
          simpa using this
        by_cases hbw : bw.data.toList = bareW
        · exact ask_bare g o cap nm dm bw Q w t0 t1 p0 p1 m hcap hg d0 d1 d2 hbw hQ hQc hdm hnm S G
        · exact ask_plain g o cap nm dm bw Q w t0 t1 p0 p1 m hcap hg d0 d1 d2 hbw hQ hQc hdm hnm S G

/-! ### Beside 'need' -/
theorem plusAll_len : ∀ (ws fs : List (List UInt8)), plusAll ws = some fs → fs.length = ws.length
  | [], fs, h => by simp [plusAll] at h; subst h; rfl
  | w :: r, fs, h => by
    unfold plusAll at h
    split at h
    · cases hr : plusAll r with
      | none => rw [hr] at h; cases h
      | some zs => rw [hr] at h; cases h; simp [plusAll_len r zs hr]
    · cases h

/-- The words behind 'needs', 'optional' taken out where it may stand: what is asked, and whether it is optional. -/
def codeNeedP (ws : List (List UInt8)) : Option PNeed :=
  if (ws.drop 2).head? = some optW then (askP (ws.take 2 ++ ws.drop 3)).map fun q => { q with opt := true } else askP ws

theorem needP_code (a : List UInt8) (ws : List (List UInt8)) : needP false (a :: ws) = codeNeedP ws := by
  match ws with
  | [] => rfl
  | [x] => simp [needP, codeNeedP, askP]
  | nm :: dm :: rest =>
    have key : ∀ (r : List (List UInt8)) (ob : Bool), (match plusAll (r.drop (bareN r)) with
        | none => none
        | some fs => if nameL nm = true ∧ (demI dm).1 ≠ 0 ∧ fs.length ≤ 5 then some (⟨nm, (demI dm).1, (demI dm).2, ob, decide (bareN r = 1), fs⟩ : PNeed) else none)
        = (askP (nm :: dm :: r)).map fun q => { q with opt := ob } := fun r ob => by
      unfold askP featsP
      simp only
      cases hp : plusAll (r.drop (bareN r)) with
      | none =>
        simp only
        split
        · split <;> rfl
        · rfl
      | some fs =>
        have hl := plusAll_len _ _ hp
        simp only
        by_cases h1 : nameL nm = true ∧ (demI dm).1 ≠ 0
        · rw [if_pos h1]
          by_cases h5 : (r.drop (bareN r)).length ≤ 5
          · rw [if_pos h5, if_pos ⟨h1.1, h1.2, by omega⟩]; rfl
          · rw [if_neg h5, if_neg (fun h => h5 (by omega))]; rfl
        · rw [if_neg h1, if_neg (fun h => h1 ⟨h.1, h.2.1⟩)]; rfl
    unfold codeNeedP
    by_cases ho : rest.head? = some optW
    · have e1 : optN false rest = 1 := by unfold optN; rw [if_pos ⟨ho, rfl⟩]
      have e2 : ((nm :: dm :: rest).drop 2).head? = some optW := ho
      rw [if_pos e2]
      have e3 : (nm :: dm :: rest).take 2 ++ (nm :: dm :: rest).drop 3 = nm :: dm :: rest.drop 1 := by simp
      rw [e3]
      unfold needP
      simp only [e1]
      exact key (rest.drop 1) true
    · have e1 : optN false rest = 0 := by unfold optN; rw [if_neg (fun h => ho h.1)]
      have e2 : ¬ ((nm :: dm :: rest).drop 2).head? = some optW := ho
      rw [if_neg e2]
      unfold needP
      simp only [e1, List.drop_zero]
      have := key rest false
      rw [show decide (0 = 1) = false from rfl]
      refine this.trans ?_
      unfold askP
      simp only
      split
      · cases featsP (rest.drop (bareN rest)) <;> rfl
      · rfl

end Go.Proofs.YtnmclolbndohiaaGreatDoor

/-
  The walk of the code's 'parseNeed'.
-/
namespace Go.Proofs.YtnmclolbndohiaaGreatDoor
open Go.RowKit
open Ver

def NeedCEnds (B : Nat) (r : Option PNeed) (e : Ending) (w' : World) : Prop :=
  ∃ (nm : ByteArray) (st a b c : Int) (bare : Bool) (fa : Option Addr) (fk fc : Nat) (opt : Bool) (er : Value), e = .returned (.tuple #[.agg #[.string nm, .int .i64 st, .int .i64 a, .int .i64 b, .int .i64 c, .bool bare, .slice fa fk fc, .bool opt], er]) ∧
    (r = none → ∃ t p, er = .iface t p) ∧
    ∀ q, r = some q → er = .nilIface ∧ nm.data.toList = q.name ∧ st = stOf q.c q.v ∧ a = q.v / 1000000 ∧ b = q.v / 1000 % 1000 ∧ c = q.v % 1000 ∧ bare = q.bare ∧ opt = q.opt ∧
      ∃ F : List ByteArray, datas F = q.feats ∧ F.length = fk ∧ w'.ownsRow B 9 1 (.slice fa fk fc) F.length (F.map Value.string)
theorem needC_no {B : Nat} {r : Option PNeed} {t : TypeId} {p : Value} {w' : World} (h : r = none) :
    NeedCEnds B r (.returned (.tuple #[.agg #[.string ⟨#[]⟩, .int .i64 0, .int .i64 0, .int .i64 0, .int .i64 0, .bool false, .slice none 0 0, .bool false], .iface t p])) w' :=
  ⟨⟨#[]⟩, 0, 0, 0, 0, false, none, 0, 0, false, .iface t p, rfl, ⟨fun _ => ⟨t, p, rfl⟩, fun q h' => (by rw [h] at h'; cases h')⟩⟩

theorem fin9 {w w4 : World} {B : Nat} {v : Value} {n : Nat} {xs : List Value} (hb : Below w.heap.size w w4) (ho : w4.ownsRow B 9 1 v n xs) (h2 : w.heap.size < B) (x0 x1 x2 x3 x4 x5 x6 x7 : Value) (o : Obj) :
    Below w.heap.size w (((((((((w4.setCell ⟨w.heap.size, 0, none⟩ x0).setCell ⟨w.heap.size, 1, none⟩ x1).setCell ⟨w.heap.size, 2, none⟩ x2).setCell ⟨w.heap.size, 3, none⟩ x3).setCell ⟨w.heap.size, 4, none⟩ x4).setCell ⟨w.heap.size, 5, none⟩ x5).setCell ⟨w.heap.size, 6, none⟩ x6).setCell ⟨w.heap.size, 7, none⟩ x7).alloc o) ∧
    (((((((((w4.setCell ⟨w.heap.size, 0, none⟩ x0).setCell ⟨w.heap.size, 1, none⟩ x1).setCell ⟨w.heap.size, 2, none⟩ x2).setCell ⟨w.heap.size, 3, none⟩ x3).setCell ⟨w.heap.size, 4, none⟩ x4).setCell ⟨w.heap.size, 5, none⟩ x5).setCell ⟨w.heap.size, 6, none⟩ x6).setCell ⟨w.heap.size, 7, none⟩ x7).alloc o).ownsRow w.heap.size 9 1 v n xs := by
  have hl : ∀ o, (⟨w.heap.size, o, none⟩ : Addr).block < B := fun o => by show w.heap.size < _; omega
  refine ⟨((((((((hb.setCell (Nat.le_refl _) _).setCell (Nat.le_refl _) _).setCell (Nat.le_refl _) _).setCell (Nat.le_refl _) _).setCell (Nat.le_refl _) _).setCell (Nat.le_refl _) _).setCell (Nat.le_refl _) _).setCell (Nat.le_refl _) _).alloc (by simp; exact hb.size) _, ?_⟩
  refine ownsRow_low (B := B) ?_ (by omega)
  exact World.ownsRow.alloc (ownsRow_setCell_below (ownsRow_setCell_below (ownsRow_setCell_below (ownsRow_setCell_below (ownsRow_setCell_below (ownsRow_setCell_below (ownsRow_setCell_below (ownsRow_setCell_below ho (hl 0) _) (hl 1) _) (hl 2) _) (hl 3) _) (hl 4) _) (hl 5) _) (hl 6) _) (hl 7) _) _

set_option maxHeartbeats 3200000 in
set_option maxRecDepth 100000 in
theorem needC_plain (g o cap n : Nat) (P : List ByteArray) (w : World) (t0 t1 : TypeId) (p0 p1 : Value) (m : Int) (HL : Hid (n = P.length)) (hcap : n ≤ cap) (hlen : n ≤ 1048000) (hg : g < w.heap.size) (HC : Hid (∀ j (h : j < P.length), w.cell? ⟨g, o + j, none⟩ = some (.string P[j])))
    (HSZ : Hid (∀ x ∈ P, x.size ≤ 1048576)) (S : Sent w) (G : Glob t0 t1 p0 p1 m w) (hopt : n ≤ 2 ∨ ∃ x : ByteArray, 2 < n ∧ w.cell? ⟨g, o + 2, none⟩ = some (.string x) ∧ (x.toList == [111, 112, 116, 105, 111, 110, 97, 108]) = false) (HNP : Hid (codeNeedP (datas P) = (askP (datas P)).map fun q => { q with opt := false })) :
    Calls Tryz.prog 149 #[.slice (some ⟨g, o, none⟩) n cap] w fun e w' => NeedCEnds w.heap.size (codeNeedP (datas P)) e w' ∧ Below w.heap.size w w' := by
  have HPA : Hid (∀ W : World, Below w.heap.size w W → Calls Tryz.prog 84 #[.slice (some ⟨g, o, none⟩) n cap] W fun e w' => AskEnds W.heap.size (askP (datas P)) e w' ∧ Below W.heap.size W w') := fun W hW => by
    have := ask_any g o cap P W t0 t1 p0 p1 m (by rw [← HL.out]; exact hcap) (by rw [← HL.out]; exact hlen) (Nat.lt_of_lt_of_le hg hW.size) (fun j h => (hW.cell (p := ⟨g, o + j, none⟩) hg).trans (HC.out j h)) HSZ.out (S.on hW) (G.on hW G.lt)
    rw [← HL.out] at this; exact this
  have HB0 : Hid (Below w.heap.size w (w.alloc (.cells #[.string ⟨#[]⟩, .int .i64 0, .int .i64 0, .int .i64 0, .int .i64 0, .bool false, .slice none 0 0, .bool false] 264))) := (Below.refl _ _).alloc (Nat.le_refl _) _
  generalize codeNeedP (datas P) = r at *
  generalize askP (datas P) = ar at *
  clear S G
  have k : n ≤ 2 ∧ ¬ (2 : Int) < (n : Int) ∨ ∃ x : ByteArray, (2 : Int) < (n : Int) ∧ w.cell? ⟨g, o + 2, none⟩ = some (.string x) ∧ (x.toList == [111, 112, 116, 105, 111, 110, 97, 108]) = false := by
    rcases hopt with h | ⟨x, h1, h2, h3⟩
    · exact Or.inl ⟨h, by omega⟩
    · exact Or.inr ⟨x, by omega, h2, h3⟩
  clear hopt
  rcases k with ⟨_, k2⟩ | ⟨x, k2, hx, hq⟩
  all_goals (
    go_enter Tryz.func149, Tryz.ntmps149
    go_wp2_with fail
    refine (HPA.out _ HB0.out).mono ?_
    rintro e w1 ⟨⟨nm, st, a, b, c, bare, fa, fk, fc, er, rfl, hno, hyes⟩, hb1⟩
    have HB1 : Hid (Below w.heap.size w w1) := HB0.out.trans (hb1.mono (by simp))
    have hz : ∀ o, w1.cell? ⟨w.heap.size, o, none⟩ = #[Value.string ⟨#[]⟩, .int .i64 0, .int .i64 0, .int .i64 0, .int .i64 0, .bool false, .slice none 0 0, .bool false][o]? := fun o => by
      rw [hb1.cell (p := ⟨w.heap.size, o, none⟩) (by simp)]
      exact World.cell?_alloc_at _ _ _ _ rfl
    have hfz : ∀ o, w1.frozen? ⟨w.heap.size, o, none⟩ = false := fun o => by
      rw [hb1.frozen (p := ⟨w.heap.size, o, none⟩) (by simp)]
      exact World.frozen?_alloc_at _ _ _ _ rfl
    have r0 := hz 0
    have r1 := hz 1
    have r2 := hz 2
    have r3 := hz 3
    have r4 := hz 4
    have r5 := hz 5
    have r6 := hz 6
    have r7 := hz 7
    simp at r0 r1 r2 r3 r4 r5 r6 r7
    have z0 := hfz 0
    have z1 := hfz 1
    have z2 := hfz 2
    have z3 := hfz 3
    have z4 := hfz 4
    have z5 := hfz 5
    have z6 := hfz 6
    have z7 := hfz 7
    have hl1 : w.heap.size < w1.heap.size := by have := hb1.size; simp at this; omega
    rw [World.size_alloc] at hyes
    clear hz hfz hb1 HPA HB0
    cases ar with
    | none =>
      obtain ⟨t, p, rfl⟩ := hno rfl
      have HE : Hid (r = none) := HNP.out
      clear hno hyes HNP
      go_wp2
      exact bodyPost_ret (v := .tuple #[.agg #[.string ⟨#[]⟩, .int .i64 0, .int .i64 0, .int .i64 0, .int .i64 0, .bool false, .slice none 0 0, .bool false], .iface t p]) (by simp [results, Tryz.results149, go_sem, r0, r1, r2, r3, r4, r5, r6, r7, hl1]) rfl ⟨needC_no HE.out, (fin9 HB1.out (World.ownsRow_nil _ (w.heap.size + 1) 9 1) (by omega) _ _ _ _ _ _ _ _ _).1⟩
    | some q =>
      obtain ⟨rfl, e1, e2, e3, e4, e5, e6, F, hF, hFk, hown⟩ := hyes q rfl
      have HE : Hid (r = some { q with opt := false }) := HNP.out
      have HO : Hid (w1.ownsRow (w.heap.size + 1) 9 1 (.slice fa fk fc) F.length (F.map Value.string)) := hown
      have HX : Hid (nm.data.toList = q.name ∧ st = stOf q.c q.v ∧ a = q.v / 1000000 ∧ b = q.v / 1000 % 1000 ∧ c = q.v % 1000 ∧ bare = q.bare ∧ datas F = q.feats ∧ F.length = fk) := ⟨e1, e2, e3, e4, e5, e6, hF, hFk⟩
      clear hno hyes HNP e1 e2 e3 e4 e5 e6 hF hFk hown
      go_wp2
      refine bodyPost_ret (v := .tuple #[.agg #[.string nm, .int .i64 st, .int .i64 a, .int .i64 b, .int .i64 c, .bool bare, .slice fa fk fc, .bool false], .nilIface]) (by simp [results, Tryz.results149, go_sem, r0, r1, r2, r3, r4, r5, r6, r7, hl1]) rfl ⟨?_, (fin9 HB1.out HO.out (by omega) _ _ _ _ _ _ _ _ _).1⟩
      refine ⟨nm, st, a, b, c, bare, fa, fk, fc, false, .nilIface, rfl, ⟨fun h => (by rw [HE.out] at h; cases h), fun q' h => ?_⟩⟩
      rw [HE.out] at h
      obtain rfl := Option.some.inj h
      obtain ⟨x1, x2, x3, x4, x5, x6, x7, x8⟩ := HX.out
      exact ⟨rfl, x1, x2, x3, x4, x5, x6, rfl, F, x7, x8, (fin9 HB1.out HO.out (by omega) _ _ _ _ _ _ _ _ _).2⟩)

end Go.Proofs.YtnmclolbndohiaaGreatDoor
