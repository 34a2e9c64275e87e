/-
  The walk of the code's 'parseNeed', where 'optional' stands behind the demand.
-/
import Derived.Test.YtnmclolbndohiaaGreatDoorT27
import Derived.Deep.DeepCutAuto
import Derived.Test.YtnmclolbndohiaaGreatDoorT29
import Derived.Test.YtnmclolbndohiaaGreatDoorT30
import Derived.Test.YtnmclolbndohiaaGreatDoorT18
import Derived.Deep.RegionLaw
namespace Go.Proofs.YtnmclolbndohiaaGreatDoor
open Go.RowKit
open Ver

theorem ownsRow_cap {w : World} {B : Nat} {e : TypeId} {size n cap g : Nat} {xs : List Value} (h : w.ownsRow B e size (.slice (some ⟨g, 0, none⟩) n cap) n xs) : n ≤ cap := by
  rcases h.2 with ⟨h1, _⟩ | ⟨g', cap', cur, hv, _, _, hle, _⟩
  · cases h1
  · have : g = g' ∧ cap = cap' := by simpa using hv
    omega

set_option maxHeartbeats 3200000 in
set_option maxRecDepth 100000 in
theorem needC_opt (g o cap n : Nat) (wa wb wo : ByteArray) (Q : List ByteArray) (w : World) (t0 t1 : TypeId) (p0 p1 : Value) (m : Int) (HL : Hid (n = Q.length)) (hcap : n + 3 ≤ cap) (hlen : n ≤ 1047000) (hg : g < w.heap.size) (d0 : w.cell? ⟨g, o, none⟩ = some (.string wa)) (d1 : w.cell? ⟨g, o + 1, none⟩ = some (.string wb)) (d2 : w.cell? ⟨g, o + 2, none⟩ = some (.string wo)) (HC : Hid (∀ j (h : j < Q.length), w.cell? ⟨g, o + 3 + j, none⟩ = some (.string Q[j])))
    (HSZ : Hid (∀ x ∈ wa :: wb :: Q, x.size ≤ 1048576)) (S : Sent w) (G : Glob t0 t1 p0 p1 m w) (hq : (wo.toList == [111, 112, 116, 105, 111, 110, 97, 108]) = true) (r : Option PNeed) (HNP : Hid (r = (askP (datas (wa :: wb :: Q))).map fun q => { q with opt := true })) :
    Calls Tryz.prog 149 #[.slice (some ⟨g, o, none⟩) (n + 3) cap] w fun e w' => NeedCEnds w.heap.size r e w' ∧ Below w.heap.size w w' := by
  have k2 : (2 : Int) < ((n + 3 : Nat) : Int) := by omega
  have HCC : Hid (∀ (W : World) (gs oB cA cB : Nat), Below w.heap.size w W → gs < W.heap.size → W.cell? ⟨gs, 0, none⟩ = some (.slice (some ⟨g, o, none⟩) 2 cA) → W.cell? ⟨gs, 1, none⟩ = some (.slice (some ⟨g, oB, none⟩) n cB) → (oB = o + 3 ∨ n = 0) →
      Calls Tryz.prog 182 #[.slice (some ⟨gs, 0, none⟩) 2 2] W fun e w' => ∃ v, e = .returned v ∧ w'.ownsRow W.heap.size 9 1 v ([wa, wb] ++ Q).length (([wa, wb] ++ Q).map Value.string) ∧ Below W.heap.size W w') := fun W gs oB cA cB hW hgs h0 h1 hoB =>
    concat_two g o oB cA cB gs [wa, wb] Q 2 n W rfl HL.out (by omega) (by omega) (by omega) (Nat.lt_of_lt_of_le hg hW.size) hgs h0 h1
      (fun j h => by
        match j, h with
        | 0, _ => exact (hW.cell (p := ⟨g, o, none⟩) hg).trans d0
        | 1, _ => exact (hW.cell (p := ⟨g, o + 1, none⟩) hg).trans d1)
      (fun j h => by
        rcases hoB with e | e
        · rw [e]; exact (hW.cell (p := ⟨g, o + 3 + j, none⟩) hg).trans (HC.out j h)
        · have := HL.out; omega)
  have HPA : Hid (∀ (W : World) (gn cn : Nat), Below w.heap.size w W → gn < W.heap.size → n + 2 ≤ cn → (∀ j (h : j < (wa :: wb :: Q).length), W.cell? ⟨gn, 0 + j, none⟩ = some (.string (wa :: wb :: Q)[j])) → Calls Tryz.prog 84 #[.slice (some ⟨gn, 0, none⟩) (n + 2) cn] W fun e w' => AskEnds W.heap.size (askP (datas (wa :: wb :: Q))) e w' ∧ Below W.heap.size W w') := fun W gn cn hW hgn hcn hcs => by
    have e : (wa :: wb :: Q).length = n + 2 := by have := HL.out; simp; omega
    have := ask_any gn 0 cn (wa :: wb :: Q) W t0 t1 p0 p1 m (by omega) (by omega) hgn hcs HSZ.out (S.on hW) (G.on hW G.lt)
    rw [e] at this; exact this
  have HB0 : Hid (Below w.heap.size w (w.alloc (.cells #[.string ⟨#[]⟩, .int .i64 0, .int .i64 0, .int .i64 0, .int .i64 0, .bool false, .slice none 0 0, .bool false] 264))) := (Below.refl _ _).alloc (Nat.le_refl _) _
  have HCX : Hid (∀ (oB cA cB : Nat), (oB = o + 3 ∨ n = 0) → Calls Tryz.prog 182 #[.slice (some ⟨w.heap.size + 1, 0, none⟩) 2 2] (((w.alloc (.cells #[.string ⟨#[]⟩, .int .i64 0, .int .i64 0, .int .i64 0, .int .i64 0, .bool false, .slice none 0 0, .bool false] 264)).alloc (.cells #[.slice (some ⟨g, o, none⟩) 2 cA, .slice (some ⟨g, oB, none⟩) n cB] 43)).drew) fun e w' => ∃ v, e = .returned v ∧ w'.ownsRow (w.heap.size + 1 + 1) 9 1 v ([wa, wb] ++ Q).length (([wa, wb] ++ Q).map Value.string) ∧ Below (w.heap.size + 1 + 1) (((w.alloc (.cells #[.string ⟨#[]⟩, .int .i64 0, .int .i64 0, .int .i64 0, .int .i64 0, .bool false, .slice none 0 0, .bool false] 264)).alloc (.cells #[.slice (some ⟨g, o, none⟩) 2 cA, .slice (some ⟨g, oB, none⟩) n cB] 43)).drew) w') := fun oB cA cB hoB => by
    have := HCC.out (((w.alloc (.cells #[.string ⟨#[]⟩, .int .i64 0, .int .i64 0, .int .i64 0, .int .i64 0, .bool false, .slice none 0 0, .bool false] 264)).alloc (.cells #[.slice (some ⟨g, o, none⟩) 2 cA, .slice (some ⟨g, oB, none⟩) n cB] 43)).drew) (w.heap.size + 1) oB cA cB ((HB0.out.alloc (by simp) _).drew) (by simp) ((World.cell?_alloc_at _ _ _ _ (by simp)).trans rfl) ((World.cell?_alloc_at _ _ _ _ (by simp)).trans rfl) hoB
    have e : (((w.alloc (.cells #[.string ⟨#[]⟩, .int .i64 0, .int .i64 0, .int .i64 0, .int .i64 0, .bool false, .slice none 0 0, .bool false] 264)).alloc (.cells #[.slice (some ⟨g, o, none⟩) 2 cA, .slice (some ⟨g, oB, none⟩) n cB] 43)).drew).heap.size = w.heap.size + 1 + 1 := by simp
    rw [e] at this; exact this
  have HLL : Hid (([wa, wb] ++ Q).length = n + 2) := by have := HL.out; show _ = _; simp; omega
  generalize askP (datas (wa :: wb :: Q)) = ar at *
  clear S G d0 d1
  have hcz : cap - 3 = 0 ∨ 0 < cap - 3 := by omega
  rcases hcz with hcz | hcz
  all_goals (
    go_enter Tryz.func149, Tryz.ntmps149
    go_upto_region 3 with fail
    go_cut [0] (fun s wx => ∃ gn cn, s = .slice (some ⟨gn, 0, none⟩) (n + 2) cn ∧ n + 2 ≤ cn ∧ gn < wx.heap.size ∧ (∀ j (h : j < (wa :: wb :: Q).length), wx.cell? ⟨gn, 0 + j, none⟩ = some (.string (wa :: wb :: Q)[j])) ∧ Below (w.heap.size + 1) (w.alloc (.cells #[.string ⟨#[]⟩, .int .i64 0, .int .i64 0, .int .i64 0, .int .i64 0, .bool false, .slice none 0 0, .bool false] 264)) wx)
    case first =>
      go_region_with (go_at_call 182; refine Calls.mono (HCX.out _ _ _ ?_) ?_; (first | exact Or.inl rfl | exact Or.inr (by omega)); rintro e w1 ⟨v, rfl, hown, hb1⟩)
      all_goals (
        rw [HLL.out] at hown
        obtain ⟨gn, cn, hv⟩ := ownsRow_some' hown (by omega)
        subst hv
        have hgn := (hown.lt gn rfl)
        have hcn : n + 2 ≤ cn := ownsRow_cap hown
        have HCS : Hid (∀ j (h : j < (wa :: wb :: Q).length), w1.cell? ⟨gn, 0 + j, none⟩ = some (.string (wa :: wb :: Q)[j])) := fun j h => by
          have hj : j < n + 2 := by have := HL.out; simp at h; omega
          rw [Nat.zero_add, World.ownsRow.cellAt hown j (by omega)]
          rw [show [wa, wb] ++ Q = wa :: wb :: Q from rfl, List.getElem?_map, List.getElem?_eq_getElem h]; rfl
        have HBX : Hid (Below (w.heap.size + 1) (w.alloc (.cells #[.string ⟨#[]⟩, .int .i64 0, .int .i64 0, .int .i64 0, .int .i64 0, .bool false, .slice none 0 0, .bool false] 264)) w1) := (((Below.refl _ _).alloc (by simp) _).drew).trans (hb1.mono (by omega))
        have hgn2 := hgn.2
        clear hown hb1 HCC HCX HPA hgn
        go_wp2_with fail
        go_meet
        exact ⟨gn, cn, rfl, hcn, hgn2, HCS.out, HBX.out⟩)
    case rest =>
    obtain ⟨gn, cn, rfl, hcn, hgn, hcs, hbc⟩ := hcut
    have HBC : Hid (Below w.heap.size w wc) := HB0.out.trans (hbc.mono (by omega))
    have hlc : w.heap.size < wc.heap.size := by have := hbc.size; simp at this; omega
    have HZC : Hid (∀ o, wc.cell? ⟨w.heap.size, o, none⟩ = #[Value.string ⟨#[]⟩, .int .i64 0, .int .i64 0, .int .i64 0, .int .i64 0, .bool false, .slice none 0 0, .bool false][o]?) := fun o => by
      rw [hbc.cell (p := ⟨w.heap.size, o, none⟩) (by show w.heap.size < _; omega)]
      exact World.cell?_alloc_at _ _ _ _ rfl
    have HFC : Hid (∀ o, wc.frozen? ⟨w.heap.size, o, none⟩ = false) := fun o => by
      rw [hbc.frozen (p := ⟨w.heap.size, o, none⟩) (by show w.heap.size < _; omega)]
      exact World.frozen?_alloc_at _ _ _ _ rfl
    have HCS : Hid (∀ j (h : j < (wa :: wb :: Q).length), wc.cell? ⟨gn, 0 + j, none⟩ = some (.string (wa :: wb :: Q)[j])) := hcs
    clear hcs hbc HB0 HCC HCX d2
    go_wp2_with fail
    refine (HPA.out _ _ _ HBC.out hgn hcn HCS.out).mono ?_
    rintro e w1 ⟨⟨nm, st, a, b, c, bare, fa, fk, fc, er, rfl, hno, hyes⟩, hb1⟩
    have HB1 : Hid (Below w.heap.size w w1) := HBC.out.trans (hb1.mono HBC.out.size)
    have hz : ∀ o, w1.cell? ⟨w.heap.size, o, none⟩ = #[Value.string ⟨#[]⟩, .int .i64 0, .int .i64 0, .int .i64 0, .int .i64 0, .bool false, .slice none 0 0, .bool false][o]? := fun o => by
      rw [hb1.cell (p := ⟨w.heap.size, o, none⟩) hlc]
      exact HZC.out o
    have hfz : ∀ o, w1.frozen? ⟨w.heap.size, o, none⟩ = false := fun o => by
      rw [hb1.frozen (p := ⟨w.heap.size, o, none⟩) hlc]
      exact HFC.out o
    have r0 := hz 0
    have r1 := hz 1
    have r2 := hz 2
    have r3 := hz 3
    have r4 := hz 4
    have r5 := hz 5
    have r6 := hz 6
    have r7 := hz 7
    simp at r0 r1 r2 r3 r4 r5 r6 r7
    have z0 := hfz 0
    have z1 := hfz 1
    have z2 := hfz 2
    have z3 := hfz 3
    have z4 := hfz 4
    have z5 := hfz 5
    have z6 := hfz 6
    have z7 := hfz 7
    have hl1 : w.heap.size < w1.heap.size := by have := hb1.size; omega
    clear hz hfz hb1 HPA HBC HZC HFC
    cases ar with
    | none =>
      obtain ⟨t, p, rfl⟩ := hno rfl
      have HE : Hid (r = none) := HNP.out
      clear hno hyes HNP
      go_wp2
      exact bodyPost_ret (v := .tuple #[.agg #[.string ⟨#[]⟩, .int .i64 0, .int .i64 0, .int .i64 0, .int .i64 0, .bool false, .slice none 0 0, .bool false], .iface t p]) (by simp [results, Tryz.results149, go_sem, r0, r1, r2, r3, r4, r5, r6, r7, hl1]) rfl ⟨needC_no HE.out, (fin9 HB1.out (World.ownsRow_nil _ (w.heap.size + 1) 9 1) (by omega) _ _ _ _ _ _ _ _ _).1⟩
    | some q =>
      obtain ⟨rfl, e1, e2, e3, e4, e5, e6, F, hF, hFk, hown⟩ := hyes q rfl
      have HE : Hid (r = some { q with opt := true }) := HNP.out
      have HO : Hid (w1.ownsRow wc.heap.size 9 1 (.slice fa fk fc) F.length (F.map Value.string)) := hown
      have HX : Hid (nm.data.toList = q.name ∧ st = stOf q.c q.v ∧ a = q.v / 1000000 ∧ b = q.v / 1000 % 1000 ∧ c = q.v % 1000 ∧ bare = q.bare ∧ datas F = q.feats ∧ F.length = fk) := ⟨e1, e2, e3, e4, e5, e6, hF, hFk⟩
      clear hno hyes HNP e1 e2 e3 e4 e5 e6 hF hFk hown
      go_wp2
      refine bodyPost_ret (v := .tuple #[.agg #[.string nm, .int .i64 st, .int .i64 a, .int .i64 b, .int .i64 c, .bool bare, .slice fa fk fc, .bool true], .nilIface]) (by simp [results, Tryz.results149, go_sem, r0, r1, r2, r3, r4, r5, r6, r7, hl1]) rfl ⟨?_, (fin9 HB1.out HO.out (by omega) _ _ _ _ _ _ _ _ _).1⟩
      refine ⟨nm, st, a, b, c, bare, fa, fk, fc, true, .nilIface, rfl, ⟨fun h => (by rw [HE.out] at h; cases h), fun q' h => ?_⟩⟩
      rw [HE.out] at h
      obtain rfl := Option.some.inj h
      obtain ⟨x1, x2, x3, x4, x5, x6, x7, x8⟩ := HX.out
      exact ⟨rfl, x1, x2, x3, x4, x5, x6, rfl, F, x7, x8, (fin9 HB1.out HO.out (by omega) _ _ _ _ _ _ _ _ _).2⟩)

end Go.Proofs.YtnmclolbndohiaaGreatDoor

/-
  The code's parseNeed and parseFeature, at any words.
-/
namespace Go.Proofs.YtnmclolbndohiaaGreatDoor
open Go.RowKit
open Ver

theorem opt_is {a : ByteArray} (h : a.data.toList = optW) : (a.toList == [111, 112, 116, 105, 111, 110, 97, 108]) = true := by rw [ByteArray.toList_eq, h]; rfl
theorem opt_not {a : ByteArray} (h : a.data.toList ≠ optW) : (a.toList == [111, 112, 116, 105, 111, 110, 97, 108]) = false := by rw [ByteArray.toList_eq]; simpa [optW] using h
theorem askP_opt (ws : List (List UInt8)) : (askP ws).map (fun q => { q with opt := false }) = askP ws := by
  unfold askP
  split
  · split
    · cases featsP _ <;> rfl
    · rfl
  · rfl

theorem parseNeed_any (g o cap : Nat) (P : List ByteArray) (w : World) (t0 t1 : TypeId) (p0 p1 : Value) (m : Int) (hcap : P.length ≤ cap) (hlen : P.length ≤ 1047000) (hg : g < w.heap.size) (HC : ∀ j (h : j < P.length), w.cell? ⟨g, o + j, none⟩ = some (.string P[j]))
    (HSZ : ∀ x ∈ P, x.size ≤ 1048576) (S : Sent w) (G : Glob t0 t1 p0 p1 m w) :
    Calls Tryz.prog 149 #[.slice (some ⟨g, o, none⟩) P.length cap] w fun e w' => NeedCEnds w.heap.size (codeNeedP (datas P)) e w' ∧ Below w.heap.size w w' := by
  by_cases ho : ((datas P).drop 2).head? = some optW
  · match P, hcap, hlen, HC, HSZ, ho with
    | [], _, _, _, _, ho => simp at ho
    | [_], _, _, _, _, ho => simp at ho
    | [_, _], _, _, _, _, ho => simp at ho
    | wa :: wb :: wo :: Q, hcap, hlen, HC, HSZ, ho =>
      have hwo : wo.data.toList = optW := by simpa using ho
      have hr : codeNeedP (datas (wa :: wb :: wo :: Q)) = (askP (datas (wa :: wb :: Q))).map fun q => { q with opt := true } := by
        unfold codeNeedP; rw [if_pos ho]; rfl
      refine needC_opt g o cap Q.length wa wb wo Q w t0 t1 p0 p1 m rfl hcap (by simp at hlen; omega) hg (HC 0 (by simp)) (HC 1 (by simp)) (HC 2 (by simp)) (fun j h => ?_) (fun x hx => HSZ x ?_) S G (opt_is hwo) _ hr
      · have := HC (j + 3) (by simp; omega)
        have e : o + (j + 3) = o + 3 + j := by omega
        rw [e] at this
        simpa using this
      · simp at hx ⊢
        rcases hx with h | h | h
        · exact Or.inl h
        · exact Or.inr (Or.inl h)
        · exact Or.inr (Or.inr (Or.inr h))
  · have hr : codeNeedP (datas P) = (askP (datas P)).map fun q => { q with opt := false } := by
      unfold codeNeedP; rw [if_neg ho, askP_opt]
    refine needC_plain g o cap P.length P w t0 t1 p0 p1 m rfl hcap (by omega) hg HC HSZ S G ?_ hr
    by_cases h2 : P.length ≤ 2
    · exact Or.inl h2
    · have h3 : 2 < P.length := by omega
      refine Or.inr ⟨P[2], h3, HC 2 h3, opt_not (fun e => ho ?_)⟩
      rw [List.head?_drop]
      simp [datas, h3, e]

theorem parseFeature_any (g o cap : Nat) (P : List ByteArray) (w : World) (m : Int) (hcap : P.length ≤ cap) (hlen : P.length ≤ 1047000) (hg : g < w.heap.size) (HC : ∀ j (h : j < P.length), w.cell? ⟨g, o + j, none⟩ = some (.string P[j]))
    (HSZ : ∀ x ∈ P, x.size ≤ 1048576) (hm : w.cell? ⟨16, 0, none⟩ = some (.int .i64 m)) (hml : 16 < w.heap.size) (S : Sent w) :
    Calls Tryz.prog 150 #[.slice (some ⟨g, o, none⟩) P.length cap] w fun e w' => PFeatEnds w.heap.size (pfeatP (datas P)) e w' ∧ Below w.heap.size w w' := by
  match P, hcap, hlen, HC, HSZ with
  | [], _, _, _, _ => exact pfeat_empty g o cap w S
  | nm :: Q, hcap, hlen, HC, HSZ =>
    have d0 : w.cell? ⟨g, o, none⟩ = some (.string nm) := HC 0 (by simp)
    cases hnm : nameL nm.data.toList
    · have e : pfeatP (datas (nm :: Q)) = none := by
        show pfeatP (nm.data.toList :: datas Q) = none
        unfold pfeatP; simp only; rw [if_neg (fun h => by rw [hnm] at h; exact Bool.noConfusion h.1)]
      rw [e]
      exact pfeat_noname g o cap _ nm w (by simp) hg d0 hnm S
    · by_cases h5 : Q.length ≤ 5
      · refine pfeat_go g o cap Q.length nm Q w m rfl h5 hcap hg d0 (fun j h => ?_) (fun x hx => HSZ x (List.mem_cons_of_mem _ hx)) hnm hm hml S
        have := HC (j + 1) (by simp; omega)
        have e : o + (j + 1) = o + 1 + j := by omega
        rw [e] at this
        simpa using this
      · have e : pfeatP (datas (nm :: Q)) = none := by
          show pfeatP (nm.data.toList :: datas Q) = none
          unfold pfeatP; simp only; rw [if_neg (fun h => h5 (by simpa [datas] using h.2))]
        rw [e]
        exact pfeat_many g o cap _ nm w (by simp; omega) (by omega) hg d0 hnm S

end Go.Proofs.YtnmclolbndohiaaGreatDoor

/-
  How the code's reader lies in memory, and what it says beside the reference's index.
-/
namespace Go.Proofs.YtnmclolbndohiaaGreatDoor
open Go.RowKit
open Ver

/-- A struct that a pointer leads to, as a row of one. -/
def boxed (t : TypeId) (sz b : Nat) (xs : List Value) : Hold := ⟨t, sz, .slice (some ⟨b, 0, none⟩) 1 1, 1, xs⟩
theorem boxed_new {B sz : Nat} {w : World} {t : TypeId} {cs : Array Value} (hs : cs.size = sz) (hB : B ≤ w.heap.size) : (boxed t sz w.heap.size cs.toList).own B (w.alloc (.cells cs t)) :=
  ⟨by simp [boxed, hs], Or.inr ⟨w.heap.size, 1, cs, rfl, hB, heap_alloc_new w _, Nat.le_refl _, by unfold maxLen; omega, by simp [boxed, hs], List.take_of_length_le (by simp [boxed, hs])⟩⟩
theorem boxed_cell {B sz b : Nat} {w : World} {t : TypeId} {xs : List Value} (h : (boxed t sz b xs).own B w) (o : Nat) (ho : o < sz) : w.cell? ⟨b, o, none⟩ = xs[o]? := by
  have h' : w.ownsRow B t sz (.slice (some ⟨b, 0, none⟩) 1 1) 1 xs := h
  exact World.ownsRow.cellAt h' o (by omega)
theorem boxed_lt {B sz b : Nat} {w : World} {t : TypeId} {xs : List Value} (h : (boxed t sz b xs).own B w) : B ≤ b ∧ b < w.heap.size := by
  have h' : w.ownsRow B t sz (.slice (some ⟨b, 0, none⟩) 1 1) 1 xs := h
  exact h'.lt b rfl

/-- A line whose names are looked up at the end. -/
structure CMen where
  line : Int
  eb : Nat
  what : CNeed ⊕ CFeat
def CMen.names (x : CMen) : Value := match x.what with
  | .inl n => .iface 264 n.val
  | .inr f => .iface 222 f.val
def CMen.cells (x : CMen) : List Value := [.int .i64 x.line, ptrTo x.eb, x.names]
structure CRd where
  ib : Nat
  pv : Value
  packs : List CPack
  cur : Option Nat
  mv : Value
  mens : List CMen
def CRd.curV (r : CRd) : Value := .pointer (r.cur.map fun b => ⟨b, 0, none⟩)

def CNeed.hold (n : CNeed) : Hold := ⟨9, 1, n.fv, n.feats.length, n.feats.map Value.string⟩
def CFeat.hold (f : CFeat) : Hold := ⟨303, 3, f.iv, f.items.length, f.items.flatMap CItem.cells⟩
def CEnt.hn (e : CEnt) : Hold := ⟨264, 8, e.nv, e.needs.length, e.needs.flatMap CNeed.cells⟩
def CEnt.hf (e : CEnt) : Hold := ⟨222, 2, e.fv, e.feats.length, e.feats.flatMap CFeat.cells⟩
def CEnt.hb (e : CEnt) : Hold := boxed 133 5 e.b e.cells
def CEnt.holds (e : CEnt) : List Hold := e.hb :: e.hn :: e.hf :: (e.needs.map CNeed.hold ++ e.feats.map CFeat.hold)
def CPack.hb (p : CPack) : Hold := boxed 128 2 p.b p.cells
def CPack.he (p : CPack) : Hold := ⟨124, 1, p.ev, p.ents.length, p.ents.map fun e => ptrTo e.b⟩
def CPack.holds (p : CPack) : List Hold := p.hb :: p.he :: p.ents.flatMap CEnt.holds
def CRd.hi (r : CRd) : Hold := boxed 116 1 r.ib [r.pv]
def CRd.hp (r : CRd) : Hold := ⟨129, 1, r.pv, r.packs.length, r.packs.map fun p => ptrTo p.b⟩
def CRd.hm (r : CRd) : Hold := ⟨151, 3, r.mv, r.mens.length, r.mens.flatMap CMen.cells⟩
def CRd.hr (rb : Nat) (r : CRd) : Hold := boxed 147 3 rb [ptrTo r.ib, r.curV, r.mv]
def CRd.holds (rb : Nat) (r : CRd) : List Hold := r.hr rb :: r.hi :: r.hp :: r.hm :: r.packs.flatMap CPack.holds

/-! ### Beside the reference's plain index -/
/-- Two lists, of one length, that go together place by place. -/
structure All2 {α β : Type} (R : α → β → Prop) (l : List α) (m : List β) : Prop where
  len : l.length = m.length
  each : ∀ (i : Nat) (a : α) (b : β), l[i]? = some a → m[i]? = some b → R a b
theorem All2.nil {α β : Type} (R : α → β → Prop) : All2 R [] [] := ⟨rfl, fun i a b h => by simp at h⟩
theorem All2.snoc {α β : Type} {R : α → β → Prop} {l : List α} {m : List β} {a : α} {b : β} (h : All2 R l m) (hr : R a b) : All2 R (l ++ [a]) (m ++ [b]) where
  len := by simp [h.len]
  each := fun i x y hx hy => by
    have hl := h.len
    rcases Nat.lt_or_ge i l.length with hi | hi
    · rw [List.getElem?_append_left hi] at hx
      rw [List.getElem?_append_left (by omega)] at hy
      exact h.each i x y hx hy
    · rw [List.getElem?_append_right hi] at hx
      rw [List.getElem?_append_right (by omega)] at hy
      have e : i - l.length = 0 := by
        rcases Nat.eq_zero_or_pos (i - l.length) with e | e
        · exact e
        · rw [List.getElem?_eq_none (by simp; omega)] at hx; cases hx
      have e' : i - m.length = 0 := by omega
      rw [e] at hx; rw [e'] at hy
      simp at hx hy
      subst hx hy; exact hr
theorem All2.map {α β γ : Type} {R : α → β → Prop} {l : List α} {m : List β} (f : α → γ) (g : β → γ) (h : All2 R l m) (hf : ∀ a b, R a b → f a = g b) : l.map f = m.map g := by
  apply List.ext_getElem?
  intro i
  rw [List.getElem?_map, List.getElem?_map]
  have hl := h.len
  rcases Nat.lt_or_ge i l.length with hi | hi
  · rw [List.getElem?_eq_getElem hi, List.getElem?_eq_getElem (by omega : i < m.length)]
    simp only [Option.map_some]
    exact congrArg some (hf _ _ (h.each i _ _ (List.getElem?_eq_getElem hi) (List.getElem?_eq_getElem (by omega))))
  · rw [List.getElem?_eq_none hi, List.getElem?_eq_none (by omega)]; rfl
structure NeedRel (c : CNeed) (n : PNeed × Int) : Prop where
  name : c.name.data.toList = n.1.name
  opt : c.opt = n.1.opt
  bare : c.bare = n.1.bare
  st : c.st = stOf n.1.c n.1.v
  a : c.a = n.1.v / 1000000
  b : c.b = n.1.v / 1000 % 1000
  d : c.c = n.1.v % 1000
  feats : datas c.feats = n.1.feats
structure FeatRel (c : CFeat) (f : PFeat) : Prop where
  name : c.name.data.toList = f.name
  items : c.items.map CItem.abs = f.items
  ok : ∀ y ∈ c.items, y.Ok
structure EntRel (c : CEnt) (e : PEnt) : Prop where
  lo : 0 ≤ e.ver
  hi : e.ver ≤ 999999999
  v0 : c.v0 = e.ver / 1000000
  v1 : c.v1 = e.ver / 1000 % 1000
  v2 : c.v2 = e.ver % 1000
  needs : All2 NeedRel c.needs e.needs
  feats : All2 FeatRel c.feats e.feats
/-- The packages by their numbers; the entry that began last. -/
structure RdRel (r : CRd) (p : PIdx) : Prop where
  names : (r.packs.map fun q => q.name.data.toList) = p.names
  ents : ∀ (k : Nat) (q : CPack), r.packs[k]? = some q → All2 EntRel q.ents (p.ents.filter fun e => decide (e.pack = (k : Int)))
  packs : ∀ e ∈ p.ents, 0 ≤ e.pack ∧ e.pack < r.packs.length
  cur : match p.ents.getLast? with
    | none => r.cur = none
    | some e => ∃ q c, r.packs[e.pack.toNat]? = some q ∧ q.ents.getLast? = some c ∧ r.cur = some c.b

/-- Two versions are one where their three numbers are. -/
theorem ver_inj {a b : Int} (h0 : a / 1000000 = b / 1000000) (h1 : a / 1000 % 1000 = b / 1000 % 1000) (h2 : a % 1000 = b % 1000) : a = b := by omega

theorem RdRel.start (ib : Nat) : RdRel ⟨ib, .slice none 0 0, [], none, .slice none 0 0, []⟩ ⟨[], []⟩ where
  names := rfl
  ents := fun k q h => by simp at h
  packs := fun e h => by simp at h
  cur := rfl

end Go.Proofs.YtnmclolbndohiaaGreatDoor

/-
  The walk of the code's 'findOrAdd'.
-/
namespace Go.Proofs.YtnmclolbndohiaaGreatDoor
open Go.RowKit
open Ver

/-- The reader at rb, all its rows above B, and R apart from them. -/
structure RdR (B rb : Nat) (R : List Hold) (r : CRd) (w : World) : Prop where
  forest : Forest B w (R ++ r.holds rb)
theorem RdR.on {B rb : Nat} {R : List Hold} {r : CRd} {w w' : World} (h : RdR B rb R r w) (hb : Below w.heap.size w w') : RdR B rb R r w' := ⟨h.forest.on hb⟩
theorem RdR.own {B rb : Nat} {R : List Hold} {r : CRd} {w : World} (h : RdR B rb R r w) {x : Hold} (hx : x ∈ r.holds rb) : x.own B w := h.forest.own x (List.mem_append_right _ hx)
theorem RdR.pack {B rb : Nat} {R : List Hold} {r : CRd} {w : World} (h : RdR B rb R r w) {p : CPack} (hp : p ∈ r.packs) : p.b < w.heap.size ∧ B ≤ p.b ∧ w.cell? ⟨p.b, 0, none⟩ = some (.string p.name) ∧ w.cell? ⟨p.b, 1, none⟩ = some p.ev := by
  have ho : p.hb.own B w := h.own (by
    simp only [CRd.holds, List.mem_cons, List.mem_flatMap]
    exact Or.inr (Or.inr (Or.inr (Or.inr ⟨p, hp, by simp [CPack.holds]⟩))))
  exact ⟨(boxed_lt ho).2, (boxed_lt ho).1, boxed_cell ho 0 (by omega), boxed_cell ho 1 (by omega)⟩
theorem RdR.reader {B rb : Nat} {R : List Hold} {r : CRd} {w : World} (h : RdR B rb R r w) : rb < w.heap.size ∧ B ≤ rb ∧ w.cell? ⟨rb, 0, none⟩ = some (ptrTo r.ib) ∧ w.cell? ⟨rb, 1, none⟩ = some r.curV ∧ w.cell? ⟨rb, 2, none⟩ = some r.mv := by
  have ho : (r.hr rb).own B w := h.own (by simp [CRd.holds])
  exact ⟨(boxed_lt ho).2, (boxed_lt ho).1, boxed_cell ho 0 (by omega), boxed_cell ho 1 (by omega), boxed_cell ho 2 (by omega)⟩
theorem RdR.index {B rb : Nat} {R : List Hold} {r : CRd} {w : World} (h : RdR B rb R r w) : r.ib < w.heap.size ∧ B ≤ r.ib ∧ w.cell? ⟨r.ib, 0, none⟩ = some r.pv ∧ w.frozen? ⟨r.ib, 0, none⟩ = false := by
  have ho : r.hi.own B w := h.own (by simp [CRd.holds])
  have h' : w.ownsRow B 116 1 (.slice (some ⟨r.ib, 0, none⟩) 1 1) 1 [r.pv] := ho
  exact ⟨(boxed_lt ho).2, (boxed_lt ho).1, boxed_cell ho 0 (by omega), h'.frozenAt _⟩
theorem RdR.place {B rb : Nat} {R : List Hold} {r : CRd} {w : World} (h : RdR B rb R r w) (hl : r.packs.length ≤ 1048576) (x : ByteArray) :
    Calls Tryz.prog 53 #[ptrTo r.ib, .string x] w fun e w' => e = .returned (.int .i64 (idxL (r.packs.map fun p => p.name.data.toList) x.data.toList)) ∧ Below w.heap.size w w' :=
  place_any r.ib r.pv r.packs x w hl h.index.1 h.index.2.2.1 (RowR.of_owns (h.own (x := r.hp) (by simp [CRd.holds]))) (fun p hp => ⟨(h.pack hp).1, (h.pack hp).2.2.1⟩)

set_option maxHeartbeats 1600000 in
set_option maxRecDepth 100000 in
/-- A package that is there. -/
theorem foa_old (B rb : Nat) (R : List Hold) (r : CRd) (name : ByteArray) (w : World) (h : RdR B rb R r w) (hl : r.packs.length ≤ 6) (k : Nat) (hk : idxL (r.packs.map fun p => p.name.data.toList) name.data.toList = k) :
    Calls Tryz.prog 148 #[ptrTo rb, .string name] w fun e w' => (∃ q, r.packs[k]? = some q ∧ e = .returned (.tuple #[ptrTo q.b, .nilIface])) ∧ Below w.heap.size w w' := by
  have HP := h.place (by omega) name
  rw [hk] at HP
  have HP' : Hid (Calls Tryz.prog 53 #[ptrTo r.ib, .string name] w fun e w' => e = .returned (.int .i64 (k : Int)) ∧ Below w.heap.size w w') := HP
  have hbd := idxL_bd (r.packs.map fun p => p.name.data.toList) name.data.toList
  rw [hk, List.length_map] at hbd
  have hkl : k < r.packs.length := by omega
  have hrow := RowR.of_owns (h.own (x := r.hp) (by simp [CRd.holds]))
  rcases hrow.2 with ⟨_, h0⟩ | ⟨g, cap, hv, hg, hc⟩
  · exact absurd h0 (by show ¬ r.packs.length = 0; omega)
  have hv' : r.pv = .slice (some ⟨g, 0, none⟩) r.packs.length cap := hv
  have hck : w.cell? ⟨g, k, none⟩ = some (ptrTo r.packs[k].b) := by
    have := hc k (by show k < r.packs.length * 1; omega)
    rw [this]; simp [CRd.hp, hkl]
  have HQ : Hid (r.packs[k]? = some r.packs[k]) := by show _ = _; simp [hkl]
  obtain ⟨hrl, _, c0, _, _⟩ := h.reader
  obtain ⟨hil, _, i0, _⟩ := h.index
  rw [hv'] at i0
  generalize r.packs[k] = q at *
  have hkn : ¬ ((k : Int) < 0) := by omega
  clear HP h hbd hrow hc hv hk
  unfold ptrTo at *
  go_enter Tryz.func148, Tryz.ntmps148
  go_wp2_with fail
  refine Calls.mono HP'.out ?_
  rintro e w1 ⟨rfl, hb1⟩
  have HB1 : Hid (Below w.heap.size w w1) := hb1
  have c0' := (hb1.cell (p := ⟨rb, 0, none⟩) hrl).trans c0
  have i0' := (hb1.cell (p := ⟨r.ib, 0, none⟩) hil).trans i0
  have hck' := (hb1.cell (p := ⟨g, k, none⟩) hg).trans hck
  clear hb1 HP' c0 i0 hck
  go_wp2
  go_ret2
  exact ⟨⟨q, HQ.out, rfl⟩, HB1.out⟩

set_option maxHeartbeats 1600000 in
set_option maxRecDepth 100000 in
/-- No room for another. -/
theorem foa_many (B rb : Nat) (R : List Hold) (r : CRd) (name : ByteArray) (w : World) (h : RdR B rb R r w) (hl : r.packs.length = 6) (hk : idxL (r.packs.map fun p => p.name.data.toList) name.data.toList < 0) (S : Sent w) :
    Calls Tryz.prog 148 #[ptrTo rb, .string name] w fun e w' => (∃ t p, e = .returned (.tuple #[.pointer none, .iface t p])) ∧ Below w.heap.size w w' := by
  have HP := h.place (by omega) name
  have HS : Hid (Sent w) := S
  obtain ⟨a, c, hv⟩ := (RowR.of_owns (h.own (x := r.hp) (by simp [CRd.holds]))).form
  have hv' : r.pv = .slice a 6 c := by rw [← hl]; exact hv
  generalize idxL (r.packs.map fun p => p.name.data.toList) name.data.toList = K at *
  have HP' : Hid (Calls Tryz.prog 53 #[ptrTo r.ib, .string name] w fun e w' => e = .returned (.int .i64 K) ∧ Below w.heap.size w w') := HP
  obtain ⟨hrl, _, c0, _, _⟩ := h.reader
  obtain ⟨hil, _, i0, _⟩ := h.index
  rw [hv'] at i0
  clear HP h S hv hv' hl
  unfold ptrTo at *
  go_enter Tryz.func148, Tryz.ntmps148
  go_wp2_with fail
  refine Calls.mono HP'.out ?_
  rintro e w1 ⟨rfl, hb1⟩
  have HB1 : Hid (Below w.heap.size w w1) := hb1
  have c0' := (hb1.cell (p := ⟨rb, 0, none⟩) hrl).trans c0
  have i0' := (hb1.cell (p := ⟨r.ib, 0, none⟩) hil).trans i0
  obtain ⟨t, p, hc⟩ := (HS.out.on hb1).cell 15 (by decide)
  clear hb1 HP' c0 i0 HS
  go_wp2
  go_quiet (fail)
  go_wp2
  go_ret2
  exact ⟨⟨t, p, rfl⟩, HB1.out.trans ((below_drewN _ _).mono HB1.out.size)⟩

end Go.Proofs.YtnmclolbndohiaaGreatDoor

/-
  The walk of the code's 'findOrAdd', where a package is added.
-/
namespace Go.Proofs.YtnmclolbndohiaaGreatDoor
open Go.RowKit
open Ver
attribute [local go_sem ↓] Go.wp_at_zero Go.wp_at_succ

theorem Tryz.infoPackPtr : (Tryz.prog.info? 129).map (fun i => (i.zero, i.size, i.bytes)) = some (some (.pointer none), 1, 8) := by kernel_rfl

theorem RdR.addPack {B rb : Nat} {R : List Hold} {r : CRd} {w w1 : World} {P : CPack} {g cap : Nat} (hP : P.ents = []) (h : Forest B w (P.hb :: P.he :: (R ++ r.holds rb))) (hg : w.grownBy w1 r.pv.ownBlock) (hgg : r.pv.ownBlock = some g ∨ w.heap.size ≤ g)
    (hown : w1.ownsRow B 129 1 (.slice (some ⟨g, 0, none⟩) (r.packs.length + 1) cap) (r.packs.length + 1) ((r.packs.map fun p => ptrTo p.b) ++ [ptrTo P.b])) :
    RdR B rb R ⟨r.ib, .slice (some ⟨g, 0, none⟩) (r.packs.length + 1) cap, r.packs ++ [P], r.cur, r.mv, r.mens⟩ (w1.setCell ⟨r.ib, 0, none⟩ (.slice (some ⟨g, 0, none⟩) (r.packs.length + 1) cap)) := by
  have hr : (⟨129, 1, .slice (some ⟨g, 0, none⟩) (r.packs.length + 1) cap, r.packs.length + 1, (r.packs.map fun p => ptrTo p.b) ++ [ptrTo P.b]⟩ : Hold).own B w1 := hown
  have hp1 : (P.hb :: P.he :: (R ++ r.holds rb)).Perm (r.hp :: r.hi :: P.hb :: P.he :: r.hr rb :: r.hm :: (R ++ r.packs.flatMap CPack.holds)) := by
    classical
    rw [List.perm_iff_count]
    intro x
    simp only [CRd.holds, List.count_append, List.count_cons]
    omega
  have hf := (h.perm hp1).grow hg hr (fun k hk => by
    have e : g = k := by simpa [Value.ownBlock] using hk
    subst e; exact hgg)
  have hf2 := hf.perm (List.Perm.swap _ _ _)
  have hf3 : Forest B w1 (⟨116, 1, .slice (some ⟨r.ib, 0, none⟩) 1 1, 1, [r.pv]⟩ :: _) := hf2
  have hf4 := hf3.set 0 (.slice (some ⟨g, 0, none⟩) (r.packs.length + 1) cap)
  refine ⟨hf4.perm ?_⟩
  classical
  rw [List.perm_iff_count]
  intro x
  simp only [CRd.holds, CRd.hr, CRd.hi, CRd.hp, CRd.hm, CRd.curV, CPack.holds, boxed, hP, List.map_append, List.map_cons, List.map_nil, List.length_append, List.length_cons, List.length_nil, List.flatMap_append, List.flatMap_cons, List.flatMap_nil, List.append_nil, List.count_append, List.count_cons, List.count_nil, List.set_cons_zero, Nat.zero_add]
  omega

set_option maxHeartbeats 3200000 in
set_option maxRecDepth 100000 in
theorem foa_new (B rb : Nat) (R : List Hold) (r : CRd) (name : ByteArray) (w : World) (h : RdR B rb R r w) (hl : r.packs.length < 6) (hk : idxL (r.packs.map fun p => p.name.data.toList) name.data.toList < 0) :
    Calls Tryz.prog 148 #[ptrTo rb, .string name] w fun e w' => (∃ pb pv', e = .returned (.tuple #[ptrTo pb, .nilIface]) ∧ RdR B rb R ⟨r.ib, pv', r.packs ++ [⟨pb, name, .slice none 0 0, []⟩], r.cur, r.mv, r.mens⟩ w') ∧ Below B w w' := by
  obtain ⟨j0, hj0, hy0, hy1, hy2⟩ := info_parts Tryz.infoPackPtr
  have HP := h.place (by omega) name
  obtain ⟨a, c, hv⟩ := (RowR.of_owns (h.own (x := r.hp) (by simp [CRd.holds]))).form
  have hv' : r.pv = .slice a r.packs.length c := hv
  generalize idxL (r.packs.map fun p => p.name.data.toList) name.data.toList = K at *
  have HP' : Hid (Calls Tryz.prog 53 #[ptrTo r.ib, .string name] w fun e w' => e = .returned (.int .i64 K) ∧ Below w.heap.size w w') := HP
  have HR : Hid (RdR B rb R r w) := h
  obtain ⟨hrl, hrB, c0, _, _⟩ := h.reader
  obtain ⟨hil, hiB, i0, _⟩ := h.index
  rw [hv'] at i0
  have k6 : ((r.packs.length : Int) == 6) = false := by simp; omega
  clear HP h hv
  unfold ptrTo at HP' c0
  unfold ptrTo
  go_enter Tryz.func148, Tryz.ntmps148
  go_wp2_with fail
  refine Calls.mono HP'.out ?_
  rintro e w1 ⟨rfl, hb1⟩
  have HB1 : Hid (Below w.heap.size w w1) := hb1
  have hw1 : B ≤ w1.heap.size := by have := hb1.size; omega
  have hR1 := HR.out.on hb1
  have hF2 : Forest B (w1.alloc (.cells #[.string name, .slice none 0 0] 128)) (CPack.hb ⟨w1.heap.size, name, .slice none 0 0, []⟩ :: CPack.he ⟨w1.heap.size, name, .slice none 0 0, []⟩ :: (R ++ r.holds rb)) := by
    have f1 := (hR1.forest.alloc (.cells #[.string name, .slice none 0 0] 128)).cons (r := CPack.he ⟨w1.heap.size, name, .slice none 0 0, []⟩) (World.ownsRow_nil _ _ _ _) (fun k hk => by cases hk)
    refine f1.cons (boxed_new (cs := #[.string name, .slice none 0 0]) rfl hw1) (fun k hk hm => ?_)
    have e : w1.heap.size = k := by simpa [CPack.hb, boxed, Value.ownBlock] using hk
    subst e
    rw [blocks_cons] at hm
    have hm' : w1.heap.size ∈ blocksOf (R ++ r.holds rb) := by simpa [CPack.he, Value.ownBlock] using hm
    have := (hR1.forest.lt hm').2
    omega
  have HF2 : Hid (Forest B (w1.alloc (.cells #[.string name, .slice none 0 0] 128)) (CPack.hb ⟨w1.heap.size, name, .slice none 0 0, []⟩ :: CPack.he ⟨w1.heap.size, name, .slice none 0 0, []⟩ :: (R ++ r.holds rb))) := hF2
  have HO : Hid ((w1.alloc (.cells #[.string name, .slice none 0 0] 128)).ownsRow B 129 1 (.slice a r.packs.length c) r.packs.length (r.packs.map fun p => ptrTo p.b)) := by
    have := hF2.own r.hp (by simp [CRd.holds])
    rw [← hv']; exact this
  have c0' := (hb1.cell (p := ⟨rb, 0, none⟩) hrl).trans c0
  have i0' := (hb1.cell (p := ⟨r.ib, 0, none⟩) hil).trans i0
  have ifz : w1.frozen? ⟨r.ib, 0, none⟩ = false := hR1.index.2.2.2
  have hrl1 : rb < w1.heap.size := hR1.reader.1
  have hil1 : r.ib < w1.heap.size := hR1.index.1
  have ak : (Value.slice a r.packs.length c).ownBlock ≠ some r.ib := fun e => by
    have hpf := hR1.forest.perm (show (R ++ r.holds rb).Perm (r.hi :: r.hp :: r.hr rb :: r.hm :: (R ++ r.packs.flatMap CPack.holds)) by
      classical
      rw [List.perm_iff_count]; intro x; simp only [CRd.holds, List.count_append, List.count_cons]; omega)
    refine hpf.alone (k := r.ib) rfl (mem_blocks.2 ⟨r.hp, by simp, ?_⟩)
    show r.pv.ownBlock = some r.ib
    rw [hv']; exact e
  have ak2 : (Value.slice a r.packs.length c).ownBlock ≠ some rb := fun e => by
    have hpf := hR1.forest.perm (show (R ++ r.holds rb).Perm (r.hr rb :: r.hp :: r.hi :: r.hm :: (R ++ r.packs.flatMap CPack.holds)) by
      classical
      rw [List.perm_iff_count]; intro x; simp only [CRd.holds, List.count_append, List.count_cons]; omega)
    refine hpf.alone (k := rb) rfl (mem_blocks.2 ⟨r.hp, by simp, ?_⟩)
    show r.pv.ownBlock = some rb
    rw [hv']; exact e
  have HNB : Hid ((((w1.alloc (.cells #[.string name, .slice none 0 0] 128)).alloc (.cells #[.pointer (some ⟨w1.heap.size, 0, none⟩)] 129)).drew).heap[w1.heap.size + 1]? = some (.cells #[.pointer (some ⟨w1.heap.size, 0, none⟩)] 129 (0, 0))) := by
    have := heap_alloc_new (w1.alloc (.cells #[.string name, .slice none 0 0] 128)) (.cells #[.pointer (some ⟨w1.heap.size, 0, none⟩)] 129)
    rw [World.size_alloc] at this
    exact this
  clear hb1 HP' c0 i0 hR1 hF2 HR
  go_wp2
  go_region_law (refine step_append_lies _ (by rfl) _ _ _ (by rfl) B 129 j0 _ 1 8 Tryz.underlying114 hj0 hy0 hy1 hy2 rfl (by omega) (.slice a r.packs.length c) r.packs.length (r.packs.map fun p => ptrTo p.b) (by rfl) ((HO.out.alloc _).drew) ⟨w1.heap.size + 1, 0, none⟩ 1 1 [.pointer (some ⟨w1.heap.size, 0, none⟩)] (by rfl) (by rfl) (World.news_of_block (cs := #[.pointer (some ⟨w1.heap.size, 0, none⟩)]) (t := 129) (fr := (0, 0)) HNB.out) (by simp [Value.oneCell']) (by omega) (by unfold maxLen; omega) (by omega) (by simp; omega) (w1.heap.size + 1 + 1) (by simp) ?_; intro gg cq w4 hown1 hgrow hat hlt3; have hfz3 : w4.frozen? ⟨r.ib, 0, none⟩ = false := (hgrow.frozen_far ⟨r.ib, 0, none⟩ (by simp; omega) (Ne.symm ak)).trans ((World.frozen?_alloc_past _ _ _ (by simp; omega)).trans ((World.frozen?_alloc_past _ _ _ hil1).trans ifz)); have hc3 : w4.cell? ⟨r.ib, 0, none⟩ = some (.slice a r.packs.length c) := (hgrow.cell_far ⟨r.ib, 0, none⟩ (by simp; omega) (Ne.symm ak)).trans ((World.cell?_alloc_past _ _ _ (by simp; omega)).trans ((World.cell?_alloc_past _ _ _ hil1).trans i0')); have hcr : w4.cell? ⟨rb, 0, none⟩ = some (.pointer (some ⟨r.ib, 0, none⟩)) := (hgrow.cell_far ⟨rb, 0, none⟩ (by simp; omega) (Ne.symm ak2)).trans ((World.cell?_alloc_past _ _ _ (by simp; omega)).trans ((World.cell?_alloc_past _ _ _ hrl1).trans c0')))
  all_goals (
    have HF4 : Hid (RdR B rb R ⟨r.ib, .slice (some ⟨gg, 0, none⟩) (r.packs.length + 1) cq, r.packs ++ [⟨w1.heap.size, name, .slice none 0 0, []⟩], r.cur, r.mv, r.mens⟩ (w4.setCell ⟨r.ib, 0, none⟩ (.slice (some ⟨gg, 0, none⟩) (r.packs.length + 1) cq))) := by
      have hfa := HF2.out.on (((Below.refl _ _).alloc (Nat.le_refl _) (.cells #[.pointer (some ⟨w1.heap.size, 0, none⟩)] 129)).drew)
      refine RdR.addPack rfl hfa (by rw [hv']; exact hgrow) ?_ hown1
      rw [hv']
      exact hat.imp id (fun e => by rw [e]; simp)
    have HB5 : Hid (Below B w (w4.setCell ⟨r.ib, 0, none⟩ (.slice (some ⟨gg, 0, none⟩) (r.packs.length + 1) cq))) := (((((HB1.out.mono (by omega)).alloc (by omega) _).alloc (by simp; omega) _).drew).grown hgrow (by simp; omega) (fun j hj => (HO.out.lt j hj).1)).setCell hiB _
    clear hown1 hgrow hat hlt3 hfz3 hc3 hcr HO HF2 HB1 ak ak2
    go_wp2
    go_ret2
    exact ⟨⟨w1.heap.size, _, rfl, HF4.out⟩, HB5.out⟩)

end Go.Proofs.YtnmclolbndohiaaGreatDoor

/-
  The code's reader: an entry more of a package; the entry that began last.
-/
namespace Go.Proofs.YtnmclolbndohiaaGreatDoor
open Go.RowKit
open Ver

/-- The entry that began last is another one. -/
theorem RdR.setCur {B rb eb : Nat} {R : List Hold} {r : CRd} {w : World} (h : RdR B rb R r w) : RdR B rb R ⟨r.ib, r.pv, r.packs, some eb, r.mv, r.mens⟩ (w.setCell ⟨rb, 1, none⟩ (ptrTo eb)) := by
  have hp : (R ++ r.holds rb).Perm (r.hr rb :: r.hi :: r.hp :: r.hm :: (R ++ r.packs.flatMap CPack.holds)) := by
    classical
    rw [List.perm_iff_count]
    intro x
    simp only [CRd.holds, List.count_append, List.count_cons]
    omega
  have hf : Forest B w (⟨147, 3, .slice (some ⟨rb, 0, none⟩) 1 1, 1, [ptrTo r.ib, r.curV, r.mv]⟩ :: _) := h.forest.perm hp
  have hf2 := hf.set 1 (ptrTo eb)
  refine ⟨hf2.perm ?_⟩
  classical
  rw [List.perm_iff_count]
  intro x
  simp only [CRd.holds, CRd.hr, CRd.hi, CRd.hp, CRd.hm, CRd.curV, boxed, ptrTo, Option.map_some, List.set_cons_zero, List.set_cons_succ, List.count_append, List.count_cons]
  omega

/-- An entry more of the package q: its row of entries has grown, and its value is stored. -/
theorem RdR.addEnt {B rb : Nat} {R : List Hold} {r : CRd} {l1 l2 : List CPack} {q : CPack} {w w1 : World} {E : CEnt} {g cap : Nat} (hq : r.packs = l1 ++ q :: l2) (hE : E.needs = [] ∧ E.feats = []) (h : Forest B w (E.hb :: E.hn :: E.hf :: (R ++ r.holds rb))) (hg : w.grownBy w1 q.ev.ownBlock) (hgg : q.ev.ownBlock = some g ∨ w.heap.size ≤ g)
    (hown : w1.ownsRow B 124 1 (.slice (some ⟨g, 0, none⟩) (q.ents.length + 1) cap) (q.ents.length + 1) ((q.ents.map fun e => ptrTo e.b) ++ [ptrTo E.b])) :
    RdR B rb R ⟨r.ib, r.pv, l1 ++ ⟨q.b, q.name, .slice (some ⟨g, 0, none⟩) (q.ents.length + 1) cap, q.ents ++ [E]⟩ :: l2, r.cur, r.mv, r.mens⟩ (w1.setCell ⟨q.b, 1, none⟩ (.slice (some ⟨g, 0, none⟩) (q.ents.length + 1) cap)) := by
  have hr : (⟨124, 1, .slice (some ⟨g, 0, none⟩) (q.ents.length + 1) cap, q.ents.length + 1, (q.ents.map fun e => ptrTo e.b) ++ [ptrTo E.b]⟩ : Hold).own B w1 := hown
  have hp1 : (E.hb :: E.hn :: E.hf :: (R ++ r.holds rb)).Perm (q.he :: q.hb :: E.hb :: E.hn :: E.hf :: r.hr rb :: r.hi :: r.hp :: r.hm :: (R ++ (l1.flatMap CPack.holds ++ (q.ents.flatMap CEnt.holds ++ l2.flatMap CPack.holds)))) := by
    classical
    rw [List.perm_iff_count]
    intro x
    simp only [CRd.holds, hq, CPack.holds, List.flatMap_append, List.flatMap_cons, List.count_append, List.count_cons]
    omega
  have hf := (h.perm hp1).grow hg hr (fun k hk => by
    have e : g = k := by simpa [Value.ownBlock] using hk
    subst e; exact hgg)
  have hf2 := hf.perm (List.Perm.swap _ _ _)
  have hf3 : Forest B w1 (⟨128, 2, .slice (some ⟨q.b, 0, none⟩) 1 1, 1, [.string q.name, q.ev]⟩ :: _) := hf2
  have hf4 := hf3.set 1 (.slice (some ⟨g, 0, none⟩) (q.ents.length + 1) cap)
  refine ⟨hf4.perm ?_⟩
  classical
  rw [List.perm_iff_count]
  intro x
  simp only [CRd.holds, CRd.hr, CRd.hi, CRd.hp, CRd.hm, CRd.curV, hq, CPack.holds, CPack.hb, CPack.he, CPack.cells, CEnt.holds, hE.1, hE.2, boxed, List.map_append, List.map_cons, List.map_nil, List.length_append, List.length_cons, List.length_nil, List.flatMap_append, List.flatMap_cons, List.flatMap_nil, List.append_nil, List.count_append, List.count_cons, List.count_nil, List.set_cons_zero, List.set_cons_succ, Nat.zero_add]
  omega

/-- A need more of the entry c, the last of the package q. -/
theorem RdR.addNeed {B rb : Nat} {R : List Hold} {r : CRd} {l1 l2 : List CPack} {q : CPack} {es : List CEnt} {c : CEnt} {w w1 : World} {n : CNeed} {g cap : Nat} (hq : r.packs = l1 ++ q :: l2) (hc : q.ents = es ++ [c]) (h : Forest B w (n.hold :: (R ++ r.holds rb))) (hg : w.grownBy w1 c.nv.ownBlock) (hgg : c.nv.ownBlock = some g ∨ w.heap.size ≤ g)
    (hown : w1.ownsRow B 264 8 (.slice (some ⟨g, 0, none⟩) (c.needs.length + 1) cap) (c.needs.length + 1) (c.needs.flatMap CNeed.cells ++ n.cells)) :
    RdR B rb R ⟨r.ib, r.pv, l1 ++ ⟨q.b, q.name, q.ev, es ++ [⟨c.b, c.v0, c.v1, c.v2, .slice (some ⟨g, 0, none⟩) (c.needs.length + 1) cap, c.needs ++ [n], c.fv, c.feats⟩]⟩ :: l2, r.cur, r.mv, r.mens⟩ (w1.setCell ⟨c.b, 3, none⟩ (.slice (some ⟨g, 0, none⟩) (c.needs.length + 1) cap)) := by
  have hr : (⟨264, 8, .slice (some ⟨g, 0, none⟩) (c.needs.length + 1) cap, c.needs.length + 1, c.needs.flatMap CNeed.cells ++ n.cells⟩ : Hold).own B w1 := hown
  have hp1 : (n.hold :: (R ++ r.holds rb)).Perm (c.hn :: c.hb :: c.hf :: n.hold :: q.hb :: q.he :: r.hr rb :: r.hi :: r.hp :: r.hm :: (R ++ (l1.flatMap CPack.holds ++ (es.flatMap CEnt.holds ++ (c.needs.map CNeed.hold ++ (c.feats.map CFeat.hold ++ l2.flatMap CPack.holds)))))) := by
    classical
    rw [List.perm_iff_count]
    intro x
    simp only [CRd.holds, hq, CPack.holds, hc, CEnt.holds, List.flatMap_append, List.flatMap_cons, List.flatMap_nil, List.append_nil, List.count_append, List.count_cons]
    omega
  have hf := (h.perm hp1).grow hg hr (fun k hk => by
    have e : g = k := by simpa [Value.ownBlock] using hk
    subst e; exact hgg)
  have hf2 := hf.perm (List.Perm.swap _ _ _)
  have hf3 : Forest B w1 (⟨133, 5, .slice (some ⟨c.b, 0, none⟩) 1 1, 1, [.int .i64 c.v0, .int .i64 c.v1, .int .i64 c.v2, c.nv, c.fv]⟩ :: _) := hf2
  have hf4 := hf3.set 3 (.slice (some ⟨g, 0, none⟩) (c.needs.length + 1) cap)
  refine ⟨hf4.perm ?_⟩
  classical
  rw [List.perm_iff_count]
  intro x
  simp only [CRd.holds, CRd.hr, CRd.hi, CRd.hp, CRd.hm, CRd.curV, hq, CPack.holds, CPack.hb, CPack.he, CPack.cells, hc, CEnt.holds, CEnt.hb, CEnt.hn, CEnt.hf, CEnt.cells, boxed, List.map_append, List.map_cons, List.map_nil, List.length_append, List.length_cons, List.length_nil, List.flatMap_append, List.flatMap_cons, List.flatMap_nil, List.append_nil, List.count_append, List.count_cons, List.count_nil, List.set_cons_zero, List.set_cons_succ, Nat.zero_add]
  omega

/-- A feature more of the entry c, the last of the package q. -/
theorem RdR.addFeat {B rb : Nat} {R : List Hold} {r : CRd} {l1 l2 : List CPack} {q : CPack} {es : List CEnt} {c : CEnt} {w w1 : World} {n : CFeat} {g cap : Nat} (hq : r.packs = l1 ++ q :: l2) (hc : q.ents = es ++ [c]) (h : Forest B w (n.hold :: (R ++ r.holds rb))) (hg : w.grownBy w1 c.fv.ownBlock) (hgg : c.fv.ownBlock = some g ∨ w.heap.size ≤ g)
    (hown : w1.ownsRow B 222 2 (.slice (some ⟨g, 0, none⟩) (c.feats.length + 1) cap) (c.feats.length + 1) (c.feats.flatMap CFeat.cells ++ n.cells)) :
    RdR B rb R ⟨r.ib, r.pv, l1 ++ ⟨q.b, q.name, q.ev, es ++ [⟨c.b, c.v0, c.v1, c.v2, c.nv, c.needs, .slice (some ⟨g, 0, none⟩) (c.feats.length + 1) cap, c.feats ++ [n]⟩]⟩ :: l2, r.cur, r.mv, r.mens⟩ (w1.setCell ⟨c.b, 4, none⟩ (.slice (some ⟨g, 0, none⟩) (c.feats.length + 1) cap)) := by
  have hr : (⟨222, 2, .slice (some ⟨g, 0, none⟩) (c.feats.length + 1) cap, c.feats.length + 1, c.feats.flatMap CFeat.cells ++ n.cells⟩ : Hold).own B w1 := hown
  have hp1 : (n.hold :: (R ++ r.holds rb)).Perm (c.hf :: c.hb :: c.hn :: n.hold :: q.hb :: q.he :: r.hr rb :: r.hi :: r.hp :: r.hm :: (R ++ (l1.flatMap CPack.holds ++ (es.flatMap CEnt.holds ++ (c.needs.map CNeed.hold ++ (c.feats.map CFeat.hold ++ l2.flatMap CPack.holds)))))) := by
    classical
    rw [List.perm_iff_count]
    intro x
    simp only [CRd.holds, hq, CPack.holds, hc, CEnt.holds, List.flatMap_append, List.flatMap_cons, List.flatMap_nil, List.append_nil, List.count_append, List.count_cons]
    omega
  have hf := (h.perm hp1).grow hg hr (fun k hk => by
    have e : g = k := by simpa [Value.ownBlock] using hk
    subst e; exact hgg)
  have hf2 := hf.perm (List.Perm.swap _ _ _)
  have hf3 : Forest B w1 (⟨133, 5, .slice (some ⟨c.b, 0, none⟩) 1 1, 1, [.int .i64 c.v0, .int .i64 c.v1, .int .i64 c.v2, c.nv, c.fv]⟩ :: _) := hf2
  have hf4 := hf3.set 4 (.slice (some ⟨g, 0, none⟩) (c.feats.length + 1) cap)
  refine ⟨hf4.perm ?_⟩
  classical
  rw [List.perm_iff_count]
  intro x
  simp only [CRd.holds, CRd.hr, CRd.hi, CRd.hp, CRd.hm, CRd.curV, hq, CPack.holds, CPack.hb, CPack.he, CPack.cells, hc, CEnt.holds, CEnt.hb, CEnt.hn, CEnt.hf, CEnt.cells, boxed, List.map_append, List.map_cons, List.map_nil, List.length_append, List.length_cons, List.length_nil, List.flatMap_append, List.flatMap_cons, List.flatMap_nil, List.append_nil, List.count_append, List.count_cons, List.count_nil, List.set_cons_zero, List.set_cons_succ, Nat.zero_add]
  omega

/-- A mention more. -/
theorem RdR.addMen {B rb : Nat} {R : List Hold} {r : CRd} {w w1 : World} {x : CMen} {g cap : Nat} (h : RdR B rb R r w) (hg : w.grownBy w1 r.mv.ownBlock) (hgg : r.mv.ownBlock = some g ∨ w.heap.size ≤ g)
    (hown : w1.ownsRow B 151 3 (.slice (some ⟨g, 0, none⟩) (r.mens.length + 1) cap) (r.mens.length + 1) (r.mens.flatMap CMen.cells ++ x.cells)) :
    RdR B rb R ⟨r.ib, r.pv, r.packs, r.cur, .slice (some ⟨g, 0, none⟩) (r.mens.length + 1) cap, r.mens ++ [x]⟩ (w1.setCell ⟨rb, 2, none⟩ (.slice (some ⟨g, 0, none⟩) (r.mens.length + 1) cap)) := by
  have hr : (⟨151, 3, .slice (some ⟨g, 0, none⟩) (r.mens.length + 1) cap, r.mens.length + 1, r.mens.flatMap CMen.cells ++ x.cells⟩ : Hold).own B w1 := hown
  have hp1 : (R ++ r.holds rb).Perm (r.hm :: r.hr rb :: r.hi :: r.hp :: (R ++ r.packs.flatMap CPack.holds)) := by
    classical
    rw [List.perm_iff_count]
    intro x
    simp only [CRd.holds, List.count_append, List.count_cons]
    omega
  have hf := (h.forest.perm hp1).grow hg hr (fun k hk => by
    have e : g = k := by simpa [Value.ownBlock] using hk
    subst e; exact hgg)
  have hf2 := hf.perm (List.Perm.swap _ _ _)
  have hf3 : Forest B w1 (⟨147, 3, .slice (some ⟨rb, 0, none⟩) 1 1, 1, [ptrTo r.ib, r.curV, r.mv]⟩ :: _) := hf2
  have hf4 := hf3.set 2 (.slice (some ⟨g, 0, none⟩) (r.mens.length + 1) cap)
  refine ⟨hf4.perm ?_⟩
  classical
  rw [List.perm_iff_count]
  intro x
  simp only [CRd.holds, CRd.hr, CRd.hi, CRd.hp, CRd.hm, CRd.curV, boxed, List.length_append, List.length_cons, List.length_nil, List.flatMap_append, List.flatMap_cons, List.flatMap_nil, List.append_nil, List.count_append, List.count_cons, List.set_cons_zero, List.set_cons_succ, Nat.zero_add]
  omega

end Go.Proofs.YtnmclolbndohiaaGreatDoor

/-
  Plain facts: the packages' entries beside the reference's.
-/
namespace Go.Proofs.YtnmclolbndohiaaGreatDoor
open Go.RowKit
open Ver

theorem findL_nonneg : ∀ l : List Bool, 0 ≤ findL l ↔ true ∈ l
  | [] => by simp [findL]
  | true :: r => by simp [findL]
  | false :: r => by
    have ih := findL_nonneg r
    unfold findL
    split
    · rename_i h
      simp only [List.mem_cons]
      constructor
      · intro h'; omega
      · rintro (h' | h')
        · cases h'
        · have := ih.2 h'; omega
    · rename_i h
      simp only [List.mem_cons]
      constructor
      · intro _; exact Or.inr (ih.1 (by omega))
      · intro _; omega

theorem RdRel.many {r : CRd} {p : PIdx} (h : RdRel r p) {k : Nat} {q : CPack} (hq : r.packs[k]? = some q) : manyOf p.ents (k : Int) = q.ents.length := (h.ents k q hq).len.symm
theorem RdRel.again {r : CRd} {p : PIdx} (h : RdRel r p) {k : Nat} {q : CPack} (hq : r.packs[k]? = some q) {v : Int} :
    twice p.ents (k : Int) v = decide (0 ≤ idxV (q.ents.map CEnt.ver) (v / 1000000, v / 1000 % 1000, v % 1000)) := by
  have ha := h.ents k q hq
  have key : twice p.ents (k : Int) v = true ↔ 0 ≤ idxV (q.ents.map CEnt.ver) (v / 1000000, v / 1000 % 1000, v % 1000) := by
    unfold idxV
    rw [findL_nonneg, List.map_map]
    unfold twice
    rw [List.any_eq_true]
    constructor
    · rintro ⟨e, he, hev⟩
      obtain ⟨h1, h2⟩ := of_decide_eq_true hev
      have hm : e ∈ p.ents.filter fun e => decide (e.pack = (k : Int)) := by simp [he, h1]
      obtain ⟨i, hi, rfl⟩ := List.getElem_of_mem hm
      have hl := ha.len
      have hi' : i < q.ents.length := by omega
      have hr := ha.each i _ _ (List.getElem?_eq_getElem hi') (List.getElem?_eq_getElem hi)
      rw [List.mem_map]
      refine ⟨q.ents[i], List.getElem_mem _, ?_⟩
      show decide _ = true
      rw [decide_eq_true_eq]
      exact ⟨by rw [← h2]; exact hr.v0, by rw [← h2]; exact hr.v1, by rw [← h2]; exact hr.v2⟩
    · intro hm
      obtain ⟨c, hc, hcv⟩ := List.mem_map.1 hm
      obtain ⟨g0, g1, g2⟩ := of_decide_eq_true hcv
      obtain ⟨i, hi, rfl⟩ := List.getElem_of_mem hc
      have hl := ha.len
      have hi' : i < (p.ents.filter fun e => decide (e.pack = (k : Int))).length := by omega
      have hr := ha.each i _ _ (List.getElem?_eq_getElem hi) (List.getElem?_eq_getElem hi')
      have hmem := List.getElem_mem hi'
      rw [List.mem_filter] at hmem
      refine ⟨_, hmem.1, ?_⟩
      rw [decide_eq_true_eq]
      refine ⟨of_decide_eq_true hmem.2, ?_⟩
      have e0 : (q.ents[i]).v0 = v / 1000000 := g0
      have e1 : (q.ents[i]).v1 = v / 1000 % 1000 := g1
      have e2 : (q.ents[i]).v2 = v % 1000 := g2
      have f0 := hr.v0
      have f1 := hr.v1
      have f2 := hr.v2
      have flo := hr.lo
      exact ver_inj (by omega) (by omega) (by omega)
  by_cases hd : 0 ≤ idxV (q.ents.map CEnt.ver) (v / 1000000, v / 1000 % 1000, v % 1000)
  · rw [decide_eq_true hd]; exact key.2 hd
  · rw [decide_eq_false hd]
    cases ht : twice p.ents (k : Int) v with
    | false => rfl
    | true => exact absurd (key.1 ht) hd

end Go.Proofs.YtnmclolbndohiaaGreatDoor

/-
  The walk of the code's 'takePackage': where it stops early.
-/
namespace Go.Proofs.YtnmclolbndohiaaGreatDoor
open Go.RowKit
open Ver

set_option maxHeartbeats 800000 in
set_option maxRecDepth 100000 in
theorem tp_len (rb g o cap n : Nat) (w : World) (hn : n ≠ 2) (S : Sent w) :
    Calls Tryz.prog 102 #[ptrTo rb, .slice (some ⟨g, o, none⟩) n cap] w fun e w' => (∃ t p, e = .returned (.iface t p)) ∧ Below w.heap.size w w' := by
  obtain ⟨t, p, hc⟩ := S.cell 12 (by decide)
  have k2 : ((n : Int) != 2) = true := by simp; omega
  clear S
  unfold ptrTo
  go_enter Tryz.func102, Tryz.ntmps102
  go_wp2
  go_ret
  exact ⟨⟨t, p, rfl⟩, Below.refl _ _⟩

set_option maxHeartbeats 800000 in
set_option maxRecDepth 100000 in
theorem tp_noname (rb g o cap : Nat) (nm : ByteArray) (w : World) (d0 : w.cell? ⟨g, o, none⟩ = some (.string nm)) (hnm : nameL nm.data.toList = false) (S : Sent w) :
    Calls Tryz.prog 102 #[ptrTo rb, .slice (some ⟨g, o, none⟩) 2 cap] w fun e w' => (∃ t p, e = .returned (.iface t p)) ∧ Below w.heap.size w w' := by
  have HS : Hid (Sent w) := S
  have HN : Hid (∀ w : World, Calls Tryz.prog 125 #[.string nm] w fun e w' => e = .returned (.bool false) ∧ Below w.heap.size w w') := fun w => by have := isName_any nm w; rw [hnm] at this; exact this
  clear S hnm
  unfold ptrTo
  go_enter Tryz.func102, Tryz.ntmps102
  go_wp2_with fail
  refine (HN.out _).mono ?_
  rintro e w1 ⟨rfl, hb1⟩
  obtain ⟨t, p, hc⟩ := (HS.out.on hb1).cell 12 (by decide)
  have HB1 : Hid (Below w.heap.size w w1) := hb1
  clear hb1 HN HS
  go_wp2
  go_ret
  exact ⟨⟨t, p, rfl⟩, HB1.out⟩

set_option maxHeartbeats 800000 in
set_option maxRecDepth 100000 in
theorem tp_nover (rb g o cap : Nat) (nm vt : ByteArray) (w : World) (t0 t1 : TypeId) (p0 p1 : Value) (m : Int) (hg : g < w.heap.size) (d0 : w.cell? ⟨g, o, none⟩ = some (.string nm)) (d1 : w.cell? ⟨g, o + 1, none⟩ = some (.string vt)) (hvs : vt.size ≤ 1048576) (hnm : nameL nm.data.toList = true) (hv : verI vt.data.toList < 0) (G : Glob t0 t1 p0 p1 m w) :
    Calls Tryz.prog 102 #[ptrTo rb, .slice (some ⟨g, o, none⟩) 2 cap] w fun e w' => (∃ t p, e = .returned (.iface t p)) ∧ Below w.heap.size w w' := by
  have HG : Hid (Glob t0 t1 p0 p1 m w) := G
  have HN : Hid (∀ w : World, Calls Tryz.prog 125 #[.string nm] w fun e w' => e = .returned (.bool true) ∧ Below w.heap.size w w') := fun w => by have := isName_any nm w; rw [hnm] at this; exact this
  have HV : Hid (∀ w : World, Glob t0 t1 p0 p1 m w → Calls Tryz.prog 26 #[.string vt] w fun e w' => e = .returned (.tuple #[.agg #[.int .i64 0, .int .i64 0, .int .i64 0], .iface t0 p0]) ∧ Below w.heap.size w w') := fun w h => parse_no vt t0 t1 p0 p1 m w hvs h hv
  clear G hnm hv
  unfold ptrTo
  go_enter Tryz.func102, Tryz.ntmps102
  go_wp2_with fail
  refine (HN.out _).mono ?_
  rintro e w1 ⟨rfl, hb1⟩
  have HB1 : Hid (Below w.heap.size w w1) := hb1
  have e1 : w1.cell? ⟨g, o + 1, none⟩ = some (.string vt) := (hb1.cell (p := ⟨g, o + 1, none⟩) hg).trans d1
  clear hb1 HN d0 d1
  go_wp2_with fail
  refine (HV.out _ (HG.out.on HB1.out HG.out.lt)).mono ?_
  rintro e w2 ⟨rfl, hb2⟩
  have HB2 : Hid (Below w.heap.size w w2) := HB1.out.trans (hb2.mono HB1.out.size)
  clear hb2 HV HB1 e1
  go_wp2
  go_ret
  exact ⟨⟨t0, p0, rfl⟩, HB2.out.alloc HB2.out.size _⟩

end Go.Proofs.YtnmclolbndohiaaGreatDoor

/-
  The code's 'findOrAdd', at any name, beside the reference's numbers of packages.
-/
namespace Go.Proofs.YtnmclolbndohiaaGreatDoor
open Go.RowKit
open Ver

/-- The same index, with one package more, none of whose entries is there. -/
theorem RdRel.addPack {r : CRd} {p : PIdx} {pb : Nat} {pv' ev : Value} {name : ByteArray} (h : RdRel r p) : RdRel ⟨r.ib, pv', r.packs ++ [⟨pb, name, ev, []⟩], r.cur, r.mv, r.mens⟩ ⟨p.names ++ [name.data.toList], p.ents⟩ where
  names := by simp [← h.names]
  ents := fun k q hq => by
    rcases Nat.lt_or_ge k r.packs.length with hk | hk
    · have hq' : r.packs[k]? = some q := by
        have : (r.packs ++ [(⟨pb, name, ev, []⟩ : CPack)])[k]? = some q := hq
        rw [List.getElem?_append_left hk] at this; exact this
      exact h.ents k q hq'
    · have hq' : (r.packs ++ [(⟨pb, name, ev, []⟩ : CPack)])[k]? = some q := hq
      rw [List.getElem?_append_right hk] at hq'
      have e0 : k - r.packs.length = 0 := by
        rcases Nat.eq_zero_or_pos (k - r.packs.length) with e | e
        · exact e
        · rw [List.getElem?_eq_none (by simp; omega)] at hq'; cases hq'
      rw [e0] at hq'
      have e1 : (⟨pb, name, ev, []⟩ : CPack) = q := by simpa using hq'
      subst e1
      have e2 : (p.ents.filter fun e => decide (e.pack = (k : Int))) = [] := by
        rw [List.filter_eq_nil_iff]
        intro e he
        have := (h.packs e he).2
        simp; omega
      show All2 EntRel [] (p.ents.filter fun e => decide (e.pack = (k : Int)))
      rw [e2]; exact All2.nil _
  packs := fun e he => by
    have := h.packs e he
    simp; omega
  cur := by
    have hc := h.cur
    cases hl : p.ents.getLast? with
    | none => rw [hl] at hc; exact hc
    | some e =>
      rw [hl] at hc
      obtain ⟨q, c, h1, h2, h3⟩ := hc
      refine ⟨q, c, ?_, h2, h3⟩
      obtain ⟨hk, _⟩ := List.getElem?_eq_some_iff.1 h1
      show (r.packs ++ [(⟨pb, name, ev, []⟩ : CPack)])[e.pack.toNat]? = some q
      rw [List.getElem?_append_left hk]; exact h1

/-- How 'findOrAdd' ends: the package's number is the reference's; or there are six already. -/
def FoaEnds (B rb : Nat) (R : List Hold) (r : CRd) (p : PIdx) (nm : List UInt8) (e : Ending) (w' : World) : Prop :=
  (6 < (namesOf p nm).length ∧ ∃ t v, e = .returned (.tuple #[.pointer none, .iface t v])) ∨
  ((namesOf p nm).length ≤ 6 ∧ ∃ (r' : CRd) (k : Nat) (q : CPack), e = .returned (.tuple #[ptrTo q.b, .nilIface]) ∧ RdR B rb R r' w' ∧ RdRel r' ⟨namesOf p nm, p.ents⟩ ∧ r'.packs[k]? = some q ∧ (k : Int) = numOf p nm ∧ r'.ib = r.ib ∧ r'.cur = r.cur ∧ r'.mv = r.mv ∧ r'.mens = r.mens ∧ ∀ x ∈ r.packs, x ∈ r'.packs)

theorem foa_any (B rb : Nat) (R : List Hold) (r : CRd) (p : PIdx) (name : ByteArray) (w : World) (h : RdR B rb R r w) (hr : RdRel r p) (hl : p.names.length ≤ 6) (S : Sent w) (hB : B ≤ w.heap.size) :
    Calls Tryz.prog 148 #[ptrTo rb, .string name] w fun e w' => FoaEnds B rb R r p name.data.toList e w' ∧ Below B w w' := by
  have hlen : r.packs.length = p.names.length := by rw [← hr.names]; simp
  have hidx : idxL (r.packs.map fun p => p.name.data.toList) name.data.toList = idxL p.names name.data.toList := by rw [hr.names]
  by_cases hK : idxL p.names name.data.toList < 0
  · have hno : namesOf p name.data.toList = p.names ++ [name.data.toList] := by unfold namesOf; rw [if_pos hK]
    have hnu : numOf p name.data.toList = p.names.length := by unfold numOf; rw [if_pos hK]
    by_cases h6 : p.names.length = 6
    · refine (foa_many B rb R r name w h (by omega) (by omega) S).mono fun e w' he => ⟨Or.inl ⟨by rw [hno]; simp; omega, he.1⟩, he.2.mono hB⟩
    · refine (foa_new B rb R r name w h (by omega) (by omega)).mono fun e w' he => ?_
      obtain ⟨⟨pb, pv', rfl, hR⟩, hb⟩ := he
      refine ⟨Or.inr ⟨by rw [hno]; simp; omega, _, r.packs.length, ⟨pb, name, .slice none 0 0, []⟩, rfl, hR, ?_, by simp, by rw [hnu, hlen], rfl, rfl, rfl, rfl, fun x hx => List.mem_append_left _ hx⟩, hb⟩
      rw [hno]; exact hr.addPack
  · have hno : namesOf p name.data.toList = p.names := by unfold namesOf; rw [if_neg hK]
    have hnu : numOf p name.data.toList = idxL p.names name.data.toList := by unfold numOf; rw [if_neg hK]
    have hk : idxL (r.packs.map fun p => p.name.data.toList) name.data.toList = ((idxL p.names name.data.toList).toNat : Nat) := by rw [hidx]; omega
    refine (foa_old B rb R r name w h (by omega) _ hk).mono fun e w' he => ?_
    obtain ⟨⟨q, hq, rfl⟩, hb⟩ := he
    refine ⟨Or.inr ⟨by rw [hno]; exact hl, r, _, q, rfl, h.on hb, ?_, hq, by rw [hnu]; omega, rfl, rfl, rfl, rfl, fun x hx => hx⟩, hb.mono hB⟩
    rw [hno]; exact hr

end Go.Proofs.YtnmclolbndohiaaGreatDoor

/-
  Plain facts: an entry more, beside the reference's.
-/
namespace Go.Proofs.YtnmclolbndohiaaGreatDoor
open Go.RowKit
open Ver

theorem split_at {α : Type} {l : List α} {k : Nat} {a : α} (h : l[k]? = some a) : ∃ l1 l2, l = l1 ++ a :: l2 ∧ l1.length = k := by
  obtain ⟨hk, rfl⟩ := List.getElem?_eq_some_iff.1 h
  exact ⟨l.take k, l.drop (k + 1), by rw [← List.drop_eq_getElem_cons hk, List.take_append_drop], by simp; omega⟩

/-- The entry begins; its package is the one of that number. -/
theorem RdRel.addEnt {r : CRd} {p : PIdx} {l1 l2 : List CPack} {q : CPack} {E : CEnt} {V : Int} {vt : List UInt8} {ev' : Value} (h : RdRel r p) (hq : r.packs = l1 ++ q :: l2) (hE : E.needs = [] ∧ E.feats = []) (hV : 0 ≤ V ∧ V ≤ 999999999) (hv : E.v0 = V / 1000000 ∧ E.v1 = V / 1000 % 1000 ∧ E.v2 = V % 1000) :
    RdRel ⟨r.ib, r.pv, l1 ++ ⟨q.b, q.name, ev', q.ents ++ [E]⟩ :: l2, some E.b, r.mv, r.mens⟩ ⟨p.names, p.ents ++ [⟨(l1.length : Int), V, vt, [], []⟩]⟩ where
  names := by rw [← h.names, hq]; simp
  ents := fun k q' hk => by
    have hk' : (l1 ++ (⟨q.b, q.name, ev', q.ents ++ [E]⟩ : CPack) :: l2)[k]? = some q' := hk
    show All2 EntRel q'.ents ((p.ents ++ [(⟨(l1.length : Int), V, vt, [], []⟩ : PEnt)]).filter fun e => decide (e.pack = (k : Int)))
    rw [List.filter_append]
    by_cases e : k = l1.length
    · subst e
      rw [List.getElem?_append_right (Nat.le_refl _), Nat.sub_self] at hk'
      have e1 : (⟨q.b, q.name, ev', q.ents ++ [E]⟩ : CPack) = q' := by simpa using hk'
      subst e1
      have ha := h.ents l1.length q (by rw [hq, List.getElem?_append_right (Nat.le_refl _), Nat.sub_self]; rfl)
      have ef : ([(⟨(l1.length : Int), V, vt, [], []⟩ : PEnt)].filter fun e => decide (e.pack = (l1.length : Int))) = [⟨(l1.length : Int), V, vt, [], []⟩] := by simp
      rw [ef]
      refine ha.snoc ⟨hV.1, hV.2, hv.1, hv.2.1, hv.2.2, ?_, ?_⟩
      · rw [hE.1]; exact All2.nil _
      · rw [hE.2]; exact All2.nil _
    · have ef : ([(⟨(l1.length : Int), V, vt, [], []⟩ : PEnt)].filter fun e => decide (e.pack = (k : Int))) = [] := by
        rw [List.filter_eq_nil_iff]
        intro x hx
        simp at hx; subst hx
        simp; omega
      rw [ef, List.append_nil]
      refine h.ents k q' ?_
      rw [hq]
      rcases Nat.lt_or_ge k l1.length with hlt | hge
      · rw [List.getElem?_append_left hlt] at hk' ⊢; exact hk'
      · rw [List.getElem?_append_right hge] at hk' ⊢
        obtain ⟨j, hj⟩ : ∃ j, k - l1.length = j + 1 := ⟨k - l1.length - 1, by omega⟩
        rw [hj] at hk' ⊢
        simpa using hk'
  packs := fun e he => by
    have hlen : r.packs.length = l1.length + 1 + l2.length := by rw [hq]; simp; omega
    rcases List.mem_append.1 he with he | he
    · have := h.packs e he
      simp; omega
    · simp at he; subst he; simp; omega
  cur := by
    have e : (p.ents ++ [(⟨(l1.length : Int), V, vt, [], []⟩ : PEnt)]).getLast? = some ⟨(l1.length : Int), V, vt, [], []⟩ := by simp
    show match (p.ents ++ [(⟨(l1.length : Int), V, vt, [], []⟩ : PEnt)]).getLast? with
      | none => _
      | some e => _
    rw [e]
    exact ⟨⟨q.b, q.name, ev', q.ents ++ [E]⟩, E, by simp, by simp, rfl⟩

end Go.Proofs.YtnmclolbndohiaaGreatDoor

/-
  Plain facts: the whole of what the code's reader keeps, beside the reference's index and the mentions in the order of their lines.
-/
namespace Go.Proofs.YtnmclolbndohiaaGreatDoor
open Go.RowKit
open Ver

theorem All2.mono {α β : Type} {R R' : α → β → Prop} {l : List α} {m : List β} (h : All2 R l m) (hr : ∀ a b, a ∈ l → b ∈ m → R a b → R' a b) : All2 R' l m :=
  ⟨h.len, fun i a b ha hb => hr a b (List.mem_of_getElem? ha) (List.mem_of_getElem? hb) (h.each i a b ha hb)⟩
theorem All2.unsnoc {α β : Type} {R : α → β → Prop} {l : List α} {m : List β} {a : α} {b : β} (h : All2 R (l ++ [a]) (m ++ [b])) : All2 R l m ∧ R a b := by
  have hl : l.length = m.length := by have := h.len; simp at this; omega
  refine ⟨⟨hl, fun i x y hx hy => ?_⟩, ?_⟩
  · obtain ⟨h1, _⟩ := List.getElem?_eq_some_iff.1 hx
    exact h.each i x y (by rw [List.getElem?_append_left h1]; exact hx) (by rw [List.getElem?_append_left (by omega)]; exact hy)
  · exact h.each l.length a b (by simp) (by rw [hl]; simp)

/-- A mention: its line, the number of its entry, what it names. -/
structure PMen where
  line : Int
  ent : Nat
  what : PNeed ⊕ PFeat
def newMen (p : PIdx) (ws : List (List UInt8)) (k : Int) : List PMen :=
  if ws.head? = some packW then []
  else if ws.head? = some needsW then
    match needP false ws with
    | none => []
    | some n => [⟨k, p.ents.length - 1, .inl n⟩]
  else match ws with
    | _ :: nm :: rest => match itemsP rest with
      | none => []
      | some ys => [⟨k, p.ents.length - 1, .inr ⟨nm, ys, k⟩⟩]
    | _ => []
/-- A line, entered, with the mention that it makes. -/
def step2 (s : PIdx × List PMen) (ws : List (List UInt8)) (k : Int) : Option (PIdx × List PMen) := (enterP s.1 ws k).map fun q => (q, s.2 ++ newMen s.1 ws k)

structure OrdR (r : CRd) (ebs : List Nat) (p : PIdx) : Prop where
  nodup : ebs.Nodup
  ents : All2 (fun b e => ∃ q ∈ r.packs, ∃ c ∈ q.ents, c.b = b ∧ EntRel c e) ebs p.ents
  cur : r.cur = ebs.getLast?
structure MenR (r : CRd) (ebs : List Nat) (x : CMen) (y : PMen) : Prop where
  line : x.line = y.line
  ent : ebs[y.ent]? = some x.eb
  what : match x.what, y.what with
    | .inl c, .inl n => c.name.data.toList = n.name ∧ ∃ a k z, c.fv = .slice a k z
    | .inr c, .inr f => FeatRel c f ∧ ∃ q ∈ r.packs, ∃ d ∈ q.ents, d.b = x.eb ∧ c ∈ d.feats
    | _, _ => False
/-- How many needs and features there are. -/
def total (es : List PEnt) : Nat := (es.map fun e => e.needs.length + e.feats.length).sum
theorem total_snoc (es : List PEnt) (e : PEnt) : total (es ++ [e]) = total es + (e.needs.length + e.feats.length) := by unfold total; simp
theorem total_le : ∀ (es : List PEnt), (∀ e ∈ es, e.needs.length ≤ 5 ∧ e.feats.length ≤ 5) → total es ≤ 10 * es.length
  | [], _ => by simp [total]
  | e :: r, h => by
    have h1 := h e (List.mem_cons_self ..)
    have h2 := total_le r fun x hx => h x (List.mem_cons_of_mem _ hx)
    have e1 : total (e :: r) = e.needs.length + e.feats.length + total r := by unfold total; simp
    rw [e1, List.length_cons]; omega
/-- Entries of n packages, of each at most four. -/
theorem few_below (es : List PEnt) (h4 : ∀ k : Int, manyOf es k ≤ 4) : ∀ n : Nat, (es.filter fun e => decide (0 ≤ e.pack ∧ e.pack < (n : Int))).length ≤ 4 * n
  | 0 => by
    rw [List.length_eq_zero_iff.2]
    · omega
    · rw [List.filter_eq_nil_iff]; intro x _; simp
  | n + 1 => by
    have ih := few_below es h4 n
    have hn := h4 (n : Int)
    unfold manyOf at hn
    have key : ∀ l : List PEnt, (l.filter fun e => decide (0 ≤ e.pack ∧ e.pack < ((n + 1 : Nat) : Int))).length = (l.filter fun e => decide (0 ≤ e.pack ∧ e.pack < (n : Int))).length + (l.filter fun e => decide (e.pack = (n : Int))).length := by
      intro l
      induction l with
      | nil => rfl
      | cons a t iht =>
        rw [List.filter_cons, List.filter_cons, List.filter_cons]
        by_cases h1 : a.pack = (n : Int)
        · rw [if_pos (by simp; omega), if_neg (by simp; omega), if_pos (by simpa using h1)]
          simp only [List.length_cons, iht]; omega
        · by_cases h2 : 0 ≤ a.pack ∧ a.pack < (n : Int)
          · rw [if_pos (by simp; omega), if_pos (by simpa using h2), if_neg (by simpa using h1)]
            simp only [List.length_cons, iht]; omega
          · rw [if_neg (by simp; omega), if_neg (by simpa using h2), if_neg (by simpa using h1)]
            exact iht
    rw [key es]; omega
structure Full (r : CRd) (s : PIdx × List PMen) : Prop where
  rel : RdRel r s.1
  ord : ∃ ebs, OrdR r ebs s.1 ∧ All2 (MenR r ebs) r.mens s.2
  cnt : s.2.length = total s.1.ents
theorem Full.few {r : CRd} {p : PIdx} {ms : List PMen} (h : Full r (p, ms)) (h6 : p.names.length ≤ 6) (h4 : ∀ k : Int, manyOf p.ents k ≤ 4) (h5 : ∀ e ∈ p.ents, e.needs.length ≤ 5 ∧ e.feats.length ≤ 5) : r.mens.length ≤ 240 := by
  obtain ⟨ebs, _, hm⟩ := h.ord
  have e1 : r.mens.length = ms.length := hm.len
  have e2 : ms.length = total p.ents := h.cnt
  have e3 := total_le p.ents h5
  have e4 := few_below p.ents h4 6
  have e5 : (p.ents.filter fun e => decide (0 ≤ e.pack ∧ e.pack < ((6 : Nat) : Int))) = p.ents := by
    rw [List.filter_eq_self]
    intro x hx
    have := h.rel.packs x hx
    have hl : r.packs.length = p.names.length := by rw [← h.rel.names]; simp
    simp; omega
  rw [e5] at e4
  omega

theorem Full.start (ib : Nat) : Full ⟨ib, .slice none 0 0, [], none, .slice none 0 0, []⟩ (⟨[], []⟩, []) where
  rel := RdRel.start ib
  ord := ⟨[], ⟨List.nodup_nil, All2.nil _, rfl⟩, All2.nil _⟩
  cnt := rfl

/-- Entries stay, but the one of the block 'keep', which keeps its features. -/
structure Grew (keep : Option Nat) (r r' : CRd) : Prop where
  far : ∀ q ∈ r.packs, ∀ c ∈ q.ents, keep ≠ some c.b → ∃ q' ∈ r'.packs, c ∈ q'.ents
  near : ∀ q ∈ r.packs, ∀ c ∈ q.ents, ∃ q' ∈ r'.packs, ∃ c' ∈ q'.ents, c'.b = c.b ∧ ∀ f ∈ c.feats, f ∈ c'.feats
theorem MenR.grew {keep : Option Nat} {r r' : CRd} {ebs ebs' : List Nat} {x : CMen} {y : PMen} (h : MenR r ebs x y) (g : Grew keep r r') (he : ∀ (i b : Nat), ebs[i]? = some b → ebs'[i]? = some b) : MenR r' ebs' x y where
  line := h.line
  ent := he _ _ h.ent
  what := by
    have hw := h.what
    cases hx : x.what with
    | inl c => cases hy : y.what with
      | inl n => rw [hx, hy] at hw; exact hw
      | inr f => rw [hx, hy] at hw; exact hw
    | inr c => cases hy : y.what with
      | inl n => rw [hx, hy] at hw; exact hw
      | inr f =>
        rw [hx, hy] at hw
        obtain ⟨h1, q, hq, d, hd, hb, hc⟩ := hw
        obtain ⟨q', hq', d', hd', hb', hf⟩ := g.near q hq d hd
        exact ⟨h1, q', hq', d', hd', hb'.trans hb, hf c hc⟩

/-- Another reader, all of whose packages and entries are there still. -/
theorem Full.sub {r r' : CRd} {p : PIdx} {ms : List PMen} {nms : List (List UInt8)} (h : Full r (p, ms)) (hr : RdRel r' ⟨nms, p.ents⟩) (hs : ∀ x ∈ r.packs, x ∈ r'.packs) (hc : r'.cur = r.cur) (hm : r'.mens = r.mens) : Full r' (⟨nms, p.ents⟩, ms) where
  cnt := h.cnt
  rel := hr
  ord := by
    obtain ⟨ebs, ho, hmm⟩ := h.ord
    have g : Grew none r r' := ⟨fun q hq c hc _ => ⟨q, hs q hq, hc⟩, fun q hq c hc => ⟨q, hs q hq, c, hc, rfl, fun _ h => h⟩⟩
    refine ⟨ebs, ⟨ho.nodup, ho.ents.mono fun b e _ _ hb => ?_, hc.trans ho.cur⟩, ?_⟩
    · obtain ⟨q, hq, c, hc, h1⟩ := hb
      exact ⟨q, hs q hq, c, hc, h1⟩
    · rw [hm]
      exact hmm.mono fun x y _ _ hxy => hxy.grew g (fun _ _ h => h)

theorem mem_mid {α : Type} {l1 l2 : List α} {a b x : α} (h : x ∈ l1 ++ a :: l2) : x = a ∨ x ∈ l1 ++ b :: l2 := by
  simp at h ⊢
  rcases h with h | h | h
  · exact Or.inr (Or.inl h)
  · exact Or.inl h
  · exact Or.inr (Or.inr (Or.inr h))

/-- An entry begins. -/
theorem Full.addEnt {r : CRd} {p : PIdx} {ms : List PMen} {l1 l2 : List CPack} {q : CPack} {E : CEnt} {V : Int} {vt : List UInt8} {ev' : Value} (h : Full r (p, ms)) (hq : r.packs = l1 ++ q :: l2) (hE : E.needs = [] ∧ E.feats = []) (hV : 0 ≤ V ∧ V ≤ 999999999) (hv : E.v0 = V / 1000000 ∧ E.v1 = V / 1000 % 1000 ∧ E.v2 = V % 1000) (hfr : ∀ q ∈ r.packs, ∀ c ∈ q.ents, c.b ≠ E.b) :
    Full ⟨r.ib, r.pv, l1 ++ ⟨q.b, q.name, ev', q.ents ++ [E]⟩ :: l2, some E.b, r.mv, r.mens⟩ (⟨p.names, p.ents ++ [⟨(l1.length : Int), V, vt, [], []⟩]⟩, ms) where
  cnt := by
    have := h.cnt
    show ms.length = total (p.ents ++ [_])
    rw [total_snoc]; simpa using this
  rel := h.rel.addEnt hq hE hV hv
  ord := by
    obtain ⟨ebs, ho, hmm⟩ := h.ord
    have keepq : ∀ x ∈ r.packs, ∀ c ∈ x.ents, ∃ x' ∈ l1 ++ (⟨q.b, q.name, ev', q.ents ++ [E]⟩ : CPack) :: l2, c ∈ x'.ents := fun x hx c hc => by
      rw [hq] at hx
      rcases mem_mid (b := (⟨q.b, q.name, ev', q.ents ++ [E]⟩ : CPack)) hx with e | e
      · subst e; exact ⟨_, List.mem_append_right _ (List.mem_cons_self ..), List.mem_append_left _ hc⟩
      · exact ⟨x, e, hc⟩
    have g : Grew none r ⟨r.ib, r.pv, l1 ++ ⟨q.b, q.name, ev', q.ents ++ [E]⟩ :: l2, some E.b, r.mv, r.mens⟩ := ⟨fun x hx c hc _ => keepq x hx c hc, fun x hx c hc => by
      obtain ⟨x', h1, h2⟩ := keepq x hx c hc
      exact ⟨x', h1, c, h2, rfl, fun _ h => h⟩⟩
    refine ⟨ebs ++ [E.b], ⟨?_, ?_, by simp⟩, ?_⟩
    · rw [List.nodup_append]
      refine ⟨ho.nodup, by simp, fun a ha b hb => ?_⟩
      simp at hb; subst hb
      obtain ⟨i, hi, rfl⟩ := List.getElem_of_mem ha
      have hl := ho.ents.len
      have hi' : i < p.ents.length := by have : ebs.length = p.ents.length := hl; omega
      obtain ⟨x, hx, c, hc, h1, _⟩ := ho.ents.each i _ _ (List.getElem?_eq_getElem hi) (List.getElem?_eq_getElem hi')
      exact fun e => hfr x hx c hc (h1.trans e)
    · refine All2.snoc (ho.ents.mono fun b e _ _ hb => ?_) ?_
      · obtain ⟨x, hx, c, hc, h1⟩ := hb
        obtain ⟨x', h2, h3⟩ := keepq x hx c hc
        exact ⟨x', h2, c, h3, h1⟩
      · refine ⟨⟨q.b, q.name, ev', q.ents ++ [E]⟩, List.mem_append_right _ (List.mem_cons_self ..), E, by simp, rfl, hV.1, hV.2, hv.1, hv.2.1, hv.2.2, ?_, ?_⟩
        · rw [hE.1]; exact All2.nil _
        · rw [hE.2]; exact All2.nil _
    · exact hmm.mono fun x y _ _ hxy => hxy.grew g (fun i b hb => by
        obtain ⟨h1, _⟩ := List.getElem?_eq_some_iff.1 hb
        rw [List.getElem?_append_left h1]; exact hb)

theorem snoc_of_last {α : Type} {l : List α} {a : α} (h : l.getLast? = some a) : l = l.dropLast ++ [a] := by
  have hne : l ≠ [] := fun e => by rw [e] at h; cases h
  rw [List.getLast?_eq_some_getLast hne] at h
  cases h
  exact (List.dropLast_concat_getLast hne).symm

/-- The entry that began last. -/
theorem RdRel.last {r : CRd} {p : PIdx} (h : RdRel r p) {e : PEnt} (he : p.ents.getLast? = some e) : ∃ l1 q l2 es c, r.packs = l1 ++ q :: l2 ∧ (l1.length : Int) = e.pack ∧ q.ents = es ++ [c] ∧ r.cur = some c.b ∧ EntRel c e := by
  have hc := h.cur
  rw [he] at hc
  obtain ⟨q, c, h1, h2, h3⟩ := hc
  have hp := h.packs e (List.mem_of_getLast? he)
  obtain ⟨l1, l2, hl, hk⟩ := split_at h1
  have hkk : (l1.length : Int) = e.pack := by omega
  have ha := h.ents l1.length q (by rw [hk]; exact h1)
  have hq := snoc_of_last h2
  have hpe := snoc_of_last he
  rw [hpe, hq, List.filter_append] at ha
  have ef : ([e].filter fun x => decide (x.pack = (l1.length : Int))) = [e] := by simp [hkk]
  rw [ef] at ha
  exact ⟨l1, q, l2, _, c, hl, hkk, hq, h3, ha.unsnoc.2⟩

/-- The entry that began last has one thing more. -/
theorem RdRel.setLast {r : CRd} {p : PIdx} {l1 l2 : List CPack} {q : CPack} {es : List CEnt} {c c' : CEnt} {e e' : PEnt} {mv' : Value} {mens' : List CMen} (h : RdRel r p) (he : p.ents.getLast? = some e) (hq : r.packs = l1 ++ q :: l2) (hk : (l1.length : Int) = e.pack) (hes : q.ents = es ++ [c]) (hb : c'.b = c.b) (hp : e'.pack = e.pack) (hr : EntRel c' e') :
    RdRel ⟨r.ib, r.pv, l1 ++ ⟨q.b, q.name, q.ev, es ++ [c']⟩ :: l2, r.cur, mv', mens'⟩ ⟨p.names, p.ents.dropLast ++ [e']⟩ where
  names := by rw [← h.names, hq]; simp
  ents := fun k q' hk' => by
    have hk'' : (l1 ++ (⟨q.b, q.name, q.ev, es ++ [c']⟩ : CPack) :: l2)[k]? = some q' := hk'
    show All2 EntRel q'.ents ((p.ents.dropLast ++ [e']).filter fun e => decide (e.pack = (k : Int)))
    have hpe := snoc_of_last he
    rw [List.filter_append]
    by_cases ek : k = l1.length
    · subst ek
      rw [List.getElem?_append_right (Nat.le_refl _), Nat.sub_self] at hk''
      have e1 : (⟨q.b, q.name, q.ev, es ++ [c']⟩ : CPack) = q' := by simpa using hk''
      subst e1
      have ha := h.ents l1.length q (by rw [hq, List.getElem?_append_right (Nat.le_refl _), Nat.sub_self]; rfl)
      rw [hpe, hes, List.filter_append] at ha
      have ef : ([e].filter fun x => decide (x.pack = (l1.length : Int))) = [e] := by simp [hk]
      have ef' : ([e'].filter fun x => decide (x.pack = (l1.length : Int))) = [e'] := by simp [hk, hp]
      rw [ef] at ha
      rw [ef']
      exact ha.unsnoc.1.snoc hr
    · have ef' : ([e'].filter fun x => decide (x.pack = (k : Int))) = [] := by
        rw [List.filter_eq_nil_iff]
        intro x hx
        simp at hx; subst hx
        simp; omega
      have ef : ([e].filter fun x => decide (x.pack = (k : Int))) = [] := by
        rw [List.filter_eq_nil_iff]
        intro x hx
        simp at hx; subst hx
        simp; omega
      have ha := h.ents k q' (by
        rw [hq]
        rcases Nat.lt_or_ge k l1.length with hlt | hge
        · rw [List.getElem?_append_left hlt] at hk'' ⊢; exact hk''
        · rw [List.getElem?_append_right hge] at hk'' ⊢
          obtain ⟨j, hj⟩ : ∃ j, k - l1.length = j + 1 := ⟨k - l1.length - 1, by omega⟩
          rw [hj] at hk'' ⊢
          simpa using hk'')
      rw [hpe, List.filter_append, ef] at ha
      rw [ef']; exact ha
  packs := fun x hx => by
    have hlen : (l1 ++ (⟨q.b, q.name, q.ev, es ++ [c']⟩ : CPack) :: l2).length = r.packs.length := by rw [hq]; simp
    show 0 ≤ x.pack ∧ x.pack < ((l1 ++ (⟨q.b, q.name, q.ev, es ++ [c']⟩ : CPack) :: l2).length : Nat)
    rw [hlen]
    rcases List.mem_append.1 hx with hx | hx
    · exact h.packs x (List.dropLast_subset _ hx)
    · simp at hx; subst hx
      rw [hp]; exact h.packs e (List.mem_of_getLast? he)
  cur := by
    have e1 : (p.ents.dropLast ++ [e']).getLast? = some e' := by simp
    show match (p.ents.dropLast ++ [e']).getLast? with
      | none => _
      | some e => _
    rw [e1]
    refine ⟨⟨q.b, q.name, q.ev, es ++ [c']⟩, c', ?_, by simp, ?_⟩
    · have : e'.pack.toNat = l1.length := by omega
      rw [this]; simp
    · have hc := h.cur
      rw [he] at hc
      obtain ⟨q2, c2, h1, h2, h3⟩ := hc
      have : e.pack.toNat = l1.length := by omega
      rw [this, hq, List.getElem?_append_right (Nat.le_refl _), Nat.sub_self] at h1
      have e2 : q = q2 := by simpa using h1
      subst e2
      rw [hes] at h2
      have e3 : c = c2 := by simpa using h2
      subst e3
      show r.cur = some c'.b
      rw [hb]; exact h3

theorem OrdR.setLast {r : CRd} {p : PIdx} {ebs : List Nat} {l1 l2 : List CPack} {q : CPack} {es : List CEnt} {c c' : CEnt} {e e' : PEnt} {mv' : Value} {mens' : List CMen} (h : OrdR r ebs p) (he : p.ents.getLast? = some e) (hq : r.packs = l1 ++ q :: l2) (hes : q.ents = es ++ [c]) (hcu : r.cur = some c.b) (hb : c'.b = c.b) (hr : EntRel c' e') :
    OrdR ⟨r.ib, r.pv, l1 ++ ⟨q.b, q.name, q.ev, es ++ [c']⟩ :: l2, r.cur, mv', mens'⟩ ebs ⟨p.names, p.ents.dropLast ++ [e']⟩ where
  nodup := h.nodup
  ents := by
    have hpe := snoc_of_last he
    have hbe := snoc_of_last (h.cur.symm.trans hcu)
    have ha := h.ents
    rw [hpe, hbe] at ha
    show All2 _ ebs (p.ents.dropLast ++ [e'])
    have hnd := h.nodup
    rw [hbe] at hnd ⊢
    refine All2.snoc (ha.unsnoc.1.mono fun b x hb' _ hx => ?_) ⟨⟨q.b, q.name, q.ev, es ++ [c']⟩, List.mem_append_right _ (List.mem_cons_self ..), c', by simp, hb, hr⟩
    obtain ⟨y, hy, d, hd, h1, h2⟩ := hx
    have hne : d ≠ c := fun e => by
      subst e
      rw [List.nodup_append] at hnd
      exact hnd.2.2 b hb' d.b (by simp) h1.symm
    rw [hq] at hy
    rcases mem_mid (b := (⟨q.b, q.name, q.ev, es ++ [c']⟩ : CPack)) hy with e2 | e2
    · subst e2
      refine ⟨_, List.mem_append_right _ (List.mem_cons_self ..), d, ?_, h1, h2⟩
      rw [hes] at hd
      simp at hd ⊢
      exact Or.inl (hd.resolve_right hne)
    · exact ⟨y, e2, d, hd, h1, h2⟩
  cur := h.cur

/-- A need more, and its mention; a feature more, and its mention. -/
theorem Full.setLast {r : CRd} {p : PIdx} {ms : List PMen} {l1 l2 : List CPack} {q : CPack} {es : List CEnt} {c c' : CEnt} {e e' : PEnt} {mv' : Value} {x : CMen} {y : PMen} (h : Full r (p, ms)) (he : p.ents.getLast? = some e) (hq : r.packs = l1 ++ q :: l2) (hk : (l1.length : Int) = e.pack) (hes : q.ents = es ++ [c]) (hcu : r.cur = some c.b) (hb : c'.b = c.b) (hp : e'.pack = e.pack) (hr : EntRel c' e')
    (hf : ∀ f ∈ c.feats, f ∈ c'.feats) (hx : x.eb = c.b) (hy : y.ent = p.ents.length - 1) (hl : x.line = y.line) (hct : e'.needs.length + e'.feats.length = e.needs.length + e.feats.length + 1)
    (hw : match x.what, y.what with
      | .inl d, .inl n => d.name.data.toList = n.name ∧ ∃ a k z, d.fv = .slice a k z
      | .inr d, .inr f => FeatRel d f ∧ d ∈ c'.feats
      | _, _ => False) :
    Full ⟨r.ib, r.pv, l1 ++ ⟨q.b, q.name, q.ev, es ++ [c']⟩ :: l2, r.cur, mv', r.mens ++ [x]⟩ (⟨p.names, p.ents.dropLast ++ [e']⟩, ms ++ [y]) where
  cnt := by
    have h1 : ms.length = total p.ents := h.cnt
    have h2 := snoc_of_last he
    show (ms ++ [y]).length = total (p.ents.dropLast ++ [e'])
    rw [h2, total_snoc] at h1
    rw [total_snoc, List.length_append, List.length_singleton, h1]; omega
  rel := h.rel.setLast he hq hk hes hb hp hr
  ord := by
    obtain ⟨ebs, ho, hmm⟩ := h.ord
    have g : Grew (some c.b) r ⟨r.ib, r.pv, l1 ++ ⟨q.b, q.name, q.ev, es ++ [c']⟩ :: l2, r.cur, mv', r.mens ++ [x]⟩ := by
      constructor
      · intro z hz d hd hne
        have hne' : d ≠ c := fun e => hne (by rw [e])
        rw [hq] at hz
        rcases mem_mid (b := (⟨q.b, q.name, q.ev, es ++ [c']⟩ : CPack)) hz with e2 | e2
        · subst e2
          refine ⟨_, List.mem_append_right _ (List.mem_cons_self ..), ?_⟩
          rw [hes] at hd
          simp at hd ⊢
          exact Or.inl (hd.resolve_right hne')
        · exact ⟨z, e2, hd⟩
      · intro z hz d hd
        rw [hq] at hz
        rcases mem_mid (b := (⟨q.b, q.name, q.ev, es ++ [c']⟩ : CPack)) hz with e2 | e2
        · subst e2
          refine ⟨_, List.mem_append_right _ (List.mem_cons_self ..), ?_⟩
          rw [hes] at hd
          simp at hd
          rcases hd with hd | hd
          · exact ⟨d, by simp [hd], rfl, fun _ h => h⟩
          · subst hd; exact ⟨c', by simp, hb, hf⟩
        · exact ⟨z, e2, d, hd, rfl, fun _ h => h⟩
    refine ⟨ebs, ho.setLast he hq hes hcu hb hr, ?_⟩
    show All2 _ (r.mens ++ [x]) (ms ++ [y])
    refine All2.snoc (hmm.mono fun a b _ _ hab => hab.grew g (fun _ _ h => h)) ⟨hl, ?_, ?_⟩
    · have hbe := h.rel
      have h1 : ebs.getLast? = some c.b := ho.cur.symm.trans hcu
      have h2 : ebs.length = p.ents.length := ho.ents.len
      rw [hy, hx, ← h2, ← List.getLast?_eq_getElem?]; exact h1
    · cases hxw : x.what with
      | inl d => cases hyw : y.what with
        | inl n => rw [hxw, hyw] at hw; exact hw
        | inr f => rw [hxw, hyw] at hw; exact hw
      | inr d => cases hyw : y.what with
        | inl n => rw [hxw, hyw] at hw; exact hw
        | inr f =>
          rw [hxw, hyw] at hw
          exact ⟨hw.1, ⟨q.b, q.name, q.ev, es ++ [c']⟩, List.mem_append_right _ (List.mem_cons_self ..), c', by simp, hb.trans hx.symm, hw.2⟩

end Go.Proofs.YtnmclolbndohiaaGreatDoor

/-
  The walk of the code's 'takePackage', name and version being right.
-/
namespace Go.Proofs.YtnmclolbndohiaaGreatDoor
open Go.RowKit
open Ver
attribute [local go_sem ↓] Go.wp_at_zero Go.wp_at_succ

theorem Tryz.infoEntPtr : (Tryz.prog.info? 124).map (fun i => (i.zero, i.size, i.bytes)) = some (some (.pointer none), 1, 8) := by kernel_rfl

/-- How a taker of lines ends. -/
def TkEnds (B rb : Nat) (R : List Hold) (o : Option (PIdx × List PMen)) (e : Ending) (w' : World) : Prop :=
  (o = none → ∃ t p, e = .returned (.iface t p)) ∧ ∀ s', o = some s' → e = .returned .nilIface ∧ ∃ r', RdR B rb R r' w' ∧ Full r' s'
theorem tk_no {B rb : Nat} {R : List Hold} {o : Option (PIdx × List PMen)} {t : TypeId} {p : Value} {w' : World} (h : o = none) : TkEnds B rb R o (.returned (.iface t p)) w' :=
  ⟨fun _ => ⟨t, p, rfl⟩, fun p' h' => by rw [h] at h'; cases h'⟩
theorem tk_yes {B rb : Nat} {R : List Hold} {o : Option (PIdx × List PMen)} {s : PIdx × List PMen} {r' : CRd} {w' : World} (h : o = some s) (h1 : RdR B rb R r' w') (h2 : Full r' s) : TkEnds B rb R o (.returned .nilIface) w' :=
  ⟨fun h' => (by rw [h] at h'; cases h'), fun p' h' => (by rw [h] at h'; cases h'; exact ⟨rfl, r', h1, h2⟩)⟩

theorem RdR.addHold {B rb : Nat} {R : List Hold} {r : CRd} {w : World} {t : TypeId} {cs : Array Value} {sz : Nat} (h : RdR B rb R r w) (hs : cs.size = sz) (hB : B ≤ w.heap.size) : RdR B rb (boxed t sz w.heap.size cs.toList :: R) r (w.alloc (.cells cs t)) :=
  ⟨(h.forest.alloc _).cons (boxed_new hs hB) (fun k hk hm => by
    have e : w.heap.size = k := by simpa [boxed, Value.ownBlock] using hk
    subst e
    have := (h.forest.lt hm).2
    omega)⟩

/-- What 'Find' asks of a package's entries. -/
theorem RdR.find {B rb : Nat} {R : List Hold} {r : CRd} {w : World} (h : RdR B rb R r w) {q : CPack} (hq : q ∈ r.packs) (hl : q.ents.length ≤ 1048576) (v0 v1 v2 : Int) :
    Calls Tryz.prog 95 #[ptrTo q.b, .agg #[.int .i64 v0, .int .i64 v1, .int .i64 v2]] w fun e w' => (∃ v, e = .returned (.pointer v) ∧ v.isNone = decide (idxV (q.ents.map CEnt.ver) (v0, v1, v2) < 0)) ∧ Below w.heap.size w w' := by
  have hp := h.pack hq
  refine find_any q.b q.ev q.ents v0 v1 v2 w hl hp.1 hp.2.2.2 (RowR.of_owns (h.own (x := q.he) ?_)) (fun c hc => ?_)
  · simp only [CRd.holds, List.mem_cons, List.mem_flatMap]
    exact Or.inr (Or.inr (Or.inr (Or.inr ⟨q, hq, by simp [CPack.holds]⟩)))
  · have ho : c.hb.own B w := h.own (by
      simp only [CRd.holds, List.mem_cons, List.mem_flatMap]
      refine Or.inr (Or.inr (Or.inr (Or.inr ⟨q, hq, ?_⟩)))
      simp only [CPack.holds, List.mem_cons, List.mem_flatMap]
      exact Or.inr (Or.inr ⟨c, hc, by simp [CEnt.holds]⟩))
    exact ⟨(boxed_lt ho).2, fun o ho' => boxed_cell ho o (by omega)⟩

/-- The errors stay where only blocks above them turn. -/
theorem Sent.above {B : Nat} {w w' : World} (h : Sent w) (hb : Below B w w') (hB : ∀ k ∈ sentL, k < B) : Sent w' where
  cell := fun k hk => by
    obtain ⟨t, p, hc⟩ := h.cell k hk
    exact ⟨t, p, (hb.cell (p := ⟨k, 0, none⟩) (hB k hk)).trans hc⟩
  lt := fun k hk => Nat.lt_of_lt_of_le (h.lt k hk) hb.size

/-- Blocks of entries lie within the heap. -/
theorem RdR.entry {B rb : Nat} {R : List Hold} {r : CRd} {w : World} (h : RdR B rb R r w) {q : CPack} (hq : q ∈ r.packs) {c : CEnt} (hc : c ∈ q.ents) : c.b < w.heap.size ∧ B ≤ c.b ∧ (∀ o, o < 5 → w.cell? ⟨c.b, o, none⟩ = c.cells[o]?) ∧ c.hn.own B w ∧ c.hf.own B w ∧ (∀ n ∈ c.needs, n.hold.own B w) ∧ ∀ f ∈ c.feats, f.hold.own B w := by
  have hm : ∀ x ∈ c.holds, x ∈ r.holds rb := fun x hx => by
    simp only [CRd.holds, List.mem_cons, List.mem_flatMap]
    refine Or.inr (Or.inr (Or.inr (Or.inr ⟨q, hq, ?_⟩)))
    simp only [CPack.holds, List.mem_cons, List.mem_flatMap]
    exact Or.inr (Or.inr ⟨c, hc, hx⟩)
  have ho : c.hb.own B w := h.own (hm _ (by simp [CEnt.holds]))
  exact ⟨(boxed_lt ho).2, (boxed_lt ho).1, fun o ho' => boxed_cell ho o ho', h.own (hm _ (by simp [CEnt.holds])), h.own (hm _ (by simp [CEnt.holds])), fun n hn => h.own (hm _ (by simp [CEnt.holds]; exact Or.inr (Or.inr (Or.inr (Or.inl ⟨n, hn, rfl⟩))))), fun f hf => h.own (hm _ (by simp [CEnt.holds]; exact Or.inr (Or.inr (Or.inr (Or.inr ⟨f, hf, rfl⟩)))))⟩

/-- How many there may be. -/
structure Bd (p : PIdx) : Prop where
  names : p.names.length ≤ 6
  vers : ∀ k : Int, manyOf p.ents k ≤ 4
  each : ∀ e ∈ p.ents, e.needs.length ≤ 5 ∧ e.feats.length ≤ 5
  items : ∀ e ∈ p.ents, ∀ f ∈ e.feats, f.items.length ≤ 5
theorem Bd.start : Bd ⟨[], []⟩ where
  names := by simp
  vers := fun k => by simp [manyOf]
  each := fun e h => nomatch h
  items := fun e h => nomatch h
theorem manyOf_last {p : PIdx} {e e' : PEnt} (he : p.ents.getLast? = some e) (hp : e'.pack = e.pack) (k : Int) : manyOf (p.ents.dropLast ++ [e']) k = manyOf p.ents k := by
  have hpe := snoc_of_last he
  conv => rhs; rw [hpe]
  unfold manyOf
  rw [List.filter_append, List.filter_append, List.length_append, List.length_append]
  congr 1
  by_cases h : e.pack = k
  · simp [h, hp]
  · simp [h, hp]
theorem Bd.step {p q : PIdx} {ws : List (List UInt8)} {line : Int} (h : Bd p) (he : enterP p ws line = some q) : Bd q := by
  unfold enterP at he
  split at he
  · split at he
    · rename_i nm vt _
      unfold packP at he
      split at he
      · rename_i hc
        simp only [Option.some.injEq] at he; subst he
        refine ⟨hc.2.2.2, fun k => ?_, fun e hm => ?_, fun e hm => ?_⟩
        · show manyOf (p.ents ++ [_]) k ≤ 4
          have hk := h.vers k
          have hc3 := hc.2.2.1
          unfold manyOf at hk hc3 ⊢
          rw [List.filter_append, List.length_append]
          by_cases e : numOf p nm = k
          · rw [← e] at hk ⊢; simp; omega
          · simp [e]; omega
        · rcases List.mem_append.1 hm with hm | hm
          · exact h.each e hm
          · simp at hm; subst hm; simp
        · rcases List.mem_append.1 hm with hm | hm
          · exact h.items e hm
          · simp at hm; subst hm; simp
      · cases he
    · cases he
  · split at he
    · cases he
    · rename_i e hl
      have hem := List.mem_of_getLast? hl
      split at he
      · unfold needsP at he
        split at he
        · cases he
        · split at he
          · rename_i hc
            simp only [Option.some.injEq] at he; subst he
            refine ⟨h.names, fun k => ?_, fun x hm => ?_, fun x hm => ?_⟩
            · show manyOf (p.ents.dropLast ++ [_]) k ≤ 4
              rw [manyOf_last hl (by rfl)]; exact h.vers k
            · rcases List.mem_append.1 hm with hm | hm
              · exact h.each x (List.dropLast_subset _ hm)
              · simp at hm; subst hm
                have := h.each e hem
                simp; omega
            · rcases List.mem_append.1 hm with hm | hm
              · exact h.items x (List.dropLast_subset _ hm)
              · simp at hm; subst hm; exact h.items e hem
          · cases he
      · split at he
        · match ws, he with
          | _ :: nm :: rest, he =>
            simp only at he
            unfold featP at he
            split at he
            · rename_i hr
              cases hy : itemsP rest with
              | none => rw [hy] at he; cases he
              | some ys =>
                rw [hy] at he
                simp only at he
                split at he
                · rename_i hc
                  simp only [Option.some.injEq] at he; subst he
                  have hys := itemsP_len rest ys hy
                  refine ⟨h.names, fun k => ?_, fun x hm => ?_, fun x hm => ?_⟩
                  · show manyOf (p.ents.dropLast ++ [_]) k ≤ 4
                    rw [manyOf_last hl (by rfl)]; exact h.vers k
                  · rcases List.mem_append.1 hm with hm | hm
                    · exact h.each x (List.dropLast_subset _ hm)
                    · simp at hm; subst hm
                      have := h.each e hem
                      simp; omega
                  · rcases List.mem_append.1 hm with hm | hm
                    · exact h.items x (List.dropLast_subset _ hm)
                    · simp at hm; subst hm
                      intro f hf
                      simp at hf
                      rcases hf with hf | hf
                      · exact h.items e hem f hf
                      · subst hf; simp; omega
                · cases he
            · cases he
        · cases he

end Go.Proofs.YtnmclolbndohiaaGreatDoor
