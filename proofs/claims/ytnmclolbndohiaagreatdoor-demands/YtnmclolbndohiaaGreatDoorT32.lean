/-
  The walks of the code's three 'missing'.
-/
import Derived.Test.YtnmclolbndohiaaGreatDoorT31
import Derived.Test.YtnmclolbndohiaaGreatDoorT30
namespace Go.Proofs.YtnmclolbndohiaaGreatDoor
open Go.RowKit
open Ver

/-- What the four errors hold that the rows do not list: anything. -/
structure NoV where
  pk : Value
  nd : Value
  ft : Value
  op : Value
def loud : Value → Bool
  | .iface _ _ => true
  | _ => false
def ErrV (v : Value) : Prop := v = .nilIface ∨ ∃ t p, v = .iface t p
theorem ErrV.no {v : Value} (h : ErrV v) (hl : loud v = false) : v = .nilIface := by
  rcases h with h | ⟨t, p, rfl⟩
  · exact h
  · cases hl
structure NoAt (V : NoV) (w : World) : Prop where
  pk : w.cell? ⟨28, 0, none⟩ = some V.pk
  nd : w.cell? ⟨26, 0, none⟩ = some V.nd
  ft : w.cell? ⟨25, 0, none⟩ = some V.ft
  op : w.cell? ⟨27, 0, none⟩ = some V.op
theorem NoAt.on {V : NoV} {w w' : World} {B : Nat} (h : NoAt V w) (hb : Below B w w') (hB : 29 ≤ B) : NoAt V w' where
  pk := (hb.cell (p := ⟨28, 0, none⟩) (by show 28 < B; omega)).trans h.pk
  nd := (hb.cell (p := ⟨26, 0, none⟩) (by show 26 < B; omega)).trans h.nd
  ft := (hb.cell (p := ⟨25, 0, none⟩) (by show 25 < B; omega)).trans h.ft
  op := (hb.cell (p := ⟨27, 0, none⟩) (by show 27 < B; omega)).trans h.op

/-- The four are errors, or nil. -/
def Forms (V : NoV) : Prop := ErrV V.pk ∧ ErrV V.nd ∧ ErrV V.ft ∧ ErrV V.op

/-- Whether something is missing, as it is told. -/
def MissEnds (bad : Bool) (e : Ending) : Prop := ∃ v, e = .returned v ∧ (bad = true → ∃ t p, v = .iface t p) ∧ (bad = false → v = .nilIface)
theorem miss_yes {bad : Bool} {t : TypeId} {p : Value} (h : bad = true) : MissEnds bad (.returned (.iface t p)) := ⟨_, rfl, fun _ => ⟨t, p, rfl⟩, fun h' => (by rw [h] at h'; cases h')⟩
theorem miss_no {bad : Bool} (h : bad = false) : MissEnds bad (.returned .nilIface) := ⟨_, rfl, fun h' => (by rw [h] at h'; cases h'), fun _ => rfl⟩

set_option maxHeartbeats 800000 in
set_option maxRecDepth 100000 in
theorem nmiss_any (B rb eb : Nat) (R : List Hold) (r : CRd) (n : CNeed) (V : NoV) (w : World) (h : RdR B rb R r w) (hl : r.packs.length ≤ 6) (hfv : ∃ a k c, n.fv = .slice a k c) (hV : NoAt V w) (hF : Forms V ∨ 0 ≤ idxL (r.packs.map fun p => p.name.data.toList) n.name.data.toList) (hgn : 29 ≤ w.heap.size) :
    Calls Tryz.prog 276 #[n.val, ptrTo r.ib, ptrTo eb] w fun e w' => MissEnds (decide (idxL (r.packs.map fun p => p.name.data.toList) n.name.data.toList < 0) && loud V.pk) e ∧ Below w.heap.size w w' := by
  have HH : Hid (∀ W : World, Below w.heap.size w W → Calls Tryz.prog 30 #[.pointer (some ⟨r.ib, 0, none⟩), .string n.name] W fun e w' => e = .returned (.bool (decide (0 ≤ idxL (r.packs.map fun p => p.name.data.toList) n.name.data.toList))) ∧ Below W.heap.size W w') := fun W hW => by
    have h' := h.on hW
    exact has_any r.ib r.pv r.packs n.name W (by omega) h'.index.1 h'.index.2.2.1 (RowR.of_owns (h'.own (x := r.hp) (by simp [CRd.holds]))) (fun p hp => ⟨(h'.pack hp).1, (h'.pack hp).2.2.1⟩)
  have HV : Hid (NoAt V w) := hV
  generalize idxL (r.packs.map fun p => p.name.data.toList) n.name.data.toList = K at *
  have HFM : Hid (Forms V ∨ 0 ≤ K) := hF
  clear hF
  obtain ⟨fa, fk, fc, hfv⟩ := hfv
  obtain ⟨nm, st, a, b, c, bare, fv, feats, opt⟩ := n
  simp only at hfv HH
  subst hfv
  have HBAD : Hid ((decide (K < 0) && loud V.pk) = (decide (K < 0) && loud V.pk)) := rfl
  obtain ⟨bad, hbad⟩ : ∃ b, (decide (K < 0) && loud V.pk) = b := ⟨_, rfl⟩
  rw [hbad]
  have HBD : Hid ((decide (K < 0) && loud V.pk) = bad) := hbad
  clear hV h HBAD hbad
  unfold CNeed.val ptrTo
  simp only
  go_enter Tryz.func276, Tryz.ntmps276
  go_wp2_with fail
  refine (HH.out _ ?_).mono ?_
  · first
    | exact (Below.refl _ _).alloc (Nat.le_refl _) _
    | exact Below.refl _ _
  rintro e w1 ⟨rfl, hb1⟩
  have HB1 : Hid (Below w.heap.size w w1) := by
    first
    | exact ((Below.refl _ _).alloc (Nat.le_refl _) _).trans (hb1.mono (by simp))
    | exact hb1
  have hc := (HV.out.on HB1.out hgn).pk
  have hf : ErrV V.pk ∨ 0 ≤ K := HFM.out.imp (fun (h : Forms V) => h.1) id
  clear hb1 HH HV HFM
  generalize V.pk = pk at *
  by_cases hK : K < 0
  · have e1 : decide (0 ≤ K) = false := decide_eq_false (by omega)
    rw [e1]
    rcases hf with (rfl | ⟨t, p, rfl⟩) | hge
    · have HE : Hid (bad = false) := by show _ = _; have := HBD.out; simp [loud] at this; exact this
      clear e1 hK HBD
      go_wp2
      go_ret
      exact ⟨miss_no HE.out, HB1.out⟩
    · have HE : Hid (bad = true) := by show _ = _; have := HBD.out; simp [loud, hK] at this; exact this
      clear e1 hK HBD
      go_wp2
      go_ret
      exact ⟨miss_yes HE.out, HB1.out⟩
    · omega
  · have e1 : decide (0 ≤ K) = true := decide_eq_true (by omega)
    have HE : Hid (bad = false) := by show _ = _; have := HBD.out; simp [hK] at this; exact this
    rw [e1]
    clear e1 hK HBD hf hc
    go_wp2
    go_ret
    exact ⟨miss_no HE.out, HB1.out⟩

/-- What an item of an entry misses. -/
def loudC (V : NoV) (c : CEnt) (y : CItem) : Bool :=
  if y.kind = 0 then decide (idxL (c.feats.map fun f => f.name.data.toList) y.feat.data.toList < 0) && loud V.ft
  else if idxL (c.needs.map fun f => f.name.data.toList) y.pack.data.toList < 0 then loud V.nd
  else (decide (y.kind = 1) && !((c.needs[(idxL (c.needs.map fun f => f.name.data.toList) y.pack.data.toList).toNat]?.map fun n => n.opt).getD true)) && loud V.op
def loudI (V : NoV) (e : PEnt) (y : List UInt8 × List UInt8 × Bool) : Bool :=
  if y.1 = [] then decide (idxL (e.feats.map fun f => f.name) y.2.1 < 0) && loud V.ft
  else if idxL (e.needs.map fun n => n.1.name) y.1 < 0 then loud V.nd
  else (decide (y.2.1 = []) && !((e.needs[(idxL (e.needs.map fun n => n.1.name) y.1).toNat]?.map fun n => n.1.opt).getD true)) && loud V.op
theorem loudC_I {V : NoV} {c : CEnt} {e : PEnt} {y : CItem} (h : EntRel c e) (hy : y.Ok) : loudC V c y = loudI V e y.abs := by
  have e1 : (c.feats.map fun f => f.name.data.toList) = e.feats.map fun f => f.name := h.feats.map _ _ fun a b hab => hab.name
  have e2 : (c.needs.map fun f => f.name.data.toList) = e.needs.map fun f => f.1.name := h.needs.map _ _ fun a b hab => hab.name
  have e3 : (c.needs.map fun f => f.opt) = e.needs.map fun f => f.1.opt := h.needs.map _ _ fun a b hab => hab.opt
  unfold loudC loudI CItem.abs
  simp only
  rw [e1, e2, ← List.getElem?_map, ← List.getElem?_map, e3]
  by_cases h0 : y.kind = 0
  · rw [if_pos h0, if_pos (hy.own.1 h0)]
  · rw [if_neg h0, if_neg (fun h => h0 (hy.own.2 h))]
    have e4 : decide (y.kind = 1) = decide (y.feat.data.toList = []) := by
      by_cases h1 : y.kind = 1
      · rw [decide_eq_true h1, decide_eq_true (hy.dep.1 h1).2]
      · rw [decide_eq_false h1, decide_eq_false (fun h => h1 (hy.dep.2 ⟨fun h' => h0 (hy.own.2 h'), h⟩))]
    rw [e4]
/-- What an item of an entry misses, whether it is told or not. -/
def missC (c : CEnt) (y : CItem) : Bool :=
  if y.kind = 0 then decide (idxL (c.feats.map fun f => f.name.data.toList) y.feat.data.toList < 0)
  else decide (idxL (c.needs.map fun f => f.name.data.toList) y.pack.data.toList < 0) || (decide (y.kind = 1) && !((c.needs[(idxL (c.needs.map fun f => f.name.data.toList) y.pack.data.toList).toNat]?.map fun n => n.opt).getD true))
theorem missC_I {c : CEnt} {e : PEnt} {y : CItem} (h : EntRel c e) (hy : y.Ok) : missC c y = wrongP e y.abs := by
  have e1 : (c.feats.map fun f => f.name.data.toList) = e.feats.map fun f => f.name := h.feats.map _ _ fun a b hab => hab.name
  have e2 : (c.needs.map fun f => f.name.data.toList) = e.needs.map fun f => f.1.name := h.needs.map _ _ fun a b hab => hab.name
  have e3 : (c.needs.map fun f => f.opt) = e.needs.map fun f => f.1.opt := h.needs.map _ _ fun a b hab => hab.opt
  unfold missC wrongP CItem.abs
  simp only
  rw [e1, e2, ← List.getElem?_map, ← List.getElem?_map, e3]
  by_cases h0 : y.kind = 0
  · rw [if_pos h0, if_pos (hy.own.1 h0)]
  · rw [if_neg h0, if_neg (fun h => h0 (hy.own.2 h))]
    have e4 : decide (y.kind = 1) = decide (y.feat.data.toList = []) := by
      by_cases h1 : y.kind = 1
      · rw [decide_eq_true h1, decide_eq_true (hy.dep.1 h1).2]
      · rw [decide_eq_false h1, decide_eq_false (fun h => h1 (hy.dep.2 ⟨fun h' => h0 (hy.own.2 h'), h⟩))]
    rw [e4]
/-- What the entry's two look-ups ask. -/
theorem RdR.needM {B rb : Nat} {R : List Hold} {r : CRd} {w : World} (h : RdR B rb R r w) {q : CPack} (hq : q ∈ r.packs) {c : CEnt} (hc : c ∈ q.ents) (hl : c.needs.length ≤ 5) (x : ByteArray) :
    Calls Tryz.prog 141 #[ptrTo c.b, .string x] w fun e w' => (∃ n : CNeed, e = .returned (.tuple #[n.val, .bool (decide (0 ≤ idxL (c.needs.map fun p => p.name.data.toList) x.data.toList))]) ∧ (0 ≤ idxL (c.needs.map fun p => p.name.data.toList) x.data.toList → c.needs[(idxL (c.needs.map fun p => p.name.data.toList) x.data.toList).toNat]? = some n) ∧ ∃ a k c, n.fv = .slice a k c) ∧ Below w.heap.size w w' := by
  have he := h.entry hq hc
  refine needM_any c.b c.nv c.needs x w (by omega) he.1 (he.2.2.1 3 (by omega)) (RowR.of_owns he.2.2.2.1) (fun n hn => ?_)
  obtain ⟨a, k, hv⟩ := (RowR.of_owns (he.2.2.2.2.2.1 n hn)).form
  exact ⟨a, _, k, hv⟩
theorem RdR.featM {B rb : Nat} {R : List Hold} {r : CRd} {w : World} (h : RdR B rb R r w) {q : CPack} (hq : q ∈ r.packs) {c : CEnt} (hc : c ∈ q.ents) (hl : c.feats.length ≤ 5) (x : ByteArray) :
    Calls Tryz.prog 143 #[ptrTo c.b, .string x] w fun e w' => (∃ n : CFeat, e = .returned (.tuple #[n.val, .bool (decide (0 ≤ idxL (c.feats.map fun p => p.name.data.toList) x.data.toList))]) ∧ (0 ≤ idxL (c.feats.map fun p => p.name.data.toList) x.data.toList → c.feats[(idxL (c.feats.map fun p => p.name.data.toList) x.data.toList).toNat]? = some n) ∧ ∃ a k c, n.iv = .slice a k c) ∧ Below w.heap.size w w' := by
  have he := h.entry hq hc
  refine featM_any c.b c.fv c.feats x w (by omega) he.1 (he.2.2.1 4 (by omega)) (RowR.of_owns he.2.2.2.2.1) (fun n hn => ?_)
  obtain ⟨a, k, hv⟩ := (RowR.of_owns (he.2.2.2.2.2.2 n hn)).form
  exact ⟨a, _, k, hv⟩

set_option maxHeartbeats 1600000 in
set_option maxRecDepth 100000 in
theorem imiss_any (B rb : Nat) (R : List Hold) (r : CRd) (q : CPack) (c : CEnt) (y : CItem) (V : NoV) (w : World) (h : RdR B rb R r w) (hq : q ∈ r.packs) (hc : c ∈ q.ents) (hl : c.needs.length ≤ 5 ∧ c.feats.length ≤ 5) (hV : NoAt V w) (hF : Forms V ∨ missC c y = false) (hgn : 29 ≤ w.heap.size) :
    Calls Tryz.prog 263 #[.agg #[.int .i64 y.kind, .string y.pack, .string y.feat], ptrTo c.b] w fun e w' => MissEnds (loudC V c y) e ∧ Below w.heap.size w w' := by
  have HF : Hid (∀ W : World, Below w.heap.size w W → Calls Tryz.prog 143 #[.pointer (some ⟨c.b, 0, none⟩), .string y.feat] W fun e w' => (∃ n : CFeat, e = .returned (.tuple #[n.val, .bool (decide (0 ≤ idxL (c.feats.map fun p => p.name.data.toList) y.feat.data.toList))]) ∧ (0 ≤ idxL (c.feats.map fun p => p.name.data.toList) y.feat.data.toList → c.feats[(idxL (c.feats.map fun p => p.name.data.toList) y.feat.data.toList).toNat]? = some n) ∧ ∃ a k c, n.iv = .slice a k c) ∧ Below W.heap.size W w') := fun W hW => (h.on hW).featM hq hc hl.2 _
  have HN : Hid (∀ W : World, Below w.heap.size w W → Calls Tryz.prog 141 #[.pointer (some ⟨c.b, 0, none⟩), .string y.pack] W fun e w' => (∃ n : CNeed, e = .returned (.tuple #[n.val, .bool (decide (0 ≤ idxL (c.needs.map fun p => p.name.data.toList) y.pack.data.toList))]) ∧ (0 ≤ idxL (c.needs.map fun p => p.name.data.toList) y.pack.data.toList → c.needs[(idxL (c.needs.map fun p => p.name.data.toList) y.pack.data.toList).toNat]? = some n) ∧ ∃ a k c, n.fv = .slice a k c) ∧ Below W.heap.size W w') := fun W hW => (h.on hW).needM hq hc hl.1 _
  have HV : Hid (NoAt V w) := hV
  have HM : Hid (loudC V c y = if y.kind = 0 then decide (idxL (c.feats.map fun f => f.name.data.toList) y.feat.data.toList < 0) && loud V.ft
    else if idxL (c.needs.map fun f => f.name.data.toList) y.pack.data.toList < 0 then loud V.nd
    else (decide (y.kind = 1) && !((c.needs[(idxL (c.needs.map fun f => f.name.data.toList) y.pack.data.toList).toNat]?.map fun n => n.opt).getD true)) && loud V.op) := rfl
  have HMC : Hid (Forms V ∨ (if y.kind = 0 then decide (idxL (c.feats.map fun f => f.name.data.toList) y.feat.data.toList < 0)
    else decide (idxL (c.needs.map fun f => f.name.data.toList) y.pack.data.toList < 0) || (decide (y.kind = 1) && !((c.needs[(idxL (c.needs.map fun f => f.name.data.toList) y.pack.data.toList).toNat]?.map fun n => n.opt).getD true))) = false) := hF
  clear hF
  generalize loudC V c y = bad at *
  obtain ⟨kd, yp, yf⟩ := y
  simp only at HF HN HM HMC
  generalize idxL (c.feats.map fun p => p.name.data.toList) yf.data.toList = KF at *
  generalize idxL (c.needs.map fun p => p.name.data.toList) yp.data.toList = KN at *
  clear hV h hl hq hc
  unfold ptrTo
  simp only
  by_cases h0 : kd = 0
  · subst h0
    have HM' : Hid (bad = (decide (KF < 0) && loud V.ft)) := HM.out.trans (if_pos rfl)
    have HMC0 : Hid (ErrV V.ft ∨ 0 ≤ KF) := HMC.out.imp (fun (h : Forms V) => h.2.2.1) (fun h => by have := of_decide_eq_false ((if_pos rfl).symm.trans h); omega)
    clear HM HN HMC
    go_enter Tryz.func263, Tryz.ntmps263
    go_wp2_with fail
    refine (HF.out _ ?_).mono ?_
    · first
      | exact (Below.refl _ _).alloc (Nat.le_refl _) _
      | exact Below.refl _ _
    rintro e w1 ⟨⟨⟨fnm, fiv, fits⟩, rfl, _, fa, fk, fc, hfi⟩, hb1⟩
    simp only at hfi
    subst hfi
    have HB1 : Hid (Below w.heap.size w w1) := by
      first
      | exact ((Below.refl _ _).alloc (Nat.le_refl _) _).trans (hb1.mono (by simp))
      | exact hb1
    have hc := (HV.out.on HB1.out hgn).ft
    have hgl : 25 < w1.heap.size := by have := HB1.out.size; omega
    have hf : ErrV V.ft ∨ 0 ≤ KF := HMC0.out
    clear hb1 HF HV HMC0
    generalize V.ft = pk at *
    unfold CFeat.val
    simp only
    by_cases hK : KF < 0
    · have e1 : decide (0 ≤ KF) = false := decide_eq_false (by omega)
      rw [e1]
      rcases hf with (rfl | ⟨t, p, rfl⟩) | hge
      · have HE : Hid (bad = false) := by show _ = _; rw [HM'.out]; simp [loud]
        clear e1 hK HM'
        go_wp2
        go_ret
        exact ⟨miss_no HE.out, HB1.out.alloc HB1.out.size _⟩
      · have HE : Hid (bad = true) := by show _ = _; rw [HM'.out]; simp [loud, hK]
        clear e1 hK HM'
        go_wp2
        go_ret
        exact ⟨miss_yes HE.out, HB1.out.alloc HB1.out.size _⟩
      · omega
    · have e1 : decide (0 ≤ KF) = true := decide_eq_true (by omega)
      have HE : Hid (bad = false) := by show _ = _; rw [HM'.out]; simp [hK]
      rw [e1]
      clear e1 hK HM' hf hc
      go_wp2
      go_ret
      exact ⟨miss_no HE.out, HB1.out.alloc HB1.out.size _⟩
  · have HM' : Hid (bad = if KN < 0 then loud V.nd else (decide (kd = 1) && !((c.needs[KN.toNat]?.map fun n => n.opt).getD true)) && loud V.op) := HM.out.trans (if_neg h0)
    have k0 : (kd == 0) = false := by simpa using h0
    have HMC1 : Hid (ErrV V.nd ∨ 0 ≤ KN) := HMC.out.imp (fun (h : Forms V) => h.2.1) (fun h => by
      rw [if_neg h0, Bool.or_eq_false_iff] at h
      have := of_decide_eq_false h.1
      omega)
    have HMC2 : Hid (ErrV V.op ∨ (decide (kd = 1) && !((c.needs[KN.toNat]?.map fun n => n.opt).getD true)) = false) := HMC.out.imp (fun (h : Forms V) => h.2.2.2) (fun h => by
      rw [if_neg h0, Bool.or_eq_false_iff] at h
      exact h.2)
    clear HM HF HMC
    go_enter Tryz.func263, Tryz.ntmps263
    go_wp2_with fail
    refine (HN.out _ ?_).mono ?_
    · first
      | exact (Below.refl _ _).alloc (Nat.le_refl _) _
      | exact Below.refl _ _
    rintro e w1 ⟨⟨⟨nnm, nst, na, nb, nc, nbare, nfv, nfeats, nopt⟩, rfl, hfn, fa, fk, fc, hfi⟩, hb1⟩
    simp only at hfi
    subst hfi
    have HFN : Hid (0 ≤ KN → c.needs[KN.toNat]? = some ⟨nnm, nst, na, nb, nc, nbare, .slice fa fk fc, nfeats, nopt⟩) := hfn
    have HB1 : Hid (Below w.heap.size w w1) := by
      first
      | exact ((Below.refl _ _).alloc (Nat.le_refl _) _).trans (hb1.mono (by simp))
      | exact hb1
    have hcn := (HV.out.on HB1.out hgn).nd
    have hgl1 : 26 < w1.heap.size := by have := HB1.out.size; omega
    have hgl2 : 27 < w1.heap.size := by have := HB1.out.size; omega
    have hcp := (HV.out.on HB1.out hgn).op
    have hfn1 : ErrV V.nd ∨ 0 ≤ KN := HMC1.out
    have HFP : Hid (ErrV V.op ∨ (decide (kd = 1) && !((c.needs[KN.toNat]?.map fun n => n.opt).getD true)) = false) := HMC2.out
    clear HMC1 HMC2
    have hy : ∀ o, w1.cell? ⟨w.heap.size, o, none⟩ = #[Value.int .i64 kd, .string yp, .string yf][o]? := fun o => by
      rw [hb1.cell (p := ⟨w.heap.size, o, none⟩) (by simp)]
      exact World.cell?_alloc_at _ _ _ _ rfl
    have y0 := hy 0
    simp at y0
    have hl1 : w.heap.size < w1.heap.size := by have := hb1.size; simp at this; omega
    clear hb1 HN HV hy hfn
    generalize V.nd = vn at *
    generalize V.op = vo at *
    have hfp := HFP.out
    clear HFP
    unfold CNeed.val
    simp only
    by_cases hK : KN < 0
    · have e1 : decide (0 ≤ KN) = false := decide_eq_false (by omega)
      rw [e1]
      have HM2 : Hid (bad = loud vn) := HM'.out.trans (if_pos hK)
      rcases hfn1 with (rfl | ⟨t, p, rfl⟩) | hge
      · have HE : Hid (bad = false) := HM2.out
        clear e1 hK HM' HM2 hfp HFN hcp
        go_wp2
        go_ret
        exact ⟨miss_no HE.out, HB1.out.alloc HB1.out.size _⟩
      · have HE : Hid (bad = true) := HM2.out
        clear e1 hK HM' HM2 hfp HFN hcp
        go_wp2
        go_ret
        exact ⟨miss_yes HE.out, HB1.out.alloc HB1.out.size _⟩
      · omega
    · have e1 : decide (0 ≤ KN) = true := decide_eq_true (by omega)
      rw [e1]
      have HM2 : Hid (bad = ((decide (kd = 1) && !nopt) && loud vo)) := by
        show _ = _
        rw [HM'.out, if_neg hK, HFN.out (by omega)]
        rfl
      by_cases h1 : kd = 1
      · subst h1
        cases nopt
        · rcases hfp with (rfl | ⟨t, p, rfl⟩) | hge
          · have HE : Hid (bad = false) := HM2.out
            clear e1 hK HM' HM2 hfn1 HFN hcn
            go_wp2
            go_ret
            exact ⟨miss_no HE.out, HB1.out.alloc HB1.out.size _⟩
          · have HE : Hid (bad = true) := HM2.out
            clear e1 hK HM' HM2 hfn1 HFN hcn
            go_wp2
            go_ret
            exact ⟨miss_yes HE.out, HB1.out.alloc HB1.out.size _⟩
          · rw [HFN.out (by omega)] at hge; cases hge
        · have HE : Hid (bad = false) := HM2.out
          clear e1 hK HM' HM2 hfn1 HFN hcn hfp hcp
          go_wp2
          go_ret
          exact ⟨miss_no HE.out, HB1.out.alloc HB1.out.size _⟩
      · have k1 : (kd == 1) = false := by simpa using h1
        have HE : Hid (bad = false) := by show _ = _; rw [HM2.out, decide_eq_false h1]; rfl
        clear e1 hK HM' HM2 hfn1 HFN hcn hfp hcp
        go_wp2
        go_ret
        exact ⟨miss_no HE.out, HB1.out.alloc HB1.out.size _⟩

end Go.Proofs.YtnmclolbndohiaaGreatDoor

/-
  Plain facts: the first mention that is missing is the least line in which something is named that is not there.
-/
namespace Go.Proofs.YtnmclolbndohiaaGreatDoor
open Go.RowKit
open Ver

def badM (p : PIdx) (m : PMen) : Bool := match m.what with
  | .inl n => decide (idxL p.names n.name < 0)
  | .inr f => match p.ents[m.ent]? with
    | none => false
    | some e => f.items.any (wrongP e)
/-! ### The least line -/
/-! ### The mentions are the needs and the features, in the order of their lines -/
structure MenInv (p : PIdx) (ms : List PMen) (k : Int) : Prop where
  rise : ms.Pairwise fun a b => a.line < b.line
  lt : ∀ m ∈ ms, 0 < m.line ∧ m.line < k
  of : ∀ m ∈ ms, ∃ e, p.ents[m.ent]? = some e ∧ match m.what with
    | .inl n => (n, m.line) ∈ e.needs
    | .inr f => f ∈ e.feats ∧ f.line = m.line
  needs : ∀ i e, p.ents[i]? = some e → ∀ n ∈ e.needs, (⟨n.2, i, .inl n.1⟩ : PMen) ∈ ms
  feats : ∀ i e, p.ents[i]? = some e → ∀ f ∈ e.feats, (⟨f.line, i, .inr f⟩ : PMen) ∈ ms

theorem MenInv.start : MenInv ⟨[], []⟩ [] 1 where
  rise := List.Pairwise.nil
  lt := fun m h => nomatch h
  of := fun m h => nomatch h
  needs := fun i e h => by simp at h
  feats := fun i e h => by simp at h

/-- The last entry has one thing more, or an entry begins. -/
theorem MenInv.same {p q : PIdx} {ms : List PMen} {k : Int} (h : MenInv p ms k) (hq : ∃ a v t, q.ents = p.ents ++ [⟨a, v, t, [], []⟩]) : MenInv q ms (k + 1) := by
  obtain ⟨a, v, t, hq⟩ := hq
  have hin : ∀ i e, p.ents[i]? = some e → q.ents[i]? = some e := fun i e he => by
    obtain ⟨h1, _⟩ := List.getElem?_eq_some_iff.1 he
    rw [hq, List.getElem?_append_left h1]; exact he
  have hout : ∀ (i : Nat) (e : PEnt), q.ents[i]? = some e → p.ents[i]? = some e ∨ (e.needs = [] ∧ e.feats = []) := fun i e he => by
    rw [hq] at he
    rcases Nat.lt_or_ge i p.ents.length with hi | hi
    · rw [List.getElem?_append_left hi] at he; exact Or.inl he
    · rw [List.getElem?_append_right hi] at he
      have hm := List.mem_of_getElem? he
      simp at hm; subst hm; exact Or.inr ⟨rfl, rfl⟩
  refine ⟨h.rise, fun m hm => ⟨(h.lt m hm).1, by have := (h.lt m hm).2; omega⟩, fun m hm => ?_, fun i e he n hn => ?_, fun i e he f hf => ?_⟩
  · obtain ⟨e, he, hw⟩ := h.of m hm
    exact ⟨e, hin _ _ he, hw⟩
  · rcases hout i e he with h1 | h1
    · exact h.needs i e h1 n hn
    · rw [h1.1] at hn; cases hn
  · rcases hout i e he with h1 | h1
    · exact h.feats i e h1 f hf
    · rw [h1.2] at hf; cases hf

theorem MenInv.add {p : PIdx} {nms : List (List UInt8)} {ms : List PMen} {k : Int} {e e' : PEnt} {w : PNeed ⊕ PFeat} (h : MenInv p ms k) (hk : 0 < k) (he : p.ents.getLast? = some e) (hn : e'.needs = e.needs ++ (match w with
      | .inl n => [(n, k)]
      | .inr _ => [])) (hf : e'.feats = e.feats ++ (match w with
      | .inl _ => []
      | .inr f => [f])) (hw : match w with
      | .inl _ => True
      | .inr f => f.line = k) : MenInv ⟨nms, p.ents.dropLast ++ [e']⟩ (ms ++ [⟨k, p.ents.length - 1, w⟩]) (k + 1) := by
  have hpe := snoc_of_last he
  have hlen : p.ents.length = p.ents.dropLast.length + 1 := by
    have := congrArg List.length hpe
    simpa using this
  have hlast : p.ents[p.ents.dropLast.length]? = some e := by
    conv => lhs; arg 1; rw [hpe]
    simp
  have hold : ∀ i x, p.ents[i]? = some x → i < p.ents.dropLast.length → (p.ents.dropLast ++ [e'])[i]? = some x := fun i x hx hi => by
    rw [List.getElem?_append_left hi]
    rw [hpe, List.getElem?_append_left hi] at hx; exact hx
  have hnew : (p.ents.dropLast ++ [e'])[p.ents.dropLast.length]? = some e' := by simp
  have hback : ∀ i x, (p.ents.dropLast ++ [e'])[i]? = some x → (i < p.ents.dropLast.length ∧ p.ents[i]? = some x) ∨ (i = p.ents.dropLast.length ∧ x = e') := fun i x hx => by
    rcases Nat.lt_or_ge i p.ents.dropLast.length with hi | hi
    · refine Or.inl ⟨hi, ?_⟩
      rw [List.getElem?_append_left hi] at hx
      rw [hpe, List.getElem?_append_left hi]; exact hx
    · rw [List.getElem?_append_right hi] at hx
      obtain ⟨h1, h2⟩ := List.getElem?_eq_some_iff.1 hx
      simp at h1 h2
      exact Or.inr ⟨by omega, h2.symm⟩
  have hi : p.ents.length - 1 = p.ents.dropLast.length := by omega
  refine ⟨?_, ?_, ?_, ?_, ?_⟩
  · rw [List.pairwise_append]
    refine ⟨h.rise, by simp, fun a ha b hb => ?_⟩
    simp at hb; subst hb
    exact (h.lt a ha).2
  · intro m hm
    rcases List.mem_append.1 hm with hm | hm
    · have := h.lt m hm; exact ⟨this.1, by omega⟩
    · simp at hm; subst hm; exact ⟨hk, by simp; omega⟩
  · intro m hm
    rcases List.mem_append.1 hm with hm | hm
    · obtain ⟨x, hx, hxw⟩ := h.of m hm
      obtain ⟨hmi, _⟩ := List.getElem?_eq_some_iff.1 hx
      rcases Nat.lt_or_ge m.ent p.ents.dropLast.length with h1 | h1
      · exact ⟨x, hold _ _ hx h1, hxw⟩
      · have e1 : m.ent = p.ents.dropLast.length := by omega
        rw [e1, hlast] at hx
        cases hx
        refine ⟨e', by rw [e1]; exact hnew, ?_⟩
        cases hmw : m.what with
        | inl n => rw [hmw] at hxw; show _ ∈ e'.needs; rw [hn]; exact List.mem_append_left _ hxw
        | inr f => rw [hmw] at hxw; refine ⟨?_, hxw.2⟩; rw [hf]; exact List.mem_append_left _ hxw.1
    · simp at hm; subst hm
      refine ⟨e', by show _ = _; rw [hi]; exact hnew, ?_⟩
      cases w with
      | inl n => show (n, k) ∈ e'.needs; rw [hn]; simp
      | inr f => exact ⟨by rw [hf]; simp, hw⟩
  · intro i x hx n hnn
    rcases hback i x hx with ⟨_, h1⟩ | ⟨rfl, rfl⟩
    · exact List.mem_append_left _ (h.needs i x h1 n hnn)
    · rw [hn] at hnn
      rcases List.mem_append.1 hnn with hnn | hnn
      · exact List.mem_append_left _ (h.needs _ _ hlast n hnn)
      · cases w with
        | inl n' => simp at hnn; subst hnn; rw [hi]; simp
        | inr f => cases hnn
  · intro i x hx f hff
    rcases hback i x hx with ⟨_, h1⟩ | ⟨rfl, rfl⟩
    · exact List.mem_append_left _ (h.feats i x h1 f hff)
    · rw [hf] at hff
      rcases List.mem_append.1 hff with hff | hff
      · exact List.mem_append_left _ (h.feats _ _ hlast f hff)
      · cases w with
        | inl n => cases hff
        | inr f' =>
          simp at hff; subst hff
          rw [hi]
          have : f.line = k := hw
          rw [← this]; simp

end Go.Proofs.YtnmclolbndohiaaGreatDoor

/-
  The walk of the code's 'missing' of a feature.
-/
namespace Go.Proofs.YtnmclolbndohiaaGreatDoor
open Go.RowKit
open Ver

set_option maxHeartbeats 1600000 in
set_option maxRecDepth 100000 in
theorem fmiss_any (B rb : Nat) (R : List Hold) (r : CRd) (q : CPack) (c : CEnt) (f : CFeat) (V : NoV) (w : World) (h : RdR B rb R r w) (hq : q ∈ r.packs) (hc : c ∈ q.ents) (hl : c.needs.length ≤ 5 ∧ c.feats.length ≤ 5) (hfo : f.hold.own B w) (hfl : f.items.length ≤ 5) (hV : NoAt V w) (hF : Forms V ∨ ∀ y ∈ f.items, missC c y = false) (hgn : 29 ≤ w.heap.size) :
    Calls Tryz.prog 262 #[f.val, ptrTo r.ib, ptrTo c.b] w fun e w' => MissEnds (f.items.any (loudC V c)) e ∧ Below w.heap.size w w' := by
  have HIM : Hid (∀ (y : CItem), y ∈ f.items → ∀ (W : World), Below w.heap.size w W → Calls Tryz.prog 263 #[.agg #[.int .i64 y.kind, .string y.pack, .string y.feat], .pointer (some ⟨c.b, 0, none⟩)] W fun e w' => MissEnds (loudC V c y) e ∧ Below W.heap.size W w') := fun y hy W hW => imiss_any B rb R r q c y V W (h.on hW) hq hc hl (hV.on hW hgn) (hF.imp id (fun h => h y hy)) (by have := hW.size; omega)
  have hrow := RowR.of_owns hfo
  obtain ⟨ia, ic, hiv⟩ := hrow.form
  have hiv' : f.iv = .slice ia f.items.length ic := hiv
  have HRow : Hid (RowR w f.iv f.items.length 3 (f.items.flatMap CItem.cells)) := hrow
  have HANY : Hid (f.items.any (loudC V c) = f.items.any (loudC V c)) := rfl
  obtain ⟨bad, hbad⟩ : ∃ b, f.items.any (loudC V c) = b := ⟨_, rfl⟩
  rw [hbad]
  have HBD : Hid (f.items.any (loudC V c) = bad) := hbad
  obtain ⟨fnm, fiv, fits⟩ := f
  simp only at hiv' hfl HRow HBD HIM
  subst hiv'
  clear h hq hc hl hfo hV hrow hiv HANY hbad hF
  unfold CFeat.val ptrTo
  simp only
  have hgm : ∀ j, fits.length ≤ j → fits[j]? = none := fun j hj => List.getElem?_eq_none hj
  rcases HRow.out.2 with ⟨hv, h0⟩ | ⟨g, cap, hv, hg, hcells⟩
  · have hP : fits = [] := List.length_eq_zero_iff.1 h0
    subst hP
    have HE : Hid (bad = false) := HBD.out.symm
    obtain ⟨rfl, rfl⟩ : ia = none ∧ ic = 0 := by simpa using hv
    clear HRow HBD hgm
    go_enter Tryz.func262, Tryz.ntmps262
    go_wp2
    refine wp_loop_rounds 1 ?_
    rw [rounds_succ]
    go_wp2
    go_ret
    exact ⟨miss_no HE.out, (Below.refl _ _).alloc (Nat.le_refl _) _⟩
  · obtain ⟨rfl, rfl⟩ : ia = some ⟨g, 0, none⟩ ∧ ic = cap := by simpa using hv
    obtain ⟨n, hn⟩ : ∃ n, fits.length = n := ⟨_, rfl⟩
    have HNN : Hid (fits.length = n) := hn
    have HCE : Hid (∀ j (hj : j < n) o, o < 3 → ∃ y, fits[j]? = some y ∧ w.cell? ⟨g, j * 3 + o, none⟩ = y.cells[o]?) := fun j hj o ho => by
      have hj' : j < fits.length := by omega
      refine ⟨fits[j], List.getElem?_eq_getElem hj', ?_⟩
      rw [hcells _ (by show j * 3 + o < fits.length * 3; omega)]
      have := flat_at CItem.cells 3 CItem.len fits j o fits[j] (by simp [hj']) ho
      rw [Nat.mul_comm] at this
      exact this
    rw [hn] at hfl ⊢
    clear HRow hcells hv hgm hn
    go_enter Tryz.func262, Tryz.ntmps262
    go_wp2
    go_loopw [13] (fun i wr => ∃ k : Nat, k ≤ n ∧ i = .int .i64 k ∧ Below w.heap.size w wr ∧ ∀ j y, j < k → fits[j]? = some y → loudC V c y = false) (fun i _ => n - (intOf i).toNat)
    case atStart => exact ⟨0, by omega, rfl, (Below.refl _ _).alloc (Nat.le_refl _) _, fun j a hj => by omega⟩
    case round =>
      obtain ⟨k, hk, rfl, hb, hno⟩ := hrel
      have HB : Hid (Below w.heap.size w wr) := hb
      have HNO : Hid (∀ j y, j < k → fits[j]? = some y → loudC V c y = false) := hno
      have hsr := hb.size
      clear hno
      by_cases hlt : k < n
      · obtain ⟨y, hy, d0⟩ := HCE.out k hlt 0 (by omega)
        obtain ⟨y1, hy1, d1⟩ := HCE.out k hlt 1 (by omega)
        obtain ⟨y2, hy2, d2⟩ := HCE.out k hlt 2 (by omega)
        obtain rfl : y = y1 := Option.some.inj (hy.symm.trans hy1)
        obtain rfl : y = y2 := Option.some.inj (hy.symm.trans hy2)
        have HY : Hid (fits[k]? = some y) := hy
        have c0 := (hb.cell (p := ⟨g, k * 3 + 0, none⟩) hg).trans d0
        have c1 := (hb.cell (p := ⟨g, k * 3 + 1, none⟩) hg).trans d1
        have c2 := (hb.cell (p := ⟨g, k * 3 + 2, none⟩) hg).trans d2
        simp only [CItem.cells, List.getElem?_cons_zero, List.getElem?_cons_succ, Nat.add_zero] at c0 c1 c2
        have HIK : Hid (∀ W : World, Below w.heap.size w W → Calls Tryz.prog 263 #[.agg #[.int .i64 y.kind, .string y.pack, .string y.feat], .pointer (some ⟨c.b, 0, none⟩)] W fun e w' => MissEnds (loudC V c y) e ∧ Below W.heap.size W w') := HIM.out y (List.mem_of_getElem? hy)
        have hgr : g < wr.heap.size := by omega
        clear hy hy1 hy2 d0 d1 d2 hb
        obtain ⟨lb, hlb⟩ : ∃ b, loudC V c y = b := ⟨_, rfl⟩
        rw [hlb] at HIK
        have HLB : Hid (loudC V c y = lb) := hlb
        clear hlb
        obtain ⟨kd, yp, yf⟩ := y
        simp only at c0 c1 c2 HIK
        go_wp2_with fail
        refine (HIK.out _ (HB.out.alloc hsr _)).mono ?_
        rintro e w1 ⟨⟨v, rfl, hyes, hnil⟩, hb1⟩
        have HB1 : Hid (Below w.heap.size w w1) := (HB.out.alloc hsr _).trans (hb1.mono (by simp; omega))
        clear hb1 HIK c0 c1 c2
        cases lb
        · obtain rfl := hnil rfl
          have HN1 : Hid (∀ j y, j < k + 1 → fits[j]? = some y → loudC V c y = false) := fun j a hj ha => by
            by_cases e : j = k
            · subst e; rw [HY.out] at ha; obtain rfl := Option.some.inj ha; exact HLB.out
            · exact HNO.out j a (by omega) ha
          clear hyes hnil HY HLB HNO
          go_wp2
          go_roundw
          case rel => exact ⟨k + 1, by omega, by go_num, HB1.out, HN1.out⟩
          case measure => simp [intOf]; omega
        · obtain ⟨t, p, rfl⟩ := hyes rfl
          have HE : Hid (bad = true) := by
            show _ = _
            rw [← HBD.out, List.any_eq_true]
            exact ⟨_, List.mem_of_getElem? HY.out, HLB.out⟩
          clear hyes hnil HY HLB HNO
          go_wp2
          go_ret
          exact ⟨miss_yes HE.out, HB1.out⟩
      · have HE : Hid (bad = false) := by
          show _ = _
          rw [← HBD.out, List.any_eq_false]
          intro y hy
          obtain ⟨j, hj, rfl⟩ := List.getElem_of_mem hy
          have := HNO.out j fits[j] (by have := HNN.out; omega) (List.getElem?_eq_getElem hj)
          simp [this]
        clear HNO hb
        go_wp2
        go_ret
        exact ⟨miss_no HE.out, HB.out⟩

/-! ### A mention, at the reader's end -/
/-- What a mention misses, where the errors that the rows do not list hold V. -/
def loudM (V : NoV) (p : PIdx) (m : PMen) : Bool := match m.what with
  | .inl n => decide (idxL p.names n.name < 0) && loud V.pk
  | .inr f => match p.ents[m.ent]? with
    | none => false
    | some e => f.items.any (loudI V e)
end Go.Proofs.YtnmclolbndohiaaGreatDoor

/-
  The mentions at the reader's end; how 'catalog.Read' ends.
-/
namespace Go.Proofs.YtnmclolbndohiaaGreatDoor
open Go.RowKit
open Ver

/-- What a taker asks of the place where it stands. -/
structure TkAt (B rb : Nat) (R : List Hold) (r : CRd) (p : PIdx) (ms : List PMen) (t0 t1 : TypeId) (p0 p1 : Value) (m : Int) (w : World) : Prop where
  rd : RdR B rb R r w
  full : Full r (p, ms)
  bd : Bd p
  base : B ≤ w.heap.size
  sent : Sent w
  glob : Glob t0 t1 p0 p1 m w
  low : ∀ k ∈ sentL, k < B

/-- The state that 'Each' hands from line to line. -/
def TkSt (B rb : Nat) (t0 t1 : TypeId) (p0 p1 : Value) (m : Int) (s : PIdx × List PMen) (w : World) : Prop := ∃ r, TkAt B rb [] r s.1 s.2 t0 t1 p0 p1 m w

def firstV (V : NoV) (p : PIdx) : List PMen → Option Int
  | [] => none
  | m :: r => if loudM V p m = true then some m.line else firstV V p r
def WrongEnd (v1 : Value) (n l : Int) (e : Ending) (w' : World) : Prop := ∃ wb, e = .returned (.tuple #[v1, .iface 107 (.pointer (some ⟨wb, 0, none⟩))]) ∧ wb < w'.heap.size ∧ w'.cell? ⟨wb, 0, none⟩ = some (.int .i64 n) ∧ w'.cell? ⟨wb, 1, none⟩ = some (.int .i64 l)
def ReadEnds (B : Nat) (V : NoV) (o : Except (Int × Int) (PIdx × List PMen)) (e : Ending) (w' : World) : Prop :=
  match o with
  | .error (n, l) => WrongEnd (.pointer none) n l e w'
  | .ok (p, ms) => match firstV V p ms with
    | some l => WrongEnd (.pointer none) 3 l e w'
    | none => ∃ rb r, e = .returned (.tuple #[ptrTo r.ib, .nilIface]) ∧ RdR B rb [] r w' ∧ Full r (p, ms) ∧ Bd p

theorem RdR.new (w : World) : RdR w.heap.size (w.heap.size + 1) [] ⟨w.heap.size, .slice none 0 0, [], none, .slice none 0 0, []⟩ ((w.alloc (.cells #[.slice none 0 0] 116)).alloc (.cells #[.pointer (some ⟨w.heap.size, 0, none⟩), .pointer none, .slice none 0 0] 147)) := by
  have f0 : Forest w.heap.size (w.alloc (.cells #[.slice none 0 0] 116)) [] := ⟨fun r hr => (nomatch hr), by simp [blocksOf]⟩
  have f1 := f0.cons (r := CRd.hm ⟨w.heap.size, .slice none 0 0, [], none, .slice none 0 0, []⟩) (World.ownsRow_nil _ _ _ _) (fun k hk => by cases hk)
  have f2 := f1.cons (r := CRd.hp ⟨w.heap.size, .slice none 0 0, [], none, .slice none 0 0, []⟩) (World.ownsRow_nil _ _ _ _) (fun k hk => by cases hk)
  have f3 := f2.cons (r := CRd.hi ⟨w.heap.size, .slice none 0 0, [], none, .slice none 0 0, []⟩) (boxed_new (cs := #[.slice none 0 0]) rfl (Nat.le_refl _)) (fun k hk hm => by
    simp [blocksOf, CRd.hm, CRd.hp, Value.ownBlock] at hm)
  have f4 := (f3.alloc (.cells #[.pointer (some ⟨w.heap.size, 0, none⟩), .pointer none, .slice none 0 0] 147)).cons (r := CRd.hr (w.heap.size + 1) ⟨w.heap.size, .slice none 0 0, [], none, .slice none 0 0, []⟩) (by
      have := boxed_new (t := 147) (sz := 3) (B := w.heap.size) (w := w.alloc (.cells #[.slice none 0 0] 116)) (cs := #[.pointer (some ⟨w.heap.size, 0, none⟩), .pointer none, .slice none 0 0]) rfl (by simp)
      rw [World.size_alloc] at this
      exact this) (fun k hk hm => by
    have e : w.heap.size + 1 = k := by simpa [CRd.hr, boxed, Value.ownBlock] using hk
    simp [blocksOf, CRd.hm, CRd.hp, CRd.hi, boxed, Value.ownBlock] at hm
    omega)
  exact ⟨f4⟩

theorem any_congr' {α : Type} {f g : α → Bool} : ∀ {l : List α}, (∀ a ∈ l, f a = g a) → l.any f = l.any g
  | [], _ => rfl
  | a :: r, h => by
    rw [List.any_cons, List.any_cons, h a (List.mem_cons_self ..), any_congr' fun x hx => h x (List.mem_cons_of_mem _ hx)]

/-- Each mention's look at what it names. -/
theorem missM_any (B rb : Nat) (r : CRd) (p : PIdx) (ms : List PMen) (t0 t1 : TypeId) (p0 p1 : Value) (m : Int) (V : NoV) (w1 : World) (h : TkAt B rb [] r p ms t0 t1 p0 p1 m w1) (hV : NoAt V w1) (hgl : 29 ≤ w1.heap.size) (k : Nat) (x : CMen) (y : PMen) (hx : r.mens[k]? = some x) (hy : ms[k]? = some y) (hF : Forms V ∨ badM p y = false) (W : World) (hW : Below w1.heap.size w1 W) :
    (match x.what with
        | .inl n => ∃ a b c, n.fv = .slice a b c
        | .inr f => ∃ a b c, f.iv = .slice a b c) ∧ (match x.what with
        | .inl n => Calls Tryz.prog 276 #[n.val, ptrTo r.ib, ptrTo x.eb] W fun e w' => MissEnds (loudM V p y) e ∧ Below W.heap.size W w'
        | .inr f => Calls Tryz.prog 262 #[f.val, ptrTo r.ib, ptrTo x.eb] W fun e w' => MissEnds (loudM V p y) e ∧ Below W.heap.size W w') ∧ x.line = y.line := by
  obtain ⟨ebs, ho, hm⟩ := h.full.ord
  have hxy := hm.each k x y hx hy
  have hlen : r.packs.length ≤ 6 := by have := h.bd.names; rw [← h.full.rel.names] at this; simpa using this
  have hW2 : 29 ≤ W.heap.size := Nat.le_trans hgl hW.size
  have hw := hxy.what
  have hRW := h.rd.on hW
  cases hxw : x.what with
  | inl n =>
    cases hyw : y.what with
    | inr f => rw [hxw, hyw] at hw; exact hw.elim
    | inl pn =>
      rw [hxw, hyw] at hw
      refine ⟨hw.2, ?_, hxy.line⟩
      have hF' : Forms V ∨ 0 ≤ idxL (r.packs.map fun p => p.name.data.toList) n.name.data.toList := hF.imp id (fun hb => by
        unfold badM at hb; rw [hyw] at hb; simp only at hb; rw [h.full.rel.names, hw.1]; exact Int.not_lt.1 (of_decide_eq_false hb))
      have hc := nmiss_any B rb x.eb [] r n V W hRW hlen hw.2 (hV.on hW hgl) hF' hW2
      have hb : loudM V p y = (decide (idxL (r.packs.map fun p => p.name.data.toList) n.name.data.toList < 0) && loud V.pk) := by
        unfold loudM; rw [hyw]; simp only; rw [h.full.rel.names, hw.1]
      rw [hb]; exact hc
  | inr f =>
    cases hyw : y.what with
    | inl n => rw [hxw, hyw] at hw; exact hw.elim
    | inr pf =>
      rw [hxw, hyw] at hw
      obtain ⟨hfr, q, hq, d, hd, hdb, hfd⟩ := hw
      have hent := hxy.ent
      obtain ⟨hei, _⟩ := List.getElem?_eq_some_iff.1 hent
      have hlen2 : ebs.length = p.ents.length := ho.ents.len
      have hpe : p.ents[y.ent]? = some p.ents[y.ent] := List.getElem?_eq_getElem (by omega)
      obtain ⟨q', hq', c', hc', hcb, hce⟩ := ho.ents.each y.ent _ _ hent hpe
      have hfo := (hRW.entry hq hd).2.2.2.2.2.2 f hfd
      obtain ⟨ia, ic, hiv⟩ := (RowR.of_owns hfo).form
      have hbe := h.bd.each _ (List.mem_of_getElem? hpe)
      have hn1 : c'.needs.length = (p.ents[y.ent]).needs.length := hce.needs.len
      have hn2 : c'.feats.length = (p.ents[y.ent]).feats.length := hce.feats.len
      have hit : f.items.length ≤ 5 := by
        obtain ⟨kq, hkq, rfl⟩ := List.getElem_of_mem hq
        have ha := h.full.rel.ents kq _ (List.getElem?_eq_getElem hkq)
        obtain ⟨kd, hkd, rfl⟩ := List.getElem_of_mem hd
        have hl := ha.len
        have hkd' : kd < (p.ents.filter fun e => decide (e.pack = (kq : Int))).length := by rw [← hl]; exact hkd
        have her := ha.each kd _ _ (List.getElem?_eq_getElem hkd) (List.getElem?_eq_getElem hkd')
        have hem := (List.mem_filter.1 (List.getElem_mem hkd')).1
        obtain ⟨kf, hkf, rfl⟩ := List.getElem_of_mem hfd
        have hl2 := her.feats.len
        have hkf' : kf < ((p.ents.filter fun e => decide (e.pack = (kq : Int)))[kd]).feats.length := by rw [← hl2]; exact hkf
        have hfe := her.feats.each kf _ _ (List.getElem?_eq_getElem hkf) (List.getElem?_eq_getElem hkf')
        have h5 := h.bd.items _ hem _ (List.getElem_mem hkf')
        have := congrArg List.length hfe.items
        rw [List.length_map] at this
        omega
      refine ⟨⟨ia, _, ic, hiv⟩, ?_, hxy.line⟩
      have hF' : Forms V ∨ ∀ z ∈ f.items, missC c' z = false := hF.imp id (fun hb z hz => by
        unfold badM at hb; rw [hyw] at hb; simp only [hpe] at hb; rw [missC_I hce (hfr.ok z hz)]
        rw [← hfr.items, List.any_map, List.any_eq_false] at hb
        simpa using hb z hz)
      have hc := fmiss_any B rb [] r q' c' f V W hRW hq' hc' ⟨by omega, by omega⟩ hfo hit (hV.on hW hgl) hF' hW2
      rw [hcb] at hc
      have hb : loudM V p y = f.items.any (loudC V c') := by
        unfold loudM
        rw [hyw]
        simp only [hpe]
        rw [← hfr.items, List.any_map]
        exact any_congr' fun z hz => (loudC_I hce (hfr.ok z hz)).symm
      rw [hb]; exact hc

end Go.Proofs.YtnmclolbndohiaaGreatDoor
