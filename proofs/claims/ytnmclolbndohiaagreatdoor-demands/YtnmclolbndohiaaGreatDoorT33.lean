/-
  The walk of the code's 'takePackage', name and version being right: its main way.
-/
import Derived.Test.YtnmclolbndohiaaGreatDoorT31
namespace Go.Proofs.YtnmclolbndohiaaGreatDoor
open Go.RowKit
open Ver
attribute [local go_sem ↓] Go.wp_at_zero Go.wp_at_succ

theorem RdR.readerFz {B rb : Nat} {R : List Hold} {r : CRd} {w : World} (h : RdR B rb R r w) (o : Nat) : w.frozen? ⟨rb, o, none⟩ = false := by
  have ho : (r.hr rb).own B w := h.own (by simp [CRd.holds])
  have h' : w.ownsRow B 147 3 (.slice (some ⟨rb, 0, none⟩) 1 1) 1 [ptrTo r.ib, r.curV, r.mv] := ho
  exact h'.frozenAt _
theorem RdR.packFz {B rb : Nat} {R : List Hold} {r : CRd} {w : World} (h : RdR B rb R r w) {q : CPack} (hq : q ∈ r.packs) (o : Nat) : w.frozen? ⟨q.b, o, none⟩ = false := by
  have ho : q.hb.own B w := h.own (by
    simp only [CRd.holds, List.mem_cons, List.mem_flatMap]
    exact Or.inr (Or.inr (Or.inr (Or.inr ⟨q, hq, by simp [CPack.holds]⟩))))
  have h' : w.ownsRow B 128 2 (.slice (some ⟨q.b, 0, none⟩) 1 1) 1 [.string q.name, q.ev] := ho
  exact h'.frozenAt _

set_option maxHeartbeats 3200000 in
set_option maxRecDepth 100000 in
theorem tp_go (B rb g o cap : Nat) (R : List Hold) (r : CRd) (p : PIdx) (nm vt : ByteArray) (w : World) (ms : List PMen) (t0 t1 : TypeId) (p0 p1 : Value) (m : Int) (h : RdR B rb R r w) (hfu : Full r (p, ms)) (hl : p.names.length ≤ 6) (hB : B ≤ w.heap.size) (hg : g < w.heap.size) (d0 : w.cell? ⟨g, o, none⟩ = some (.string nm)) (d1 : w.cell? ⟨g, o + 1, none⟩ = some (.string vt)) (hvs : vt.size ≤ 1048576) (hnm : nameL nm.data.toList = true) (hv : 0 ≤ verI vt.data.toList) (S : Sent w) (G : Glob t0 t1 p0 p1 m w) (hm4 : ∀ k : Int, manyOf p.ents k ≤ 4) (HSB : Hid (∀ k ∈ sentL, k < B)) (out : Option (PIdx × List PMen)) (HOUT : Hid (out = (packP p nm.data.toList vt.data.toList).map fun q => (q, ms))) :
    Calls Tryz.prog 102 #[ptrTo rb, .slice (some ⟨g, o, none⟩) 2 cap] w fun e w' => TkEnds B rb R out e w' ∧ Below B w w' := by
  obtain ⟨j0, hj0, hy0, hy1, hy2⟩ := info_parts Tryz.infoEntPtr
  have HG : Hid (Glob t0 t1 p0 p1 m w) := G
  have HS : Hid (Sent w) := S
  have HR : Hid (RdR B rb R r w) := h
  have hr := hfu.rel
  have HRL : Hid (Full r (p, ms)) := hfu
  have HN : Hid (∀ w : World, Calls Tryz.prog 125 #[.string nm] w fun e w' => e = .returned (.bool true) ∧ Below w.heap.size w w') := fun w => by have := isName_any nm w; rw [hnm] at this; exact this
  have HV : Hid (∀ w : World, Glob t0 t1 p0 p1 m w → Calls Tryz.prog 26 #[.string vt] w fun e w' => e = .returned (.tuple #[.agg #[.int .i64 (verI vt.data.toList / 1000000), .int .i64 (verI vt.data.toList / 1000 % 1000), .int .i64 (verI vt.data.toList % 1000)], .nilIface]) ∧ Below w.heap.size w w') := fun w h => parse_yes vt t0 t1 p0 p1 m w hvs h hv
  have hVb := verI_bd vt.data.toList
  have HPP : Hid (out = if twice p.ents (numOf p nm.data.toList) (verI vt.data.toList) = false ∧ 1 + manyOf p.ents (numOf p nm.data.toList) ≤ 4 ∧ (namesOf p nm.data.toList).length ≤ 6 then some (⟨namesOf p nm.data.toList, p.ents ++ [⟨numOf p nm.data.toList, verI vt.data.toList, vt.data.toList, [], []⟩]⟩, ms) else none) := by
    show _ = _
    rw [HOUT.out]
    unfold packP; simp only [hnm, hv, true_and]
    split <;> rfl
  have HFO : Hid (∀ (R' : List Hold) (W : World), RdR B rb R' r W → Sent W → B ≤ W.heap.size → Calls Tryz.prog 148 #[.pointer (some ⟨rb, 0, none⟩), .string nm] W fun e w' => FoaEnds B rb R' r p nm.data.toList e w' ∧ Below B W w') := fun R' W h1 h2 h3 => foa_any B rb R' r p nm W h1 hr hl h2 h3
  clear HOUT
  obtain ⟨V, hV⟩ : ∃ x, verI vt.data.toList = x := ⟨_, rfl⟩
  rw [hV] at HV HPP hVb hv
  obtain ⟨v0, hv0⟩ : ∃ x, x = V / 1000000 := ⟨_, rfl⟩
  obtain ⟨v1, hv1⟩ : ∃ x, x = V / 1000 % 1000 := ⟨_, rfl⟩
  obtain ⟨v2, hv2⟩ : ∃ x, x = V % 1000 := ⟨_, rfl⟩
  rw [← hv0, ← hv1, ← hv2] at HV
  have HVV : Hid (v0 = V / 1000000 ∧ v1 = V / 1000 % 1000 ∧ v2 = V % 1000 ∧ 0 ≤ V ∧ V ≤ 999999999) := ⟨hv0, hv1, hv2, hv, hVb.2⟩
  clear G S h hr hfu hnm hv0 hv1 hv2 hV hv hVb
  unfold ptrTo
  go_enter Tryz.func102, Tryz.ntmps102
  go_wp2_with fail
  refine (HN.out _).mono ?_
  rintro e w1 ⟨rfl, hb1⟩
  have HB1 : Hid (Below w.heap.size w w1) := hb1
  have e1 : w1.cell? ⟨g, o + 1, none⟩ = some (.string vt) := (hb1.cell (p := ⟨g, o + 1, none⟩) hg).trans d1
  clear hb1 HN d1
  go_wp2_with fail
  refine (HV.out _ (HG.out.on HB1.out HG.out.lt)).mono ?_
  rintro e w2 ⟨rfl, hb2⟩
  have HB2 : Hid (Below w.heap.size w w2) := HB1.out.trans (hb2.mono HB1.out.size)
  have e0 : w2.cell? ⟨g, o, none⟩ = some (.string nm) := (HB2.out.cell (p := ⟨g, o, none⟩) hg).trans d0
  have hs2 := HB2.out.size
  have HR2 : Hid (RdR B rb (boxed 56 3 w2.heap.size #[.int .i64 v0, .int .i64 v1, .int .i64 v2].toList :: R) r (w2.alloc (.cells #[.int .i64 v0, .int .i64 v1, .int .i64 v2] 56))) := (HR.out.on HB2.out).addHold rfl (by omega)
  have HB3 : Hid (Below w.heap.size w (w2.alloc (.cells #[.int .i64 v0, .int .i64 v1, .int .i64 v2] 56))) := HB2.out.alloc (by omega) _
  have hgl2 : g < w2.heap.size := by omega
  clear hb2 HV HB1 e1 d0 HR
  go_wp2_with fail
  refine (HFO.out _ _ HR2.out (HS.out.on HB3.out) (by simp; omega)).mono ?_
  rintro e w4 ⟨hfe, hb4⟩
  have HB4 : Hid (Below B w w4) := (HB3.out.mono hB).trans hb4
  have hs4 := hb4.size
  have HS4 : Hid (Sent w4) := HS.out.above HB4.out HSB.out
  rcases hfe with ⟨h6, t, v, rfl⟩ | ⟨h6, r', k, q, rfl, hR', hRL', hkq, hkn, hib, hcu, hmv, hme, hsub⟩
  · have HE : Hid (out = none) := by show _ = _; rw [HPP.out, if_neg (fun h => by have := h.2.2; omega)]
    clear HFO HR2 HRL HPP hb4 HB3 HB2 e0
    go_wp2
    go_ret
    exact ⟨tk_no HE.out, HB4.out⟩
  · unfold ptrTo
    have hqm := List.mem_of_getElem? hkq
    have hkn' : numOf p nm.data.toList = (k : Int) := hkn.symm
    have hm := hRL'.many hkq
    have hag := hRL'.again hkq (v := V)
    have hm4k := hm4 (k : Int)
    have hql : q.ents.length ≤ 4 := by have : manyOf p.ents (k : Int) = q.ents.length := hm; omega
    rw [← HVV.out.1, ← HVV.out.2.1, ← HVV.out.2.2.1] at hag
    have hp := hR'.pack hqm
    have hvb := hR'.forest.own (boxed 56 3 w2.heap.size #[.int .i64 v0, .int .i64 v1, .int .i64 v2].toList) (by simp)
    have y0 : w4.cell? ⟨w2.heap.size, 0, none⟩ = some (.int .i64 v0) := boxed_cell hvb 0 (by omega)
    have y1 : w4.cell? ⟨w2.heap.size, 1, none⟩ = some (.int .i64 v1) := boxed_cell hvb 1 (by omega)
    have y2 : w4.cell? ⟨w2.heap.size, 2, none⟩ = some (.int .i64 v2) := boxed_cell hvb 2 (by omega)
    have hyl := (boxed_lt hvb).2
    have HFD : Hid (Calls Tryz.prog 95 #[.pointer (some ⟨q.b, 0, none⟩), .agg #[.int .i64 v0, .int .i64 v1, .int .i64 v2]] w4 fun e w' => (∃ v, e = .returned (.pointer v) ∧ v.isNone = decide (idxV (q.ents.map CEnt.ver) (v0, v1, v2) < 0)) ∧ Below w4.heap.size w4 w') := hR'.find hqm (by omega) v0 v1 v2
    have HR4 : Hid (RdR B rb (boxed 56 3 w2.heap.size #[.int .i64 v0, .int .i64 v1, .int .i64 v2].toList :: R) r' w4) := hR'
    have HF4 : Hid (Full r' (⟨namesOf p nm.data.toList, p.ents⟩, ms)) := HRL.out.sub hRL' hsub hcu hme
    obtain ⟨ea, ec, hev⟩ := (RowR.of_owns (hR'.own (x := q.he) (by
      simp only [CRd.holds, List.mem_cons, List.mem_flatMap]
      exact Or.inr (Or.inr (Or.inr (Or.inr ⟨q, hqm, by simp [CPack.holds]⟩)))))).form
    have hev' : q.ev = .slice ea q.ents.length ec := hev
    have hpc := hp.2.2.2
    rw [hev'] at hpc
    have hpl := hp.1
    have HPB : Hid (B ≤ q.b) := hp.2.1
    have HPP' : Hid (out = if twice p.ents (k : Int) V = false ∧ 1 + manyOf p.ents (k : Int) ≤ 4 then some (⟨namesOf p nm.data.toList, p.ents ++ [⟨(k : Int), V, vt.data.toList, [], []⟩]⟩, ms) else none) := by
      show _ = _
      rw [HPP.out, hkn']
      by_cases hc : twice p.ents (k : Int) V = false ∧ 1 + manyOf p.ents (k : Int) ≤ 4
      · rw [if_pos ⟨hc.1, hc.2, h6⟩, if_pos hc]
      · rw [if_neg (fun h => hc ⟨h.1, h.2.1⟩), if_neg hc]
    have HAG : Hid (twice p.ents (k : Int) V = decide (0 ≤ idxV (q.ents.map CEnt.ver) (v0, v1, v2))) := hag
    have HM : Hid (manyOf p.ents (k : Int) = q.ents.length) := hm
    have HKQ : Hid (r'.packs[k]? = some q) := hkq
    have hsz4 : B ≤ w4.heap.size := by have := HB4.out.size; omega
    clear HFO HR2 HRL HPP hb4 HB3 HB2 e0 hR' hRL' hkq hkn hkn' hib hcu hmv hme hsub hm hag hvb hp hev h6 hm4k hm4
    generalize idxV (q.ents.map CEnt.ver) (v0, v1, v2) = K at *
    go_wp2_with fail
    refine Calls.mono HFD.out ?_
    rintro e w5 ⟨⟨fv, rfl, hfn⟩, hb5⟩
    have HB5 : Hid (Below w4.heap.size w4 w5) := hb5
    obtain ⟨ta, pa, hca⟩ := (HS4.out.on hb5).cell 14 (by decide)
    obtain ⟨tm, pm, hcm⟩ := (HS4.out.on hb5).cell 15 (by decide)
    clear HFD hb5
    cases fv with
    | some a =>
      have hK : ¬ K < 0 := by simpa using hfn
      have HE : Hid (out = none) := by
        show _ = _
        rw [HPP'.out, if_neg]
        rintro ⟨h, _⟩
        rw [HAG.out, decide_eq_true (by omega)] at h
        cases h
      clear HPP' HAG HM hfn HR4 HF4 hpc HKQ hcm
      go_wp2
      go_ret
      exact ⟨tk_no HE.out, HB4.out.trans (HB5.out.mono hsz4)⟩
    | none =>
      have hK : K < 0 := by simpa using hfn
      have hpc5 : w5.cell? ⟨q.b, 1, none⟩ = some (.slice ea q.ents.length ec) := (HB5.out.cell (p := ⟨q.b, 1, none⟩) hpl).trans hpc
      by_cases h4 : q.ents.length = 4
      · have HE : Hid (out = none) := by
          show _ = _
          rw [HPP'.out, if_neg]
          rintro ⟨_, h⟩
          rw [HM.out] at h
          omega
        have k4 : ((q.ents.length : Int) == 4) = true := by simp; omega
        clear HPP' HAG HM hfn HR4 HF4 hpc HKQ hca
        go_wp2
        go_ret
        exact ⟨tk_no HE.out, HB4.out.trans (HB5.out.mono hsz4)⟩
      · have k4 : ((q.ents.length : Int) == 4) = false := by simp; omega
        have HE : Hid (out = some (⟨namesOf p nm.data.toList, p.ents ++ [⟨(k : Int), V, vt.data.toList, [], []⟩]⟩, ms)) := by
          show _ = _
          rw [HPP'.out, if_pos]
          refine ⟨?_, by rw [HM.out]; omega⟩
          rw [HAG.out, decide_eq_false (by omega)]
        have HR5 : Hid (RdR B rb (boxed 56 3 w2.heap.size #[.int .i64 v0, .int .i64 v1, .int .i64 v2].toList :: R) r' w5) := HR4.out.on HB5.out
        have z0 := (HB5.out.cell (p := ⟨w2.heap.size, 0, none⟩) hyl).trans y0
        have z1 := (HB5.out.cell (p := ⟨w2.heap.size, 1, none⟩) hyl).trans y1
        have z2 := (HB5.out.cell (p := ⟨w2.heap.size, 2, none⟩) hyl).trans y2
        have hs5 := HB5.out.size
        have hyl5 : w2.heap.size < w5.heap.size := by omega
        have hrl5 : rb < w5.heap.size := HR5.out.reader.1
        have hrB : B ≤ rb := HR5.out.reader.2.1
        have rc5 : w5.cell? ⟨rb, 1, none⟩ = some r'.curV := HR5.out.reader.2.2.2.1
        have rf5 : w5.frozen? ⟨rb, 1, none⟩ = false := HR5.out.readerFz 1
        clear HPP' HAG HM hfn hpc hca hcm y0 y1 y2 HR4
        unfold CRd.curV at rc5
        generalize r'.cur.map (fun b => (⟨b, 0, none⟩ : Addr)) = oc at *
        go_wp2
        obtain ⟨E, hEd⟩ : ∃ E : CEnt, E = ⟨w5.heap.size, v0, v1, v2, .slice none 0 0, [], .slice none 0 0, []⟩ := ⟨_, rfl⟩
        obtain ⟨r6, hr6⟩ : ∃ x : CRd, x = ⟨r'.ib, r'.pv, r'.packs, some w5.heap.size, r'.mv, r'.mens⟩ := ⟨_, rfl⟩
        have hR6 : RdR B rb (boxed 56 3 w2.heap.size #[.int .i64 v0, .int .i64 v1, .int .i64 v2].toList :: R) r6 (w5.setCell ⟨rb, 1, none⟩ (.pointer (some ⟨w5.heap.size, 0, none⟩))) := by
          rw [hr6]; exact HR5.out.setCur
        have hss : (w5.setCell ⟨rb, 1, none⟩ (.pointer (some ⟨w5.heap.size, 0, none⟩))).heap.size = w5.heap.size := by simp
        have hqm6 : q ∈ r6.packs := by rw [hr6]; exact hqm
        have HEb : Hid (E = ⟨w5.heap.size, v0, v1, v2, .slice none 0 0, [], .slice none 0 0, []⟩) := hEd
        have HR6E : Hid (r6 = ⟨r'.ib, r'.pv, r'.packs, some w5.heap.size, r'.mv, r'.mens⟩) := hr6
        have hF6 : Forest B ((w5.setCell ⟨rb, 1, none⟩ (.pointer (some ⟨w5.heap.size, 0, none⟩))).alloc (.cells #[.int .i64 v0, .int .i64 v1, .int .i64 v2, .slice none 0 0, .slice none 0 0] 133)) (E.hb :: E.hn :: E.hf :: ((boxed 56 3 w2.heap.size #[.int .i64 v0, .int .i64 v1, .int .i64 v2].toList :: R) ++ r6.holds rb)) := by
          have f0 := hR6.forest.alloc (.cells #[.int .i64 v0, .int .i64 v1, .int .i64 v2, .slice none 0 0, .slice none 0 0] 133)
          have f1 := f0.cons (r := E.hf) (by rw [hEd]; exact World.ownsRow_nil _ _ _ _) (fun k hk => by rw [hEd] at hk; cases hk)
          have f2 := f1.cons (r := E.hn) (by rw [hEd]; exact World.ownsRow_nil _ _ _ _) (fun k hk => by rw [hEd] at hk; cases hk)
          refine f2.cons (r := E.hb) ?_ (fun k hk hm => ?_)
          · rw [hEd]
            have := boxed_new (t := 133) (sz := 5) (B := B) (w := w5.setCell ⟨rb, 1, none⟩ (.pointer (some ⟨w5.heap.size, 0, none⟩))) (cs := #[.int .i64 v0, .int .i64 v1, .int .i64 v2, .slice none 0 0, .slice none 0 0]) rfl (by rw [hss]; omega)
            rw [hss] at this
            exact this
          · rw [hEd] at hk hm
            have e : w5.heap.size = k := by simpa [CEnt.hb, boxed, Value.ownBlock] using hk
            subst e
            rw [blocks_cons, blocks_cons] at hm
            have hm' : w5.heap.size ∈ blocksOf ((boxed 56 3 w2.heap.size #[.int .i64 v0, .int .i64 v1, .int .i64 v2].toList :: R) ++ r6.holds rb) := by simpa [CEnt.hn, CEnt.hf, Value.ownBlock] using hm
            have := (hR6.forest.lt hm').2
            rw [hss] at this
            omega
        have hb6 : Below B w ((w5.setCell ⟨rb, 1, none⟩ (.pointer (some ⟨w5.heap.size, 0, none⟩))).alloc (.cells #[.int .i64 v0, .int .i64 v1, .int .i64 v2, .slice none 0 0, .slice none 0 0] 133)) := ((HB4.out.trans (HB5.out.mono hsz4)).setCell hrB _).alloc (by rw [hss]; omega) _
        have hR6a : RdR B rb (boxed 56 3 w2.heap.size #[.int .i64 v0, .int .i64 v1, .int .i64 v2].toList :: R) r6 ((w5.setCell ⟨rb, 1, none⟩ (.pointer (some ⟨w5.heap.size, 0, none⟩))).alloc (.cells #[.int .i64 v0, .int .i64 v1, .int .i64 v2, .slice none 0 0, .slice none 0 0] 133)) := ⟨hR6.forest.alloc _⟩
        have HBL : Hid (w5.heap.size < ((w5.setCell ⟨rb, 1, none⟩ (.pointer (some ⟨w5.heap.size, 0, none⟩))).alloc (.cells #[.int .i64 v0, .int .i64 v1, .int .i64 v2, .slice none 0 0, .slice none 0 0] 133)).heap.size) := by show _ < _; simp
        have rc6 : ((w5.setCell ⟨rb, 1, none⟩ (.pointer (some ⟨w5.heap.size, 0, none⟩))).alloc (.cells #[.int .i64 v0, .int .i64 v1, .int .i64 v2, .slice none 0 0, .slice none 0 0] 133)).cell? ⟨rb, 1, none⟩ = some (.pointer (some ⟨w5.heap.size, 0, none⟩)) := by
          have := hR6a.reader.2.2.2.1
          rw [hr6] at this; exact this
        have pc6 := (hR6a.pack hqm6).2.2.2
        rw [hev'] at pc6
        have pl6 := (hR6a.pack hqm6).1
        have pf6 := hR6a.packFz hqm6 1
        have ho6 := hR6a.own (x := q.he) (by
          simp only [CRd.holds, List.mem_cons, List.mem_flatMap]
          exact Or.inr (Or.inr (Or.inr (Or.inr ⟨q, hqm6, by simp [CPack.holds]⟩))))
        have ak : (Value.slice ea q.ents.length ec).ownBlock ≠ some q.b := fun e => by
          obtain ⟨l1, l2, hl12, _⟩ := split_at (by have := HKQ.out; rw [show r'.packs = r6.packs by rw [hr6]] at this; exact this)
          have hpf := hR6a.forest.perm (show ((boxed 56 3 w2.heap.size #[.int .i64 v0, .int .i64 v1, .int .i64 v2].toList :: R) ++ r6.holds rb).Perm (q.hb :: q.he :: r6.hr rb :: r6.hi :: r6.hp :: r6.hm :: ((boxed 56 3 w2.heap.size #[.int .i64 v0, .int .i64 v1, .int .i64 v2].toList :: R) ++ (l1.flatMap CPack.holds ++ (q.ents.flatMap CEnt.holds ++ l2.flatMap CPack.holds)))) by
            classical
            rw [List.perm_iff_count]; intro x; simp only [CRd.holds, hl12, CPack.holds, List.flatMap_append, List.flatMap_cons, List.count_append, List.count_cons]; omega)
          refine hpf.alone (k := q.b) rfl (mem_blocks.2 ⟨q.he, by simp, ?_⟩)
          show q.ev.ownBlock = some q.b
          rw [hev']; exact e
        have HO6 : Hid (((w5.setCell ⟨rb, 1, none⟩ (.pointer (some ⟨w5.heap.size, 0, none⟩))).alloc (.cells #[.int .i64 v0, .int .i64 v1, .int .i64 v2, .slice none 0 0, .slice none 0 0] 133)).ownsRow B 124 1 (.slice ea q.ents.length ec) q.ents.length (q.ents.map fun e => ptrTo e.b)) := by
          rw [← hev']; exact ho6
        have HF6 : Hid (Forest B ((w5.setCell ⟨rb, 1, none⟩ (.pointer (some ⟨w5.heap.size, 0, none⟩))).alloc (.cells #[.int .i64 v0, .int .i64 v1, .int .i64 v2, .slice none 0 0, .slice none 0 0] 133)) (E.hb :: E.hn :: E.hf :: ((boxed 56 3 w2.heap.size #[.int .i64 v0, .int .i64 v1, .int .i64 v2].toList :: R) ++ r6.holds rb))) := hF6
        have HB6 : Hid (Below B w ((w5.setCell ⟨rb, 1, none⟩ (.pointer (some ⟨w5.heap.size, 0, none⟩))).alloc (.cells #[.int .i64 v0, .int .i64 v1, .int .i64 v2, .slice none 0 0, .slice none 0 0] 133))) := hb6
        have HFR : Hid (∀ x ∈ r'.packs, ∀ c ∈ x.ents, c.b ≠ w5.heap.size) := fun x hx c hc => by
          have := (HR5.out.entry hx hc).1
          omega
        have rl6 : rb < ((w5.setCell ⟨rb, 1, none⟩ (.pointer (some ⟨w5.heap.size, 0, none⟩))).alloc (.cells #[.int .i64 v0, .int .i64 v1, .int .i64 v2, .slice none 0 0, .slice none 0 0] 133)).heap.size := hR6a.reader.1
        have hB6 : B ≤ ((w5.setCell ⟨rb, 1, none⟩ (.pointer (some ⟨w5.heap.size, 0, none⟩))).alloc (.cells #[.int .i64 v0, .int .i64 v1, .int .i64 v2, .slice none 0 0, .slice none 0 0] 133)).heap.size := by have := hb6.size; omega
        clear hF6 hb6 hR6a hR6 ho6 hr6 hEd hss HR5 HB5 hs5 z0 z1 z2 rc5 rf5 hpc5 hqm6
        generalize ((w5.setCell ⟨rb, 1, none⟩ (.pointer (some ⟨w5.heap.size, 0, none⟩))).alloc (.cells #[.int .i64 v0, .int .i64 v1, .int .i64 v2, .slice none 0 0, .slice none 0 0] 133)) = w6 at *
        have HEB : Hid (E.b = w5.heap.size) := by show _ = _; rw [HEb.out]
        generalize w5.heap.size = eb at *
        go_region_law (refine step_append_lies _ (by rfl) _ _ _ (by rfl) B 124 j0 _ 1 8 Tryz.underlying74 hj0 hy0 hy1 hy2 rfl (by omega) (.slice ea q.ents.length ec) q.ents.length (q.ents.map fun e => ptrTo e.b) (by rfl) ((HO6.out.alloc _).drew) ⟨w6.heap.size, 0, none⟩ 1 1 [.pointer (some ⟨eb, 0, none⟩)] (by rfl) (by rfl) (World.news_of_block (cs := #[.pointer (some ⟨eb, 0, none⟩)]) (t := 124) (fr := (0, 0)) (heap_alloc_new w6 _)) (by simp [Value.oneCell']) (by omega) (by unfold maxLen; omega) (by omega) (by simp; omega) (w6.heap.size + 1) (by simp) ?_; intro gg cq w7 hown1 hgrow hat hlt3; have hfz3 : w7.frozen? ⟨q.b, 1, none⟩ = false := (hgrow.frozen_far ⟨q.b, 1, none⟩ (by simp; omega) (Ne.symm ak)).trans ((World.frozen?_alloc_past _ _ _ pl6).trans pf6); have hc3 : w7.cell? ⟨q.b, 1, none⟩ = some (.slice ea q.ents.length ec) := (hgrow.cell_far ⟨q.b, 1, none⟩ (by simp; omega) (Ne.symm ak)).trans ((World.cell?_alloc_past _ _ _ pl6).trans pc6))
        all_goals (
          have HF7 : Hid (∃ r7, RdR B rb R r7 (w7.setCell ⟨q.b, 1, none⟩ (.slice (some ⟨gg, 0, none⟩) (q.ents.length + 1) cq)) ∧ Full r7 (⟨namesOf p nm.data.toList, p.ents ++ [⟨(k : Int), V, vt.data.toList, [], []⟩]⟩, ms)) := by
            obtain ⟨l1, l2, hl12, hlk⟩ := split_at HKQ.out
            have hfa := HF6.out.on (((Below.refl _ _).alloc (Nat.le_refl _) (.cells #[.pointer (some ⟨eb, 0, none⟩)] 124)).drew)
            have hp6 : r6.packs = l1 ++ q :: l2 := by rw [HR6E.out]; exact hl12
            have hEe : E.needs = [] ∧ E.feats = [] := by rw [HEb.out]; exact ⟨rfl, rfl⟩
            have ha := RdR.addEnt hp6 hEe hfa (by rw [hev']; exact hgrow) (by rw [hev']; exact hat.imp id (fun e => by rw [e]; simp)) (by rw [HEB.out]; exact hown1)
            have hfu := HF4.out.addEnt (E := E) (V := V) (vt := vt.data.toList) (ev' := .slice (some ⟨gg, 0, none⟩) (q.ents.length + 1) cq) hl12 hEe HVV.out.2.2.2 (by rw [HEb.out]; exact ⟨HVV.out.1, HVV.out.2.1, HVV.out.2.2.1⟩) (by rw [HEB.out]; exact HFR.out)
            rw [hlk] at hfu
            refine ⟨_, ⟨ha.forest.tail⟩, ?_⟩
            rw [HR6E.out]
            rw [HEB.out] at hfu
            exact hfu
          have HB7 : Hid (Below B w (w7.setCell ⟨q.b, 1, none⟩ (.slice (some ⟨gg, 0, none⟩) (q.ents.length + 1) cq))) := (((HB6.out.alloc hB6 _).drew).grown hgrow (by simp; omega) (fun j hj => (HO6.out.lt j hj).1)).setCell HPB.out _
          clear hown1 hgrow hat hlt3 hfz3 hc3 HO6 HF6 HB6 ak HF4 HFR
          go_wp2
          go_ret
          obtain ⟨r7, h7, hf7⟩ := HF7.out
          exact ⟨tk_yes HE.out h7 hf7, HB7.out⟩)

end Go.Proofs.YtnmclolbndohiaaGreatDoor
