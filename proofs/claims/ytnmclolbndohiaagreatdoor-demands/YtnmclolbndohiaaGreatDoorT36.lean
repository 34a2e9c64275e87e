/-
  The walk of the code's 'takeNeed'.
-/
import Derived.Test.YtnmclolbndohiaaGreatDoorT35
import Derived.Deep.DeepCutAuto
import Derived.Deep.RegionWith
namespace Go.Proofs.YtnmclolbndohiaaGreatDoor
open Go.RowKit
open Ver
attribute [local go_sem ↓] Go.wp_at_zero Go.wp_at_succ

theorem Tryz.infoCNeed : (Tryz.prog.info? 264).map (fun i => (i.zero, i.size, i.bytes)) = some (some (.agg #[.string ByteArray.empty, .int .i64 0, .int .i64 0, .int .i64 0, .int .i64 0, .bool false, .slice none 0 0, .bool false]), 8, 88) := by kernel_rfl

theorem RdR.needEnd {B rb gg cq nc m : Nat} {na : Option Addr} {BX : Hold} {R : List Hold} {r : CRd} {l1 l2 : List CPack} {q : CPack} {es : List CEnt} {c : CEnt} {wc w4 : World} {nn : CNeed} {X : Obj} (h : RdR B rb (BX :: nn.hold :: R) r wc) (hq : r.packs = l1 ++ q :: l2) (hes : q.ents = es ++ [c]) (hm : c.needs.length = m) (hnv : c.nv = .slice na m nc) (hgrow : ((wc.alloc X).drew).grownBy w4 (Value.slice na m nc).ownBlock) (hat : (Value.slice na m nc).ownBlock = some gg ∨ gg = wc.heap.size + 1)
    (hown : w4.ownsRow B 264 8 (.slice (some ⟨gg, 0, none⟩) (m + 1) cq) (m + 1) (c.needs.flatMap CNeed.cells ++ nn.cells)) :
    RdR B rb (BX :: R) ⟨r.ib, r.pv, l1 ++ ⟨q.b, q.name, q.ev, es ++ [⟨c.b, c.v0, c.v1, c.v2, .slice (some ⟨gg, 0, none⟩) (m + 1) cq, c.needs ++ [nn], c.fv, c.feats⟩]⟩ :: l2, r.cur, r.mv, r.mens⟩ (w4.setCell ⟨c.b, 3, none⟩ (.slice (some ⟨gg, 0, none⟩) (m + 1) cq)) := by
  have hfa := h.forest.on (((Below.refl _ _).alloc (Nat.le_refl _) X).drew)
  subst hm
  exact RdR.addNeed (R := BX :: R) (n := nn) hq hes (hfa.perm (List.Perm.swap _ _ _)) (by rw [hnv]; exact hgrow) (by rw [hnv]; exact hat.imp id (fun e => by rw [e]; simp)) hown

def needOut (p : PIdx) (ms : List PMen) (pe : PEnt) (k : Int) : Option PNeed → Option (PIdx × List PMen)
  | none => none
  | some q => if idxL (pe.needs.map fun n => n.1.name) q.name < 0 ∧ pe.needs.length + 1 ≤ 5 then some (⟨p.names, p.ents.dropLast ++ [⟨pe.pack, pe.ver, pe.text, pe.needs ++ [(q, k)], pe.feats⟩]⟩, ms ++ [⟨k, p.ents.length - 1, .inl q⟩]) else none

set_option maxHeartbeats 6400000 in
set_option maxRecDepth 100000 in
theorem tn_go (B rb g o cap n : Nat) (R : List Hold) (r : CRd) (p : PIdx) (ms : List PMen) (k : Int) (pe : PEnt) (on : Option PNeed) (w : World) (h : RdR B rb R r w) (hfu : Full r (p, ms)) (hbd : Bd p) (hB : B ≤ w.heap.size) (hpe : p.ents.getLast? = some pe) (S : Sent w) (HSB : Hid (∀ k ∈ sentL, k < B))
    (HND : Hid (Calls Tryz.prog 149 #[.slice (some ⟨g, o, none⟩) n cap] w fun e w' => NeedCEnds w.heap.size on e w' ∧ Below w.heap.size w w'))
    (out : Option (PIdx × List PMen)) (HOUT : Hid (out = needOut p ms pe k on)) :
    Calls Tryz.prog 103 #[.pointer (some ⟨rb, 0, none⟩), .int .i64 k, .slice (some ⟨g, o, none⟩) n cap] w fun e w' => TkEnds B rb R out e w' ∧ Below B w w' := by
  obtain ⟨j0, hj0, hy0, hy1, hy2⟩ := info_parts Tryz.infoCNeed
  obtain ⟨i0, hi0, hz0, hz1, hz2⟩ := info_parts Tryz.infoMen
  obtain ⟨l1, q, l2, es, c, hq, hk, hes, hcu, hce⟩ := hfu.rel.last hpe
  have hqm : q ∈ r.packs := by rw [hq]; simp
  have hcm : c ∈ q.ents := by rw [hes]; simp
  have hpb := hbd.each pe (List.mem_of_getLast? hpe)
  have hnl : c.needs.length = pe.needs.length := hce.needs.len
  have hfl : c.feats.length = pe.feats.length := hce.feats.len
  have HR : Hid (RdR B rb R r w) := h
  have HFU : Hid (Full r (p, ms)) := hfu
  have HS : Hid (Sent w) := S
  have hrl := h.reader.1
  have c1 : w.cell? ⟨rb, 1, none⟩ = some (.pointer (some ⟨c.b, 0, none⟩)) := by
    have := h.reader.2.2.2.1
    unfold CRd.curV at this
    rw [hcu] at this; exact this
  have hel := (h.entry hqm hcm).1
  clear h S hfu
  go_enter Tryz.func103, Tryz.ntmps103
  go_wp2_with fail
  refine Calls.mono HND.out ?_
  rintro e w1 ⟨⟨nm, st, va, vb, vc, bare, fa, fk, fc, opt, er, rfl, hno, hyes⟩, hb1⟩
  have HB1 : Hid (Below w.heap.size w w1) := hb1
  clear HND
  cases on with
  | none =>
    obtain ⟨t, pp, rfl⟩ := hno rfl
    have HE : Hid (out = none) := HOUT.out
    clear hno hyes HOUT hb1
    go_wp2
    go_ret
    exact ⟨tk_no HE.out, (HB1.out.mono hB).alloc (by have := HB1.out.size; omega) _⟩
  | some pn =>
    obtain ⟨rfl, x1, x2, x3, x4, x5, x6, x7, F, hF, hFk, hown⟩ := hyes pn rfl
    have HNR : Hid (NeedRel ⟨nm, st, va, vb, vc, bare, .slice fa fk fc, F, opt⟩ (pn, k)) := ⟨x1, x7, x6, x2, x3, x4, x5, hF⟩
    have HOUT' : Hid (out = if idxL (pe.needs.map fun n => n.1.name) pn.name < 0 ∧ pe.needs.length + 1 ≤ 5 then some (⟨p.names, p.ents.dropLast ++ [⟨pe.pack, pe.ver, pe.text, pe.needs ++ [(pn, k)], pe.feats⟩]⟩, ms ++ [⟨k, p.ents.length - 1, .inl pn⟩]) else none) := HOUT.out
    have HK : Hid (idxL (pe.needs.map fun n => n.1.name) pn.name = idxL (c.needs.map fun p => p.name.data.toList) nm.data.toList) := by
      show _ = _
      rw [x1, hce.needs.map (fun p => p.name.data.toList) (fun n => n.1.name) fun a b hab => hab.name]
    have hf1 : Forest B w1 ((CNeed.hold ⟨nm, st, va, vb, vc, bare, .slice fa fk fc, F, opt⟩) :: (R ++ r.holds rb)) := HR.out.forest.add hb1 (r := CNeed.hold ⟨nm, st, va, vb, vc, bare, .slice fa fk fc, F, opt⟩) (by show w1.ownsRow _ _ _ _ _ _; exact hown) (Nat.le_refl _) hB
    have HR1 : Hid (RdR B rb ((CNeed.hold ⟨nm, st, va, vb, vc, bare, .slice fa fk fc, F, opt⟩) :: R) r w1) := ⟨hf1⟩
    have hs1 := hb1.size
    have HR2 : Hid (RdR B rb (boxed 264 8 w1.heap.size #[.string nm, .int .i64 st, .int .i64 va, .int .i64 vb, .int .i64 vc, .bool bare, .slice fa fk fc, .bool opt].toList :: (CNeed.hold ⟨nm, st, va, vb, vc, bare, .slice fa fk fc, F, opt⟩) :: R) r (w1.alloc (.cells #[.string nm, .int .i64 st, .int .i64 va, .int .i64 vb, .int .i64 vc, .bool bare, .slice fa fk fc, .bool opt] 264))) := HR1.out.addHold rfl (by omega)
    have c1' := (hb1.cell (p := ⟨rb, 1, none⟩) hrl).trans c1
    have hrl1 : rb < w1.heap.size := by omega
    clear hno hyes HOUT x1 x2 x3 x4 x5 x6 x7 hF hown hf1 c1 HR hb1 HR1
    have hs2 : (w1.alloc (.cells #[.string nm, .int .i64 st, .int .i64 va, .int .i64 vb, .int .i64 vc, .bool bare, .slice fa fk fc, .bool opt] 264)).heap.size = w1.heap.size + 1 := by simp
    have HNM : Hid (∀ W : World, Below (w1.heap.size + 1) (w1.alloc (.cells #[.string nm, .int .i64 st, .int .i64 va, .int .i64 vb, .int .i64 vc, .bool bare, .slice fa fk fc, .bool opt] 264)) W → Calls Tryz.prog 141 #[.pointer (some ⟨c.b, 0, none⟩), .string nm] W fun e w' => (∃ n : CNeed, e = .returned (.tuple #[n.val, .bool (decide (0 ≤ idxL (c.needs.map fun p => p.name.data.toList) nm.data.toList))]) ∧ ∃ a k c, n.fv = .slice a k c) ∧ Below W.heap.size W w') := fun W hW => ((HR2.out.on (by rw [hs2]; exact hW)).needM hqm hcm (by omega) nm).mono fun e w' h => ⟨by obtain ⟨n, h1, _, h3⟩ := h.1; exact ⟨n, h1, h3⟩, h.2⟩
    generalize idxL (c.needs.map fun p => p.name.data.toList) nm.data.toList = K at *
    go_upto_region 4 with fail
    go_cut [9, 10] (fun _ s wx => s = .bool (decide (0 ≤ K)) ∧ Below (w1.heap.size + 1) (w1.alloc (.cells #[.string nm, .int .i64 st, .int .i64 va, .int .i64 vb, .int .i64 vc, .bool bare, .slice fa fk fc, .bool opt] 264)) wx)
    --A1
    case first =>
      go_region_with (go_at_call 141; refine Calls.mono (HNM.out _ ?_) ?_; (first | exact (Below.refl _ _).drew | exact (((Below.refl _ _).alloc (by simp) _).drew)); rintro e w3 ⟨⟨⟨nnm, nst, na, nb, nc, nbare, nfv, nfeats, nopt⟩, rfl, xa, xk, xc, hfi⟩, hb3⟩; simp only at hfi; subst hfi; unfold CNeed.val; simp only; have HB3 : Hid (Below (w1.heap.size + 1) (w1.alloc (.cells #[.string nm, .int .i64 st, .int .i64 va, .int .i64 vb, .int .i64 vc, .bool bare, .slice fa fk fc, .bool opt] 264)) w3) := (by first | exact ((Below.refl _ _).drew).trans (hb3.mono (by simp)) | exact (((Below.refl _ _).alloc (by simp) _).drew).trans (hb3.mono (by simp))); (first | (have hz : ∀ o, w3.cell? ⟨w1.heap.size + 1, o, none⟩ = #[Value.string ⟨#[]⟩, .int .i64 0, .int .i64 0, .int .i64 0, .int .i64 0, .bool false, .slice none 0 0, .bool false][o]? := (fun o => (hb3.cell (p := ⟨w1.heap.size + 1, o, none⟩) (by simp)).trans (World.cell?_alloc_at _ _ _ _ (by simp))); have hfz : ∀ o, w3.frozen? ⟨w1.heap.size + 1, o, none⟩ = false := (fun o => (hb3.frozen (p := ⟨w1.heap.size + 1, o, none⟩) (by simp)).trans (World.frozen?_alloc_at _ _ _ _ (by simp))); have hl3 : w1.heap.size + 1 < w3.heap.size := (by have := hb3.size; simp at this; omega); have r0 := hz 0; have r1 := hz 1; have r2 := hz 2; have r3 := hz 3; have r4 := hz 4; have r5 := hz 5; have r6 := hz 6; have r7 := hz 7; simp at r0 r1 r2 r3 r4 r5 r6 r7; have z0 := hfz 0; have z1 := hfz 1; have z2 := hfz 2; have z3 := hfz 3; have z4 := hfz 4; have z5 := hfz 5; have z6 := hfz 6; have z7 := hfz 7; clear hz hfz) | skip))
      all_goals (
        (try clear r0 r1 r2 r3 r4 r5 r6 r7 z0 z1 z2 z3 z4 z5 z6 z7 hl3)
        clear hb3 HNM
        go_wp2_with fail
        go_meet
        have hle3 : w1.heap.size + 1 ≤ w3.heap.size := by have := HB3.out.size; simp at this; omega
        refine ⟨rfl, ?_⟩
        repeat (first | with_reducible exact HB3.out | (with_reducible refine Below.setCell ?_ ?hp _; case hp => exact Nat.le_refl _) | with_reducible refine Below.alloc ?_ hle3 _))
    --/A1
    case rest =>
    obtain ⟨rfl, hbc⟩ := hcut
    have hRc : RdR B rb (boxed 264 8 w1.heap.size #[.string nm, .int .i64 st, .int .i64 va, .int .i64 vb, .int .i64 vc, .bool bare, .slice fa fk fc, .bool opt].toList :: (CNeed.hold ⟨nm, st, va, vb, vc, bare, .slice fa fk fc, F, opt⟩) :: R) r wc := HR2.out.on (by rw [hs2]; exact hbc)
    have HBC : Hid (Below B w wc) := ((HB1.out.mono hB).alloc (by omega) _).trans (hbc.mono (by omega))
    have HRC : Hid (RdR B rb (boxed 264 8 w1.heap.size #[.string nm, .int .i64 st, .int .i64 va, .int .i64 vb, .int .i64 vc, .bool bare, .slice fa fk fc, .bool opt].toList :: (CNeed.hold ⟨nm, st, va, vb, vc, bare, .slice fa fk fc, F, opt⟩) :: R) r wc) := hRc
    have HSC : Hid (Sent wc) := HS.out.above HBC.out HSB.out
    obtain ⟨ta, pa, hca⟩ := HSC.out.cell 14 (by decide)
    obtain ⟨tm, pm, hcm'⟩ := HSC.out.cell 15 (by decide)
    clear HNM hbc HR2 HS HB1 c1' hs2
    by_cases hK : K < 0
    · have e1 : decide (0 ≤ K) = false := decide_eq_false (by omega)
      rw [e1]
      have rc1 : wc.cell? ⟨rb, 1, none⟩ = some (.pointer (some ⟨c.b, 0, none⟩)) := by
        have := hRc.reader.2.2.2.1
        unfold CRd.curV at this
        rw [hcu] at this; exact this
      have hrlc := hRc.reader.1
      have hec := hRc.entry hqm hcm
      have ec3 := hec.2.2.1 3 (by omega)
      simp only [CEnt.cells, List.getElem?_cons_zero, List.getElem?_cons_succ] at ec3
      have helc := hec.1
      obtain ⟨na, nc, hnv⟩ := (RowR.of_owns hec.2.2.2.1).form
      have hnv' : c.nv = .slice na c.needs.length nc := hnv
      rw [hnv'] at ec3
      by_cases h5 : c.needs.length = 5
      · have HE : Hid (out = none) := by
          show _ = _
          rw [HOUT'.out, if_neg (fun h => by have := h.2; omega)]
        have k5 : ((c.needs.length : Int) == 5) = true := by simp; omega
        clear e1 hca HOUT' HK HNR HRC hRc hec hnv hnv' HFU
        go_wp2
        go_ret
        exact ⟨tk_no HE.out, HBC.out⟩
      · have HE : Hid (out = some (⟨p.names, p.ents.dropLast ++ [⟨pe.pack, pe.ver, pe.text, pe.needs ++ [(pn, k)], pe.feats⟩]⟩, ms ++ [⟨k, p.ents.length - 1, .inl pn⟩])) := by
          show _ = _
          rw [HOUT'.out, if_pos ⟨by rw [HK.out]; exact hK, by omega⟩]
        have k5 : ((c.needs.length : Int) == 5) = false := by simp; omega
        clear e1 hca hcm' HOUT' HK
        have hbx := hRc.forest.own (boxed 264 8 w1.heap.size #[.string nm, .int .i64 st, .int .i64 va, .int .i64 vb, .int .i64 vc, .bool bare, .slice fa fk fc, .bool opt].toList) (by simp)
        have y0 : wc.cell? ⟨w1.heap.size, 0, none⟩ = some (.string nm) := boxed_cell hbx 0 (by omega)
        have y1 : wc.cell? ⟨w1.heap.size, 1, none⟩ = some (.int .i64 st) := boxed_cell hbx 1 (by omega)
        have y2 : wc.cell? ⟨w1.heap.size, 2, none⟩ = some (.int .i64 va) := boxed_cell hbx 2 (by omega)
        have y3 : wc.cell? ⟨w1.heap.size, 3, none⟩ = some (.int .i64 vb) := boxed_cell hbx 3 (by omega)
        have y4 : wc.cell? ⟨w1.heap.size, 4, none⟩ = some (.int .i64 vc) := boxed_cell hbx 4 (by omega)
        have y5 : wc.cell? ⟨w1.heap.size, 5, none⟩ = some (.bool bare) := boxed_cell hbx 5 (by omega)
        have y6 : wc.cell? ⟨w1.heap.size, 6, none⟩ = some (.slice fa fk fc) := boxed_cell hbx 6 (by omega)
        have y7 : wc.cell? ⟨w1.heap.size, 7, none⟩ = some (.bool opt) := boxed_cell hbx 7 (by omega)
        have hbxl := (boxed_lt hbx).2
        have HNV : Hid (c.nv = .slice na c.needs.length nc) := hnv'
        have ho : c.hn.own B wc := hec.2.2.2.1
        have HOn : Hid (wc.ownsRow B 264 8 (.slice na c.needs.length nc) c.needs.length (c.needs.flatMap CNeed.cells)) := by
          have ho' : wc.ownsRow B 264 8 c.nv c.needs.length (c.needs.flatMap CNeed.cells) := ho
          rw [hnv'] at ho'; exact ho'
        have heB : B ≤ c.b := hec.2.1
        have hrB : B ≤ rb := hRc.reader.2.1
        have ef3 : wc.frozen? ⟨c.b, 3, none⟩ = false := hRc.entFz hqm hcm 3
        have ak : (Value.slice na c.needs.length nc).ownBlock ≠ some c.b := fun e => by
          have hpf := hRc.forest.perm (hRc.permEnt hq hes)
          refine (hpf.perm (List.Perm.swap _ _ _)).alone (k := c.b) rfl (mem_blocks.2 ⟨c.hn, by simp, ?_⟩)
          show c.nv.ownBlock = some c.b
          rw [hnv']; exact e
        have ak2 : (Value.slice na c.needs.length nc).ownBlock ≠ some rb := fun e => by
          have hpf := hRc.forest.perm (hRc.permEnt hq hes)
          refine hpf.alone (k := rb) (by show c.nv.ownBlock = some rb; rw [hnv']; exact e) (mem_blocks.2 ⟨r.hr rb, by simp, rfl⟩)
        have hBc : B ≤ wc.heap.size := by have := HBC.out.size; omega
        have HNL : Hid (c.needs.length = pe.needs.length) := hnl
        have h5' : c.needs.length < 5 := by omega
        clear hec hnv hnv' hRc hbx ho hnl hfl h5 hpb
        go_upto_region 9 with fail
        go_cut [57] (fun _ wx => ∃ gg cq, RdR B rb (boxed 264 8 w1.heap.size #[.string nm, .int .i64 st, .int .i64 va, .int .i64 vb, .int .i64 vc, .bool bare, .slice fa fk fc, .bool opt].toList :: R) ⟨r.ib, r.pv, l1 ++ ⟨q.b, q.name, q.ev, es ++ [⟨c.b, c.v0, c.v1, c.v2, .slice (some ⟨gg, 0, none⟩) (c.needs.length + 1) cq, c.needs ++ [⟨nm, st, va, vb, vc, bare, .slice fa fk fc, F, opt⟩], c.fv, c.feats⟩]⟩ :: l2, r.cur, r.mv, r.mens⟩ wx ∧ Below B w wx)
        --A2
        case first =>
          go_region_law (refine step_append_lies _ (by rfl) _ _ _ (by rfl) B 264 j0 _ 8 88 Tryz.underlying130 hj0 hy0 hy1 hy2 rfl (by omega) (.slice na c.needs.length nc) c.needs.length (c.needs.flatMap CNeed.cells) (by rfl) ((HOn.out.alloc _).drew) ⟨wc.heap.size, 0, none⟩ 1 1 [.string nm, .int .i64 st, .int .i64 va, .int .i64 vb, .int .i64 vc, .bool bare, .slice fa fk fc, .bool opt] (by rfl) (by rfl) (World.news_of_block (cs := #[.string nm, .int .i64 st, .int .i64 va, .int .i64 vb, .int .i64 vc, .bool bare, .slice fa fk fc, .bool opt]) (t := 264) (fr := (0, 0)) (heap_alloc_new wc _)) (by simp [Value.oneCell']) (by omega) (by unfold maxLen; omega) (by omega) (by simp; omega) (wc.heap.size + 1) (by simp) ?_; intro gg cq w4 hown1 hgrow hat hlt3; have hfz3 : w4.frozen? ⟨c.b, 3, none⟩ = false := (hgrow.frozen_far ⟨c.b, 3, none⟩ (by simp; omega) (Ne.symm ak)).trans ((World.frozen?_alloc_past _ _ _ helc).trans ef3); have hc3 : w4.cell? ⟨c.b, 3, none⟩ = some (.slice na c.needs.length nc) := (hgrow.cell_far ⟨c.b, 3, none⟩ (by simp; omega) (Ne.symm ak)).trans ((World.cell?_alloc_past _ _ _ helc).trans ec3); have hcr : w4.cell? ⟨rb, 1, none⟩ = some (.pointer (some ⟨c.b, 0, none⟩)) := (hgrow.cell_far ⟨rb, 1, none⟩ (by simp; omega) (Ne.symm ak2)).trans ((World.cell?_alloc_past _ _ _ hrlc).trans rc1))
          all_goals (
            have HB5 : Hid (Below B w (w4.setCell ⟨c.b, 3, none⟩ (.slice (some ⟨gg, 0, none⟩) (c.needs.length + 1) cq))) := (((HBC.out.alloc hBc _).drew).grown hgrow (by simp; omega) (fun j hj => (HOn.out.lt j hj).1)).setCell heB _
            have HR5 := HRC.out.needEnd hq hes rfl HNV.out hgrow hat hown1
            have HR5' : Hid (_) := HR5
            clear HR5 hown1 hgrow hat hlt3 hfz3 hc3 hcr HOn y0 y1 y2 y3 y4 y5 y6 y7 ec3 ef3 rc1 ak ak2
            go_wp2_with fail
            go_meet
            exact ⟨gg, cq, HR5'.out, HB5.out⟩)
        --/A2
        case rest =>
        obtain ⟨gg, cq, hR5, hb5⟩ := hcut
        clear HOn y0 y1 y2 y3 y4 y5 y6 y7 ec3 ef3 rc1 ak ak2 helc hrlc hbxl HRC HBC HSC hBc
        obtain ⟨r5, hr5⟩ : ∃ x : CRd, x = ⟨r.ib, r.pv, l1 ++ ⟨q.b, q.name, q.ev, es ++ [⟨c.b, c.v0, c.v1, c.v2, .slice (some ⟨gg, 0, none⟩) (c.needs.length + 1) cq, c.needs ++ [⟨nm, st, va, vb, vc, bare, .slice fa fk fc, F, opt⟩], c.fv, c.feats⟩]⟩ :: l2, r.cur, r.mv, r.mens⟩ := ⟨_, rfl⟩
        rw [← hr5] at hR5
        have HR5 : Hid (RdR B rb (boxed 264 8 w1.heap.size #[.string nm, .int .i64 st, .int .i64 va, .int .i64 vb, .int .i64 vc, .bool bare, .slice fa fk fc, .bool opt].toList :: R) r5 wc) := hR5
        have HB5 : Hid (Below B w wc) := hb5
        have HR5E : Hid (r5 = ⟨r.ib, r.pv, l1 ++ ⟨q.b, q.name, q.ev, es ++ [⟨c.b, c.v0, c.v1, c.v2, .slice (some ⟨gg, 0, none⟩) (c.needs.length + 1) cq, c.needs ++ [⟨nm, st, va, vb, vc, bare, .slice fa fk fc, F, opt⟩], c.fv, c.feats⟩]⟩ :: l2, r.cur, r.mv, r.mens⟩) := hr5
        have rc1 : wc.cell? ⟨rb, 1, none⟩ = some (.pointer (some ⟨c.b, 0, none⟩)) := by
          have := hR5.reader.2.2.2.1
          rw [hr5] at this
          unfold CRd.curV at this
          simp only [hcu] at this
          exact this
        have hrlc := hR5.reader.1
        have hmo := hR5.own (x := r5.hm) (by simp [CRd.holds])
        obtain ⟨ma, mc, hmv⟩ := (RowR.of_owns hmo).form
        have e5m : r5.mens = r.mens := by rw [hr5]
        have hmv' : r5.mv = .slice ma r.mens.length mc := by rw [← e5m]; exact hmv
        have rc2 : wc.cell? ⟨rb, 2, none⟩ = some (.slice ma r.mens.length mc) := by
          have := hR5.reader.2.2.2.2
          rw [hmv'] at this; exact this
        have rf2 : wc.frozen? ⟨rb, 2, none⟩ = false := hR5.readerFz 2
        have hml : r.mens.length ≤ 240 := HFU.out.few hbd.names hbd.vers hbd.each
        have HOm : Hid (wc.ownsRow B 151 3 (.slice ma r.mens.length mc) r.mens.length (r.mens.flatMap CMen.cells)) := by
          have hm' : wc.ownsRow B 151 3 r5.mv r5.mens.length (r5.mens.flatMap CMen.cells) := hmo
          rw [hmv', e5m] at hm'; exact hm'
        have ak : (Value.slice ma r.mens.length mc).ownBlock ≠ some rb := fun e => by
          have hpf := hR5.forest.perm (show ((boxed 264 8 w1.heap.size #[.string nm, .int .i64 st, .int .i64 va, .int .i64 vb, .int .i64 vc, .bool bare, .slice fa fk fc, .bool opt].toList :: R) ++ r5.holds rb).Perm (r5.hr rb :: r5.hm :: r5.hi :: r5.hp :: ((boxed 264 8 w1.heap.size #[.string nm, .int .i64 st, .int .i64 va, .int .i64 vb, .int .i64 vc, .bool bare, .slice fa fk fc, .bool opt].toList :: R) ++ r5.packs.flatMap CPack.holds)) by
            classical
            rw [List.perm_iff_count]; intro x; simp only [CRd.holds, List.count_append, List.count_cons]; omega)
          refine hpf.alone (k := rb) rfl (mem_blocks.2 ⟨r5.hm, by simp, ?_⟩)
          show r5.mv.ownBlock = some rb
          rw [hmv']; exact e
        have HMV : Hid (r5.mv = .slice ma r.mens.length mc) := hmv'
        have hbx := hR5.forest.own (boxed 264 8 w1.heap.size #[.string nm, .int .i64 st, .int .i64 va, .int .i64 vb, .int .i64 vc, .bool bare, .slice fa fk fc, .bool opt].toList) (by simp)
        have y0 : wc.cell? ⟨w1.heap.size, 0, none⟩ = some (.string nm) := boxed_cell hbx 0 (by omega)
        have y1 : wc.cell? ⟨w1.heap.size, 1, none⟩ = some (.int .i64 st) := boxed_cell hbx 1 (by omega)
        have y2 : wc.cell? ⟨w1.heap.size, 2, none⟩ = some (.int .i64 va) := boxed_cell hbx 2 (by omega)
        have y3 : wc.cell? ⟨w1.heap.size, 3, none⟩ = some (.int .i64 vb) := boxed_cell hbx 3 (by omega)
        have y4 : wc.cell? ⟨w1.heap.size, 4, none⟩ = some (.int .i64 vc) := boxed_cell hbx 4 (by omega)
        have y5 : wc.cell? ⟨w1.heap.size, 5, none⟩ = some (.bool bare) := boxed_cell hbx 5 (by omega)
        have y6 : wc.cell? ⟨w1.heap.size, 6, none⟩ = some (.slice fa fk fc) := boxed_cell hbx 6 (by omega)
        have y7 : wc.cell? ⟨w1.heap.size, 7, none⟩ = some (.bool opt) := boxed_cell hbx 7 (by omega)
        have hbxl := (boxed_lt hbx).2
        have hBc : B ≤ wc.heap.size := by have := hb5.size; omega
        have HML : Hid (r5.mens.length = r.mens.length) := by show _ = _; rw [e5m]
        have HME : Hid (r5.mens = r.mens) := e5m
        have HFULL : Hid (∀ mv', Full ⟨r5.ib, r5.pv, r5.packs, r5.cur, mv', r5.mens ++ [⟨k, c.b, .inl ⟨nm, st, va, vb, vc, bare, .slice fa fk fc, F, opt⟩⟩]⟩ (⟨p.names, p.ents.dropLast ++ [⟨pe.pack, pe.ver, pe.text, pe.needs ++ [(pn, k)], pe.feats⟩]⟩, ms ++ [⟨k, p.ents.length - 1, .inl pn⟩])) := fun mv' => by
          have hfu := HFU.out.setLast (c' := ⟨c.b, c.v0, c.v1, c.v2, .slice (some ⟨gg, 0, none⟩) (c.needs.length + 1) cq, c.needs ++ [⟨nm, st, va, vb, vc, bare, .slice fa fk fc, F, opt⟩], c.fv, c.feats⟩) (e' := ⟨pe.pack, pe.ver, pe.text, pe.needs ++ [(pn, k)], pe.feats⟩) (mv' := mv') (x := ⟨k, c.b, .inl ⟨nm, st, va, vb, vc, bare, .slice fa fk fc, F, opt⟩⟩) (y := ⟨k, p.ents.length - 1, .inl pn⟩) hpe hq hk hes hcu rfl rfl ⟨hce.lo, hce.hi, hce.v0, hce.v1, hce.v2, hce.needs.snoc HNR.out, hce.feats⟩ (fun _ h => h) rfl rfl rfl (by simp; omega) ⟨HNR.out.name, _, _, _, rfl⟩
          rw [hr5]; exact hfu
        clear hR5 hb5 hr5 hmo hmv hmv' e5m hbx hce
        go_wp2
        go_region_law (refine step_append_lies _ (by rfl) _ _ _ (by rfl) B 151 i0 _ 3 32 Tryz.underlying145 hi0 hz0 hz1 hz2 rfl (by omega) (.slice ma r.mens.length mc) r.mens.length (r.mens.flatMap CMen.cells) (by rfl) ((HOm.out.alloc _).drew) ⟨wc.heap.size, 0, none⟩ 1 1 [.int .i64 k, .pointer (some ⟨c.b, 0, none⟩), .iface 264 (.agg #[.string nm, .int .i64 st, .int .i64 va, .int .i64 vb, .int .i64 vc, .bool bare, .slice fa fk fc, .bool opt])] (by rfl) (by rfl) (World.news_of_block (cs := #[.int .i64 k, .pointer (some ⟨c.b, 0, none⟩), .iface 264 (.agg #[.string nm, .int .i64 st, .int .i64 va, .int .i64 vb, .int .i64 vc, .bool bare, .slice fa fk fc, .bool opt])]) (t := 151) (fr := (0, 0)) (heap_alloc_new wc _)) (by simp [Value.oneCell']) (by omega) (by unfold maxLen; omega) (by omega) (by simp; omega) (wc.heap.size + 1) (by simp) ?_; intro g6 c6 w6 hown1 hgrow hat hlt3; have hfz3 : w6.frozen? ⟨rb, 2, none⟩ = false := (hgrow.frozen_far ⟨rb, 2, none⟩ (by simp; omega) (Ne.symm ak)).trans ((World.frozen?_alloc_past _ _ _ hrlc).trans rf2); have hc3 : w6.cell? ⟨rb, 2, none⟩ = some (.slice ma r.mens.length mc) := (hgrow.cell_far ⟨rb, 2, none⟩ (by simp; omega) (Ne.symm ak)).trans ((World.cell?_alloc_past _ _ _ hrlc).trans rc2))
        all_goals (
          have HB7 : Hid (Below B w (w6.setCell ⟨rb, 2, none⟩ (.slice (some ⟨g6, 0, none⟩) (r.mens.length + 1) c6))) := (((HB5.out.alloc hBc _).drew).grown hgrow (by simp; omega) (fun j hj => (HOm.out.lt j hj).1)).setCell hrB _
          have HR7 := HR5.out.menEnd (x := ⟨k, c.b, .inl ⟨nm, st, va, vb, vc, bare, .slice fa fk fc, F, opt⟩⟩) HML.out HMV.out hgrow hat (by rw [HME.out]; exact hown1)
          have HR7' : Hid (_) := HR7
          clear HR7 hown1 hgrow hat hlt3 hfz3 hc3 HOm ak HR5 y0 y1 y2 y3 y4 y5 y6 y7
          go_wp2
          go_ret
          exact ⟨tk_yes HE.out HR7'.out (HFULL.out _), HB7.out⟩)
    · have e1 : decide (0 ≤ K) = true := decide_eq_true (by omega)
      rw [e1]
      have HE : Hid (out = none) := by
        show _ = _
        rw [HOUT'.out, if_neg (fun h => hK (by rw [← HK.out]; exact h.1))]
      clear e1 hcm' HOUT' HK HNR HRC hRc HFU
      go_wp2
      go_ret
      exact ⟨tk_no HE.out, HBC.out⟩

end Go.Proofs.YtnmclolbndohiaaGreatDoor
