/-
  The walk of the code's 'takeFeature'.
-/
import Derived.Test.YtnmclolbndohiaaGreatDoorT35
import Derived.Deep.DeepCutAuto
import Derived.Deep.RegionWith
namespace Go.Proofs.YtnmclolbndohiaaGreatDoor
open Go.RowKit
open Ver
attribute [local go_sem ↓] Go.wp_at_zero Go.wp_at_succ

theorem Tryz.infoCFeat : (Tryz.prog.info? 222).map (fun i => (i.zero, i.size, i.bytes)) = some (some (.agg #[.string ByteArray.empty, .slice none 0 0]), 2, 40) := by kernel_rfl

theorem RdR.permEntF {B rb : Nat} {R : List Hold} {r : CRd} {w : World} {l1 l2 : List CPack} {q : CPack} {es : List CEnt} {c : CEnt} (_h : RdR B rb R r w) (hq : r.packs = l1 ++ q :: l2) (hes : q.ents = es ++ [c]) :
    (R ++ r.holds rb).Perm (c.hf :: c.hb :: c.hn :: r.hr rb :: r.hi :: r.hp :: r.hm :: q.hb :: q.he :: (R ++ (l1.flatMap CPack.holds ++ (es.flatMap CEnt.holds ++ (c.needs.map CNeed.hold ++ (c.feats.map CFeat.hold ++ l2.flatMap CPack.holds)))))) := by
  classical
  rw [List.perm_iff_count]
  intro x
  simp only [CRd.holds, hq, CPack.holds, hes, CEnt.holds, List.flatMap_append, List.flatMap_cons, List.flatMap_nil, List.append_nil, List.count_append, List.count_cons]
  omega
theorem RdR.featEnd {B rb gg cq nc m : Nat} {na : Option Addr} {BX : Hold} {R : List Hold} {r : CRd} {l1 l2 : List CPack} {q : CPack} {es : List CEnt} {c : CEnt} {wc w4 : World} {nn : CFeat} {X : Obj} (h : RdR B rb (BX :: nn.hold :: R) r wc) (hq : r.packs = l1 ++ q :: l2) (hes : q.ents = es ++ [c]) (hm : c.feats.length = m) (hnv : c.fv = .slice na m nc) (hgrow : ((wc.alloc X).drew).grownBy w4 (Value.slice na m nc).ownBlock) (hat : (Value.slice na m nc).ownBlock = some gg ∨ gg = wc.heap.size + 1)
    (hown : w4.ownsRow B 222 2 (.slice (some ⟨gg, 0, none⟩) (m + 1) cq) (m + 1) (c.feats.flatMap CFeat.cells ++ nn.cells)) :
    RdR B rb (BX :: R) ⟨r.ib, r.pv, l1 ++ ⟨q.b, q.name, q.ev, es ++ [⟨c.b, c.v0, c.v1, c.v2, c.nv, c.needs, .slice (some ⟨gg, 0, none⟩) (m + 1) cq, c.feats ++ [nn]⟩]⟩ :: l2, r.cur, r.mv, r.mens⟩ (w4.setCell ⟨c.b, 4, none⟩ (.slice (some ⟨gg, 0, none⟩) (m + 1) cq)) := by
  have hfa := h.forest.on (((Below.refl _ _).alloc (Nat.le_refl _) X).drew)
  subst hm
  exact RdR.addFeat (R := BX :: R) (n := nn) hq hes (hfa.perm (List.Perm.swap _ _ _)) (by rw [hnv]; exact hgrow) (by rw [hnv]; exact hat.imp id (fun e => by rw [e]; simp)) hown

def featOut (p : PIdx) (ms : List PMen) (pe : PEnt) (k : Int) : Option (List UInt8 × List (List UInt8 × List UInt8 × Bool)) → Option (PIdx × List PMen)
  | none => none
  | some q => if idxL (pe.feats.map fun f => f.name) q.1 < 0 ∧ pe.feats.length + 1 ≤ 5 then some (⟨p.names, p.ents.dropLast ++ [⟨pe.pack, pe.ver, pe.text, pe.needs, pe.feats ++ [⟨q.1, q.2, k⟩]⟩]⟩, ms ++ [⟨k, p.ents.length - 1, .inr ⟨q.1, q.2, k⟩⟩]) else none

set_option maxHeartbeats 6400000 in
set_option maxRecDepth 100000 in
theorem tf_go (B rb g o cap n : Nat) (R : List Hold) (r : CRd) (p : PIdx) (ms : List PMen) (k : Int) (pe : PEnt) (on : Option (List UInt8 × List (List UInt8 × List UInt8 × Bool))) (w : World) (h : RdR B rb R r w) (hfu : Full r (p, ms)) (hbd : Bd p) (hB : B ≤ w.heap.size) (hpe : p.ents.getLast? = some pe) (S : Sent w) (HSB : Hid (∀ k ∈ sentL, k < B))
    (HND : Hid (Calls Tryz.prog 150 #[.slice (some ⟨g, o, none⟩) n cap] w fun e w' => PFeatEnds w.heap.size on e w' ∧ Below w.heap.size w w'))
    (out : Option (PIdx × List PMen)) (HOUT : Hid (out = featOut p ms pe k on)) :
    Calls Tryz.prog 104 #[.pointer (some ⟨rb, 0, none⟩), .int .i64 k, .slice (some ⟨g, o, none⟩) n cap] w fun e w' => TkEnds B rb R out e w' ∧ Below B w w' := by
  obtain ⟨j0, hj0, hy0, hy1, hy2⟩ := info_parts Tryz.infoCFeat
  obtain ⟨i0, hi0, hz0, hz1, hz2⟩ := info_parts Tryz.infoMen
  obtain ⟨l1, q, l2, es, c, hq, hk, hes, hcu, hce⟩ := hfu.rel.last hpe
  have hqm : q ∈ r.packs := by rw [hq]; simp
  have hcm : c ∈ q.ents := by rw [hes]; simp
  have hpb := hbd.each pe (List.mem_of_getLast? hpe)
  have hnl : c.feats.length = pe.feats.length := hce.feats.len
  have hfl : c.needs.length = pe.needs.length := hce.needs.len
  have HR : Hid (RdR B rb R r w) := h
  have HFU : Hid (Full r (p, ms)) := hfu
  have HS : Hid (Sent w) := S
  have hrl := h.reader.1
  have c1 : w.cell? ⟨rb, 1, none⟩ = some (.pointer (some ⟨c.b, 0, none⟩)) := by
    have := h.reader.2.2.2.1
    unfold CRd.curV at this
    rw [hcu] at this; exact this
  have hel := (h.entry hqm hcm).1
  clear h S hfu
  go_enter Tryz.func104, Tryz.ntmps104
  go_wp2_with fail
  refine Calls.mono HND.out ?_
  rintro e w1 ⟨⟨nm, fa, fk, fc, er, rfl, hno, hyes⟩, hb1⟩
  have HB1 : Hid (Below w.heap.size w w1) := hb1
  clear HND
  cases on with
  | none =>
    obtain ⟨t, pp, rfl⟩ := hno rfl
    have HE : Hid (out = none) := HOUT.out
    clear hno hyes HOUT hb1
    go_wp2
    go_ret
    exact ⟨tk_no HE.out, (HB1.out.mono hB).alloc (by have := HB1.out.size; omega) _⟩
  | some pn =>
    obtain ⟨rfl, x1, F, hF, hFo, hFk, hown⟩ := hyes pn rfl
    have HNR : Hid (FeatRel ⟨nm, .slice fa fk fc, F⟩ ⟨pn.1, pn.2, k⟩) := ⟨x1, hF, hFo⟩
    have HOUT' : Hid (out = if idxL (pe.feats.map fun f => f.name) pn.1 < 0 ∧ pe.feats.length + 1 ≤ 5 then some (⟨p.names, p.ents.dropLast ++ [⟨pe.pack, pe.ver, pe.text, pe.needs, pe.feats ++ [⟨pn.1, pn.2, k⟩]⟩]⟩, ms ++ [⟨k, p.ents.length - 1, .inr ⟨pn.1, pn.2, k⟩⟩]) else none) := HOUT.out
    have HK : Hid (idxL (pe.feats.map fun f => f.name) pn.1 = idxL (c.feats.map fun p => p.name.data.toList) nm.data.toList) := by
      show _ = _
      rw [x1, hce.feats.map (fun p => p.name.data.toList) (fun f => f.name) fun a b hab => hab.name]
    have hf1 : Forest B w1 ((CFeat.hold ⟨nm, .slice fa fk fc, F⟩) :: (R ++ r.holds rb)) := HR.out.forest.add hb1 (r := CFeat.hold ⟨nm, .slice fa fk fc, F⟩) (by show w1.ownsRow _ _ _ _ _ _; exact hown) (Nat.le_refl _) hB
    have HR1 : Hid (RdR B rb ((CFeat.hold ⟨nm, .slice fa fk fc, F⟩) :: R) r w1) := ⟨hf1⟩
    have hs1 := hb1.size
    have HR2 : Hid (RdR B rb (boxed 222 2 w1.heap.size #[.string nm, .slice fa fk fc].toList :: (CFeat.hold ⟨nm, .slice fa fk fc, F⟩) :: R) r (w1.alloc (.cells #[.string nm, .slice fa fk fc] 222))) := HR1.out.addHold rfl (by omega)
    have c1' := (hb1.cell (p := ⟨rb, 1, none⟩) hrl).trans c1
    have hrl1 : rb < w1.heap.size := by omega
    clear hno hyes HOUT x1 hF hFo hown hf1 c1 HR hb1 HR1
    have hs2 : (w1.alloc (.cells #[.string nm, .slice fa fk fc] 222)).heap.size = w1.heap.size + 1 := by simp
    have HNM : Hid (∀ W : World, Below (w1.heap.size + 1) (w1.alloc (.cells #[.string nm, .slice fa fk fc] 222)) W → Calls Tryz.prog 143 #[.pointer (some ⟨c.b, 0, none⟩), .string nm] W fun e w' => (∃ n : CFeat, e = .returned (.tuple #[n.val, .bool (decide (0 ≤ idxL (c.feats.map fun p => p.name.data.toList) nm.data.toList))]) ∧ ∃ a k c, n.iv = .slice a k c) ∧ Below W.heap.size W w') := fun W hW => ((HR2.out.on (by rw [hs2]; exact hW)).featM hqm hcm (by omega) nm).mono fun e w' h => ⟨by obtain ⟨n, h1, _, h3⟩ := h.1; exact ⟨n, h1, h3⟩, h.2⟩
    generalize idxL (c.feats.map fun p => p.name.data.toList) nm.data.toList = K at *
    go_upto_region 4 with fail
    go_cut [9, 10] (fun _ s wx => s = .bool (decide (0 ≤ K)) ∧ Below (w1.heap.size + 1) (w1.alloc (.cells #[.string nm, .slice fa fk fc] 222)) wx)
    --A1
    case first =>
      go_region_with (go_at_call 143; refine Calls.mono (HNM.out _ ?_) ?_; (first | exact (Below.refl _ _).drew | exact (((Below.refl _ _).alloc (by simp) _).drew)); rintro e w3 ⟨⟨⟨nnm, nfv, nfeats⟩, rfl, xa, xk, xc, hfi⟩, hb3⟩; simp only at hfi; subst hfi; unfold CFeat.val; simp only; have HB3 : Hid (Below (w1.heap.size + 1) (w1.alloc (.cells #[.string nm, .slice fa fk fc] 222)) w3) := (by first | exact ((Below.refl _ _).drew).trans (hb3.mono (by simp)) | exact (((Below.refl _ _).alloc (by simp) _).drew).trans (hb3.mono (by simp))); (first | (have hz : ∀ o, w3.cell? ⟨w1.heap.size + 1, o, none⟩ = #[Value.string ⟨#[]⟩, .slice none 0 0][o]? := (fun o => (hb3.cell (p := ⟨w1.heap.size + 1, o, none⟩) (by simp)).trans (World.cell?_alloc_at _ _ _ _ (by simp))); have hfz : ∀ o, w3.frozen? ⟨w1.heap.size + 1, o, none⟩ = false := (fun o => (hb3.frozen (p := ⟨w1.heap.size + 1, o, none⟩) (by simp)).trans (World.frozen?_alloc_at _ _ _ _ (by simp))); have hl3 : w1.heap.size + 1 < w3.heap.size := (by have := hb3.size; simp at this; omega); have r0 := hz 0; have r1 := hz 1; simp at r0 r1; have z0 := hfz 0; have z1 := hfz 1; clear hz hfz) | skip))
      all_goals (
        (try clear r0 r1 z0 z1 hl3)
        clear hb3 HNM
        go_wp2_with fail
        go_meet
        have hle3 : w1.heap.size + 1 ≤ w3.heap.size := by have := HB3.out.size; simp at this; omega
        refine ⟨rfl, ?_⟩
        repeat (first | with_reducible exact HB3.out | (with_reducible refine Below.setCell ?_ ?hp _; case hp => exact Nat.le_refl _) | with_reducible refine Below.alloc ?_ hle3 _))
    --/A1
    case rest =>
    obtain ⟨rfl, hbc⟩ := hcut
    have hRc : RdR B rb (boxed 222 2 w1.heap.size #[.string nm, .slice fa fk fc].toList :: (CFeat.hold ⟨nm, .slice fa fk fc, F⟩) :: R) r wc := HR2.out.on (by rw [hs2]; exact hbc)
    have HBC : Hid (Below B w wc) := ((HB1.out.mono hB).alloc (by omega) _).trans (hbc.mono (by omega))
    have HRC : Hid (RdR B rb (boxed 222 2 w1.heap.size #[.string nm, .slice fa fk fc].toList :: (CFeat.hold ⟨nm, .slice fa fk fc, F⟩) :: R) r wc) := hRc
    have HSC : Hid (Sent wc) := HS.out.above HBC.out HSB.out
    obtain ⟨ta, pa, hca⟩ := HSC.out.cell 14 (by decide)
    obtain ⟨tm, pm, hcm'⟩ := HSC.out.cell 15 (by decide)
    clear HNM hbc HR2 HS HB1 c1' hs2
    by_cases hK : K < 0
    · have e1 : decide (0 ≤ K) = false := decide_eq_false (by omega)
      rw [e1]
      have rc1 : wc.cell? ⟨rb, 1, none⟩ = some (.pointer (some ⟨c.b, 0, none⟩)) := by
        have := hRc.reader.2.2.2.1
        unfold CRd.curV at this
        rw [hcu] at this; exact this
      have hrlc := hRc.reader.1
      have hec := hRc.entry hqm hcm
      have ec3 := hec.2.2.1 4 (by omega)
      simp only [CEnt.cells, List.getElem?_cons_zero, List.getElem?_cons_succ] at ec3
      have helc := hec.1
      obtain ⟨na, nc, hnv⟩ := (RowR.of_owns hec.2.2.2.2.1).form
      have hnv' : c.fv = .slice na c.feats.length nc := hnv
      rw [hnv'] at ec3
      by_cases h5 : c.feats.length = 5
      · have HE : Hid (out = none) := by
          show _ = _
          rw [HOUT'.out, if_neg (fun h => by have := h.2; omega)]
        have k5 : ((c.feats.length : Int) == 5) = true := by simp; omega
        clear e1 hca HOUT' HK HNR HRC hRc hec hnv hnv' HFU
        go_wp2
        go_ret
        exact ⟨tk_no HE.out, HBC.out⟩
      · have HE : Hid (out = some (⟨p.names, p.ents.dropLast ++ [⟨pe.pack, pe.ver, pe.text, pe.needs, pe.feats ++ [⟨pn.1, pn.2, k⟩]⟩]⟩, ms ++ [⟨k, p.ents.length - 1, .inr ⟨pn.1, pn.2, k⟩⟩])) := by
          show _ = _
          rw [HOUT'.out, if_pos ⟨by rw [HK.out]; exact hK, by omega⟩]
        have k5 : ((c.feats.length : Int) == 5) = false := by simp; omega
        clear e1 hca hcm' HOUT' HK
        have hbx := hRc.forest.own (boxed 222 2 w1.heap.size #[.string nm, .slice fa fk fc].toList) (by simp)
        have y0 : wc.cell? ⟨w1.heap.size, 0, none⟩ = some (.string nm) := boxed_cell hbx 0 (by omega)
        have y1 : wc.cell? ⟨w1.heap.size, 1, none⟩ = some (.slice fa fk fc) := boxed_cell hbx 1 (by omega)
        have hbxl := (boxed_lt hbx).2
        have HNV : Hid (c.fv = .slice na c.feats.length nc) := hnv'
        have ho : c.hf.own B wc := hec.2.2.2.2.1
        have HOn : Hid (wc.ownsRow B 222 2 (.slice na c.feats.length nc) c.feats.length (c.feats.flatMap CFeat.cells)) := by
          have ho' : wc.ownsRow B 222 2 c.fv c.feats.length (c.feats.flatMap CFeat.cells) := ho
          rw [hnv'] at ho'; exact ho'
        have heB : B ≤ c.b := hec.2.1
        have hrB : B ≤ rb := hRc.reader.2.1
        have ef3 : wc.frozen? ⟨c.b, 4, none⟩ = false := hRc.entFz hqm hcm 4
        have ak : (Value.slice na c.feats.length nc).ownBlock ≠ some c.b := fun e => by
          have hpf := hRc.forest.perm (hRc.permEntF hq hes)
          refine (hpf.perm (List.Perm.swap _ _ _)).alone (k := c.b) rfl (mem_blocks.2 ⟨c.hf, by simp, ?_⟩)
          show c.fv.ownBlock = some c.b
          rw [hnv']; exact e
        have ak2 : (Value.slice na c.feats.length nc).ownBlock ≠ some rb := fun e => by
          have hpf := hRc.forest.perm (hRc.permEntF hq hes)
          refine hpf.alone (k := rb) (by show c.fv.ownBlock = some rb; rw [hnv']; exact e) (mem_blocks.2 ⟨r.hr rb, by simp, rfl⟩)
        have hBc : B ≤ wc.heap.size := by have := HBC.out.size; omega
        have HNL : Hid (c.feats.length = pe.feats.length) := hnl
        have h5' : c.feats.length < 5 := by omega
        clear hec hnv hnv' hRc hbx ho hnl hfl h5 hpb
        go_upto_region 9 with fail
        go_cut [56] (fun _ wx => ∃ gg cq, RdR B rb (boxed 222 2 w1.heap.size #[.string nm, .slice fa fk fc].toList :: R) ⟨r.ib, r.pv, l1 ++ ⟨q.b, q.name, q.ev, es ++ [⟨c.b, c.v0, c.v1, c.v2, c.nv, c.needs, .slice (some ⟨gg, 0, none⟩) (c.feats.length + 1) cq, c.feats ++ [⟨nm, .slice fa fk fc, F⟩]⟩]⟩ :: l2, r.cur, r.mv, r.mens⟩ wx ∧ Below B w wx)
        --A2
        case first =>
          go_region_law (refine step_append_lies _ (by rfl) _ _ _ (by rfl) B 222 j0 _ 2 40 Tryz.underlying131 hj0 hy0 hy1 hy2 rfl (by omega) (.slice na c.feats.length nc) c.feats.length (c.feats.flatMap CFeat.cells) (by rfl) ((HOn.out.alloc _).drew) ⟨wc.heap.size, 0, none⟩ 1 1 [.string nm, .slice fa fk fc] (by rfl) (by rfl) (World.news_of_block (cs := #[.string nm, .slice fa fk fc]) (t := 222) (fr := (0, 0)) (heap_alloc_new wc _)) (by simp [Value.oneCell']) (by omega) (by unfold maxLen; omega) (by omega) (by simp; omega) (wc.heap.size + 1) (by simp) ?_; intro gg cq w4 hown1 hgrow hat hlt3; have hfz3 : w4.frozen? ⟨c.b, 4, none⟩ = false := (hgrow.frozen_far ⟨c.b, 4, none⟩ (by simp; omega) (Ne.symm ak)).trans ((World.frozen?_alloc_past _ _ _ helc).trans ef3); have hc3 : w4.cell? ⟨c.b, 4, none⟩ = some (.slice na c.feats.length nc) := (hgrow.cell_far ⟨c.b, 4, none⟩ (by simp; omega) (Ne.symm ak)).trans ((World.cell?_alloc_past _ _ _ helc).trans ec3); have hcr : w4.cell? ⟨rb, 1, none⟩ = some (.pointer (some ⟨c.b, 0, none⟩)) := (hgrow.cell_far ⟨rb, 1, none⟩ (by simp; omega) (Ne.symm ak2)).trans ((World.cell?_alloc_past _ _ _ hrlc).trans rc1))
          all_goals (
            have HB5 : Hid (Below B w (w4.setCell ⟨c.b, 4, none⟩ (.slice (some ⟨gg, 0, none⟩) (c.feats.length + 1) cq))) := (((HBC.out.alloc hBc _).drew).grown hgrow (by simp; omega) (fun j hj => (HOn.out.lt j hj).1)).setCell heB _
            have HR5 := HRC.out.featEnd hq hes rfl HNV.out hgrow hat hown1
            have HR5' : Hid (_) := HR5
            clear HR5 hown1 hgrow hat hlt3 hfz3 hc3 hcr HOn y0 y1 ec3 ef3 rc1 ak ak2
            go_wp2_with fail
            go_meet
            exact ⟨gg, cq, HR5'.out, HB5.out⟩)
        --/A2
        case rest =>
        obtain ⟨gg, cq, hR5, hb5⟩ := hcut
        clear HOn y0 y1 ec3 ef3 rc1 ak ak2 helc hrlc hbxl HRC HBC HSC hBc
        obtain ⟨r5, hr5⟩ : ∃ x : CRd, x = ⟨r.ib, r.pv, l1 ++ ⟨q.b, q.name, q.ev, es ++ [⟨c.b, c.v0, c.v1, c.v2, c.nv, c.needs, .slice (some ⟨gg, 0, none⟩) (c.feats.length + 1) cq, c.feats ++ [⟨nm, .slice fa fk fc, F⟩]⟩]⟩ :: l2, r.cur, r.mv, r.mens⟩ := ⟨_, rfl⟩
        rw [← hr5] at hR5
        have HR5 : Hid (RdR B rb (boxed 222 2 w1.heap.size #[.string nm, .slice fa fk fc].toList :: R) r5 wc) := hR5
        have HB5 : Hid (Below B w wc) := hb5
        have HR5E : Hid (r5 = ⟨r.ib, r.pv, l1 ++ ⟨q.b, q.name, q.ev, es ++ [⟨c.b, c.v0, c.v1, c.v2, c.nv, c.needs, .slice (some ⟨gg, 0, none⟩) (c.feats.length + 1) cq, c.feats ++ [⟨nm, .slice fa fk fc, F⟩]⟩]⟩ :: l2, r.cur, r.mv, r.mens⟩) := hr5
        have rc1 : wc.cell? ⟨rb, 1, none⟩ = some (.pointer (some ⟨c.b, 0, none⟩)) := by
          have := hR5.reader.2.2.2.1
          rw [hr5] at this
          unfold CRd.curV at this
          simp only [hcu] at this
          exact this
        have hrlc := hR5.reader.1
        have hmo := hR5.own (x := r5.hm) (by simp [CRd.holds])
        obtain ⟨ma, mc, hmv⟩ := (RowR.of_owns hmo).form
        have e5m : r5.mens = r.mens := by rw [hr5]
        have hmv' : r5.mv = .slice ma r.mens.length mc := by rw [← e5m]; exact hmv
        have rc2 : wc.cell? ⟨rb, 2, none⟩ = some (.slice ma r.mens.length mc) := by
          have := hR5.reader.2.2.2.2
          rw [hmv'] at this; exact this
        have rf2 : wc.frozen? ⟨rb, 2, none⟩ = false := hR5.readerFz 2
        have hml : r.mens.length ≤ 240 := HFU.out.few hbd.names hbd.vers hbd.each
        have HOm : Hid (wc.ownsRow B 151 3 (.slice ma r.mens.length mc) r.mens.length (r.mens.flatMap CMen.cells)) := by
          have hm' : wc.ownsRow B 151 3 r5.mv r5.mens.length (r5.mens.flatMap CMen.cells) := hmo
          rw [hmv', e5m] at hm'; exact hm'
        have ak : (Value.slice ma r.mens.length mc).ownBlock ≠ some rb := fun e => by
          have hpf := hR5.forest.perm (show ((boxed 222 2 w1.heap.size #[.string nm, .slice fa fk fc].toList :: R) ++ r5.holds rb).Perm (r5.hr rb :: r5.hm :: r5.hi :: r5.hp :: ((boxed 222 2 w1.heap.size #[.string nm, .slice fa fk fc].toList :: R) ++ r5.packs.flatMap CPack.holds)) by
            classical
            rw [List.perm_iff_count]; intro x; simp only [CRd.holds, List.count_append, List.count_cons]; omega)
          refine hpf.alone (k := rb) rfl (mem_blocks.2 ⟨r5.hm, by simp, ?_⟩)
          show r5.mv.ownBlock = some rb
          rw [hmv']; exact e
        have HMV : Hid (r5.mv = .slice ma r.mens.length mc) := hmv'
        have hbx := hR5.forest.own (boxed 222 2 w1.heap.size #[.string nm, .slice fa fk fc].toList) (by simp)
        have y0 : wc.cell? ⟨w1.heap.size, 0, none⟩ = some (.string nm) := boxed_cell hbx 0 (by omega)
        have y1 : wc.cell? ⟨w1.heap.size, 1, none⟩ = some (.slice fa fk fc) := boxed_cell hbx 1 (by omega)
        have hbxl := (boxed_lt hbx).2
        have hBc : B ≤ wc.heap.size := by have := hb5.size; omega
        have HML : Hid (r5.mens.length = r.mens.length) := by show _ = _; rw [e5m]
        have HME : Hid (r5.mens = r.mens) := e5m
        have HFULL : Hid (∀ mv', Full ⟨r5.ib, r5.pv, r5.packs, r5.cur, mv', r5.mens ++ [⟨k, c.b, .inr ⟨nm, .slice fa fk fc, F⟩⟩]⟩ (⟨p.names, p.ents.dropLast ++ [⟨pe.pack, pe.ver, pe.text, pe.needs, pe.feats ++ [⟨pn.1, pn.2, k⟩]⟩]⟩, ms ++ [⟨k, p.ents.length - 1, .inr ⟨pn.1, pn.2, k⟩⟩])) := fun mv' => by
          have hfu := HFU.out.setLast (c' := ⟨c.b, c.v0, c.v1, c.v2, c.nv, c.needs, .slice (some ⟨gg, 0, none⟩) (c.feats.length + 1) cq, c.feats ++ [⟨nm, .slice fa fk fc, F⟩]⟩) (e' := ⟨pe.pack, pe.ver, pe.text, pe.needs, pe.feats ++ [⟨pn.1, pn.2, k⟩]⟩) (mv' := mv') (x := ⟨k, c.b, .inr ⟨nm, .slice fa fk fc, F⟩⟩) (y := ⟨k, p.ents.length - 1, .inr ⟨pn.1, pn.2, k⟩⟩) hpe hq hk hes hcu rfl rfl ⟨hce.lo, hce.hi, hce.v0, hce.v1, hce.v2, hce.needs, hce.feats.snoc HNR.out⟩ (fun _ h => List.mem_append_left _ h) rfl rfl rfl (by simp; omega) ⟨HNR.out, by simp⟩
          rw [hr5]; exact hfu
        clear hR5 hb5 hr5 hmo hmv hmv' e5m hbx hce
        go_wp2
        go_region_law (refine step_append_lies _ (by rfl) _ _ _ (by rfl) B 151 i0 _ 3 32 Tryz.underlying145 hi0 hz0 hz1 hz2 rfl (by omega) (.slice ma r.mens.length mc) r.mens.length (r.mens.flatMap CMen.cells) (by rfl) ((HOm.out.alloc _).drew) ⟨wc.heap.size, 0, none⟩ 1 1 [.int .i64 k, .pointer (some ⟨c.b, 0, none⟩), .iface 222 (.agg #[.string nm, .slice fa fk fc])] (by rfl) (by rfl) (World.news_of_block (cs := #[.int .i64 k, .pointer (some ⟨c.b, 0, none⟩), .iface 222 (.agg #[.string nm, .slice fa fk fc])]) (t := 151) (fr := (0, 0)) (heap_alloc_new wc _)) (by simp [Value.oneCell']) (by omega) (by unfold maxLen; omega) (by omega) (by simp; omega) (wc.heap.size + 1) (by simp) ?_; intro g6 c6 w6 hown1 hgrow hat hlt3; have hfz3 : w6.frozen? ⟨rb, 2, none⟩ = false := (hgrow.frozen_far ⟨rb, 2, none⟩ (by simp; omega) (Ne.symm ak)).trans ((World.frozen?_alloc_past _ _ _ hrlc).trans rf2); have hc3 : w6.cell? ⟨rb, 2, none⟩ = some (.slice ma r.mens.length mc) := (hgrow.cell_far ⟨rb, 2, none⟩ (by simp; omega) (Ne.symm ak)).trans ((World.cell?_alloc_past _ _ _ hrlc).trans rc2))
        all_goals (
          have HB7 : Hid (Below B w (w6.setCell ⟨rb, 2, none⟩ (.slice (some ⟨g6, 0, none⟩) (r.mens.length + 1) c6))) := (((HB5.out.alloc hBc _).drew).grown hgrow (by simp; omega) (fun j hj => (HOm.out.lt j hj).1)).setCell hrB _
          have HR7 := HR5.out.menEnd (x := ⟨k, c.b, .inr ⟨nm, .slice fa fk fc, F⟩⟩) HML.out HMV.out hgrow hat (by rw [HME.out]; exact hown1)
          have HR7' : Hid (_) := HR7
          clear HR7 hown1 hgrow hat hlt3 hfz3 hc3 HOm ak HR5 y0 y1
          go_wp2
          go_ret
          exact ⟨tk_yes HE.out HR7'.out (HFULL.out _), HB7.out⟩)
    · have e1 : decide (0 ≤ K) = true := decide_eq_true (by omega)
      rw [e1]
      have HE : Hid (out = none) := by
        show _ = _
        rw [HOUT'.out, if_neg (fun h => hK (by rw [← HK.out]; exact h.1))]
      clear e1 hcm' HOUT' HK HNR HRC hRc HFU
      go_wp2
      go_ret
      exact ⟨tk_no HE.out, HBC.out⟩

end Go.Proofs.YtnmclolbndohiaaGreatDoor
