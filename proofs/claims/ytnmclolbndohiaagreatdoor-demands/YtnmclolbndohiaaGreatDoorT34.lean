/-
  The walk of the code's 'catalog.Read'.
-/
import Derived.Test.YtnmclolbndohiaaGreatDoorT32
import Derived.Deep.DeepCutAuto
import Derived.Deep.RegionWith
import Derived.Test.YtnmclolbndohiaaGreatDoorT33
namespace Go.Proofs.YtnmclolbndohiaaGreatDoor
open Go.RowKit
open Ver

set_option maxHeartbeats 3200000 in
set_option maxRecDepth 100000 in
theorem read_any (text : ByteArray) (V : NoV) (w : World) (t0 t1 : TypeId) (p0 p1 : Value) (m : Int) (S : Sent w) (G : Glob t0 t1 p0 p1 m w) (hV : NoAt V w) (hF : Forms V ∨ ∀ p ms, eachP step2 (⟨[], []⟩, []) text.data.toList = .ok (p, ms) → ∀ y ∈ ms, badM p y = false) (hgn : 29 ≤ w.heap.size) (HTK : Hid (Takes (TkSt w.heap.size (w.heap.size + 1) t0 t1 p0 p1 m) step2 (w.heap.size + 1) w.heap.size m)) :
    Calls Tryz.prog 38 #[.string text] w fun e w' => ReadEnds w.heap.size V (eachP step2 (⟨[], []⟩, []) text.data.toList) e w' ∧ Below w.heap.size w w' := by
  have hb0 : Below w.heap.size w ((w.alloc (.cells #[.slice none 0 0] 116)).alloc (.cells #[.pointer (some ⟨w.heap.size, 0, none⟩), .pointer none, .slice none 0 0] 147)) := ((Below.refl _ _).alloc (Nat.le_refl _) _).alloc (by simp) _
  have HST : Hid (TkSt w.heap.size (w.heap.size + 1) t0 t1 p0 p1 m (⟨[], []⟩, []) ((w.alloc (.cells #[.slice none 0 0] 116)).alloc (.cells #[.pointer (some ⟨w.heap.size, 0, none⟩), .pointer none, .slice none 0 0] 147))) :=
    ⟨_, RdR.new w, Full.start _, Bd.start, by simp; omega, S.on hb0, G.on hb0 G.lt, S.lt⟩
  have HEA : Hid (Calls Tryz.prog 50 #[.string text, .func (.func 64) #[.pointer (some ⟨w.heap.size + 1, 0, none⟩)] #[]] ((w.alloc (.cells #[.slice none 0 0] 116)).alloc (.cells #[.pointer (some ⟨w.heap.size, 0, none⟩), .pointer none, .slice none 0 0] 147)) fun e w' => EachEnds (TkSt w.heap.size (w.heap.size + 1) t0 t1 p0 p1 m) (eachP step2 (⟨[], []⟩, []) text.data.toList) e w' ∧ Below w.heap.size ((w.alloc (.cells #[.slice none 0 0] 116)).alloc (.cells #[.pointer (some ⟨w.heap.size, 0, none⟩), .pointer none, .slice none 0 0] 147)) w') :=
    each_take _ step2 (w.heap.size + 1) w.heap.size m HTK (⟨[], []⟩, []) text _ HST.out
  have HB0 : Hid (Below w.heap.size w ((w.alloc (.cells #[.slice none 0 0] 116)).alloc (.cells #[.pointer (some ⟨w.heap.size, 0, none⟩), .pointer none, .slice none 0 0] 147))) := hb0
  have HV : Hid (NoAt V w) := hV
  have HFF : Hid (Forms V ∨ ∀ p ms, eachP step2 (⟨[], []⟩, []) text.data.toList = .ok (p, ms) → ∀ y ∈ ms, badM p y = false) := hF
  clear hF
  generalize eachP step2 (⟨[], []⟩, []) text.data.toList = o at *
  clear S G hV hb0 HST HTK
  go_enter Tryz.func38, Tryz.ntmps38
  go_wp2_with fail
  refine Calls.mono HEA.out ?_
  rintro e w1 ⟨he, hb1⟩
  have HB1 : Hid (Below w.heap.size w w1) := HB0.out.trans hb1
  clear HEA hb1 HB0
  cases o with
  | error nl =>
    obtain ⟨n, l⟩ := nl
    obtain ⟨wb, rfl, h1, h2, h3⟩ := he
    have HE : Hid (wb < w1.heap.size ∧ w1.cell? ⟨wb, 0, none⟩ = some (.int .i64 n) ∧ w1.cell? ⟨wb, 1, none⟩ = some (.int .i64 l)) := ⟨h1, h2, h3⟩
    clear h1 h2 h3
    go_wp2
    go_ret2
    exact ⟨⟨wb, rfl, HE.out.1, HE.out.2.1, HE.out.2.2⟩, HB1.out⟩
  | ok s =>
    obtain ⟨p, ms⟩ := s
    obtain ⟨rfl, r, hat⟩ := he
    have HAT : Hid (TkAt w.heap.size (w.heap.size + 1) [] r p ms t0 t1 p0 p1 m w1) := hat
    have hmo := hat.rd.own (x := r.hm) (by simp [CRd.holds])
    obtain ⟨ma, mc, hmv⟩ := (RowR.of_owns hmo).form
    have hmv' : r.mv = .slice ma r.mens.length mc := hmv
    have rc2 : w1.cell? ⟨w.heap.size + 1, 2, none⟩ = some (.slice ma r.mens.length mc) := by
      have := hat.rd.reader.2.2.2.2
      rw [hmv'] at this; exact this
    have hrl := hat.rd.reader.1
    have HRC : Hid (RowR w1 (.slice ma r.mens.length mc) r.mens.length 3 (r.mens.flatMap CMen.cells)) := by
      have := RowR.of_owns hmo
      rw [show r.hm.v = r.mv from rfl, hmv'] at this; exact this
    have hml : r.mens.length ≤ 240 := hat.full.few hat.bd.names hat.bd.vers hat.bd.each
    have HLEN : Hid (r.mens.length = ms.length) := by
      obtain ⟨ebs, _, hm2⟩ := hat.full.ord
      exact hm2.len
    have hgl : 29 ≤ w1.heap.size := by have := HB1.out.size; omega
    have HMISS : Hid (∀ (k : Nat) (x : CMen) (y : PMen), r.mens[k]? = some x → ms[k]? = some y → ∀ W : World, Below w1.heap.size w1 W → (match x.what with
        | .inl n => ∃ a b c, n.fv = .slice a b c
        | .inr f => ∃ a b c, f.iv = .slice a b c) ∧ (match x.what with
        | .inl n => Calls Tryz.prog 276 #[n.val, ptrTo r.ib, ptrTo x.eb] W fun e w' => MissEnds (loudM V p y) e ∧ Below W.heap.size W w'
        | .inr f => Calls Tryz.prog 262 #[f.val, ptrTo r.ib, ptrTo x.eb] W fun e w' => MissEnds (loudM V p y) e ∧ Below W.heap.size W w') ∧ x.line = y.line) := fun k x y hx hy => missM_any _ _ r p ms t0 t1 p0 p1 m V w1 HAT.out (HV.out.on HB1.out hgn) hgl k x y hx hy (HFF.out.imp id (fun h => h p ms rfl y (List.mem_of_getElem? hy)))
    have rc0 : w1.cell? ⟨w.heap.size + 1, 0, none⟩ = some (.pointer (some ⟨r.ib, 0, none⟩)) := hat.rd.reader.2.2.1
    obtain ⟨n, hn⟩ : ∃ n, r.mens.length = n := ⟨_, rfl⟩
    have HNN : Hid (r.mens.length = n) := hn
    rw [hn] at rc2 hml HRC
    have HRD : Hid (RdR w.heap.size (w.heap.size + 1) [] r w1) := hat.rd
    clear hat hmo hmv hmv' hn
    rcases HRC.out.2 with ⟨hv, h0⟩ | ⟨mg, cap, hv, hmg, hmc⟩
    · obtain ⟨rfl, rfl, rfl⟩ : ma = none ∧ n = 0 ∧ mc = 0 := by simpa using hv
      have HF : Hid (firstV V p ms = none) := by
        have : ms = [] := List.length_eq_zero_iff.1 (by rw [← HLEN.out]; exact HNN.out)
        rw [this]; rfl
      clear HRC hv h0 HMISS
      go_wp2
      refine wp_loop_rounds 1 ?_
      rw [rounds_succ]
      go_wp2
      go_ret2
      refine ⟨?_, HB1.out⟩
      show match firstV V p ms with
        | some l => _
        | none => _
      rw [HF.out]
      exact ⟨_, r, rfl, HRD.out, HAT.out.full, HAT.out.bd⟩
    · obtain ⟨rfl, rfl⟩ : ma = some ⟨mg, 0, none⟩ ∧ mc = cap := by simpa using hv
      have HMC : Hid (∀ j, j < n → ∀ o, o < 3 → ∃ x, r.mens[j]? = some x ∧ w1.cell? ⟨mg, j * 3 + o, none⟩ = x.cells[o]?) := fun j hj o ho => by
        have hj' : j < r.mens.length := by rw [HNN.out]; exact hj
        refine ⟨r.mens[j], List.getElem?_eq_getElem hj', ?_⟩
        rw [hmc _ (by omega)]
        have := flat_at CMen.cells 3 (fun _ => rfl) r.mens j o r.mens[j] (by simp [hj']) ho
        rw [Nat.mul_comm] at this
        exact this
      clear HRC hv hmc
      go_wp2
      go_loopw [25] (fun i wr => ∃ k : Nat, k ≤ n ∧ i = .int .i64 k ∧ Below w1.heap.size w1 wr ∧ firstV V p ms = firstV V p (ms.drop k)) (fun i _ => n - (intOf i).toNat)
      case atStart => exact ⟨0, by omega, rfl, Below.refl _ _, rfl⟩
      case round =>
        obtain ⟨k, hk, rfl, hbr, hfi⟩ := hrel
        have HBR : Hid (Below w1.heap.size w1 wr) := hbr
        have HFI : Hid (firstV V p ms = firstV V p (ms.drop k)) := hfi
        have hsr := hbr.size
        have c0 := (hbr.cell (p := ⟨w.heap.size + 1, 0, none⟩) hrl).trans rc0
        have hrlr : w.heap.size + 1 < wr.heap.size := by omega
        have hmgr : mg < wr.heap.size := by omega
        clear hfi
        by_cases hlt : k < n
        · obtain ⟨x, hx, d0⟩ := HMC.out k hlt 0 (by omega)
          obtain ⟨x1, hx1, d1⟩ := HMC.out k hlt 1 (by omega)
          obtain ⟨x2, hx2, d2⟩ := HMC.out k hlt 2 (by omega)
          obtain rfl : x = x1 := Option.some.inj (hx.symm.trans hx1)
          obtain rfl : x = x2 := Option.some.inj (hx.symm.trans hx2)
          have e0 := (hbr.cell (p := ⟨mg, k * 3 + 0, none⟩) hmg).trans d0
          have e1 := (hbr.cell (p := ⟨mg, k * 3 + 1, none⟩) hmg).trans d1
          have e2 := (hbr.cell (p := ⟨mg, k * 3 + 2, none⟩) hmg).trans d2
          have hkm : k < ms.length := by rw [← HLEN.out, HNN.out]; exact hlt
          obtain ⟨y, hyd⟩ : ∃ y, ms[k]? = some y := ⟨_, List.getElem?_eq_getElem hkm⟩
          have HDR : Hid (ms.drop k = y :: ms.drop (k + 1)) := by
            show _ = _
            rw [List.drop_eq_getElem_cons hkm]
            rw [List.getElem?_eq_getElem hkm] at hyd
            rw [Option.some.inj hyd]
          have HMK : Hid (∀ W : World, Below w1.heap.size w1 W → _) := HMISS.out k x y hx hyd
          have hln := (HMK.out w1 (Below.refl _ _)).2.2
          have HLN : Hid (x.line = y.line) := hln
          have hform := (HMK.out w1 (Below.refl _ _)).1
          obtain ⟨xln, xeb, xw⟩ := x
          simp only [CMen.cells, CMen.names, List.getElem?_cons_zero, List.getElem?_cons_succ, Nat.add_zero, ptrTo] at e0 e1 e2
          clear hx hx1 hx2 d0 d1 d2 hyd hkm hbr hln
          cases xw with
          | inl nw =>
            simp only at hform HMK e2
            unfold CNeed.val at e2
            obtain ⟨nnm, nst, nva, nvb, nvc, nbare, nfv, nfeats, nopt⟩ := nw
            obtain ⟨fa, fk, fc, hform⟩ := hform
            simp only at hform
            subst hform
            have HCA' : Hid (∀ W : World, Below w1.heap.size w1 W → Calls Tryz.prog 276 #[.agg #[.string nnm, .int .i64 nst, .int .i64 nva, .int .i64 nvb, .int .i64 nvc, .bool nbare, .slice fa fk fc, .bool nopt], .pointer (some ⟨r.ib, 0, none⟩), .pointer (some ⟨xeb, 0, none⟩)] W fun e w' => MissEnds (loudM V p y) e ∧ Below W.heap.size W w') := fun W hW => (HMK.out W hW).2.1
            have hme : ∀ w : World, (method 491 264 (.agg #[.string nnm, .int .i64 nst, .int .i64 nva, .int .i64 nvb, .int .i64 nvc, .bool nbare, .slice fa fk fc, .bool nopt]) "lockstep/catalog.missing").run Tryz.prog w = .ok (276, .agg #[.string nnm, .int .i64 nst, .int .i64 nva, .int .i64 nvb, .int .i64 nvc, .bool nbare, .slice fa fk fc, .bool nopt]) w := fun _ => by kernel_rfl
            have hna : ∀ w : World, (nilAhead 491 264 (.agg #[.string nnm, .int .i64 nst, .int .i64 nva, .int .i64 nvb, .int .i64 nvc, .bool nbare, .slice fa fk fc, .bool nopt]) "lockstep/catalog.missing").run Tryz.prog w = .ok (some false) w := fun _ => by kernel_rfl
            clear HMK
            obtain ⟨lb, hlb⟩ : ∃ b, loudM V p y = b := ⟨_, rfl⟩
            have HLB : Hid (loudM V p y = lb) := hlb
            rw [hlb] at HCA'
            clear hlb
            go_upto_region 8 with fail
            go_cut [8] (fun v wx => ((lb = true → ∃ t p, v = .iface t p) ∧ (lb = false → v = .nilIface)) ∧ Below w1.heap.size w1 wx ∧ wr.heap.size < wx.heap.size ∧ wx.cell? ⟨wr.heap.size, 0, none⟩ = some (.int .i64 xln))
            case first =>
              go_region_with (go_at_call 276; refine Calls.mono (HCA'.out _ ?_) ?_; (first | exact (HBR.out.alloc hsr _).drew | exact (HBR.out.drew).alloc hsr _); rintro e w3 ⟨⟨v, rfl, hyes, hnil⟩, hb3⟩)
              all_goals (
                have HB3 : Hid (Below w1.heap.size w1 w3) := ((HBR.out.alloc hsr _).drew).trans (hb3.mono (by simp; omega))
                have HL3 : Hid (wr.heap.size < w3.heap.size ∧ w3.cell? ⟨wr.heap.size, 0, none⟩ = some (.int .i64 xln)) := ⟨by have := hb3.size; simp at this; omega, (hb3.cell (p := ⟨wr.heap.size, 0, none⟩) (by simp)).trans ((World.cell?_alloc_at _ _ _ _ (by simp)).trans rfl)⟩
                have HVV : Hid ((lb = true → ∃ t p, v = .iface t p) ∧ (lb = false → v = .nilIface)) := ⟨hyes, hnil⟩
                clear hb3 hyes hnil HCA' e0 e1 e2
                go_wp2_with fail
                go_meet
                exact ⟨HVV.out, HB3.out, HL3.out.1, HL3.out.2⟩)
            case rest =>
            obtain ⟨⟨hyes, hnil⟩, hb3, hl3, l0⟩ := hcut
            have HB3 : Hid (Below w1.heap.size w1 wc) := hb3
            clear hb3 HCA' e0 e1 e2 hme hna c0
            cases lb with
            | false =>
              obtain rfl := hnil rfl
              have HF1 : Hid (firstV V p ms = firstV V p (ms.drop (k + 1))) := by
                show _ = _
                rw [HFI.out, HDR.out]
                conv => lhs; unfold firstV
                rw [HLB.out]; rfl
              clear hyes hnil HLB HFI HDR
              go_wp2
              go_roundw
              case rel => exact ⟨k + 1, by omega, by go_num, HB3.out, HF1.out⟩
              case measure => simp [intOf]; omega
            | true =>
              obtain ⟨t, pp, rfl⟩ := hyes rfl
              have HF1 : Hid (firstV V p ms = some xln) := by
                show _ = _
                rw [HFI.out, HDR.out]
                conv => lhs; unfold firstV
                rw [HLB.out, if_pos rfl, ← HLN.out]
              have hsz3 : w1.heap.size ≤ wc.heap.size := HB3.out.size
              have HRB : Hid (Below w.heap.size w wc) := HB1.out.trans (HB3.out.mono (by have := HB1.out.size; omega))
              have hsw : w.heap.size ≤ wc.heap.size := HRB.out.size
              clear hyes hnil HLB HFI HDR HMISS HMC
              go_wp2
              go_region
              all_goals (try go_wp2)
              all_goals go_ret2
              all_goals (
                refine ⟨?_, (HRB.out.alloc hsw _).drew⟩
                show match firstV V p ms with
                  | some l => _
                  | none => _
                rw [HF1.out]
                exact ⟨wc.heap.size, rfl, by simp, (World.cell?_alloc_at _ _ _ _ (by simp)).trans rfl, (World.cell?_alloc_at _ _ _ _ (by simp)).trans rfl⟩)
          | inr nw =>
            simp only at hform HMK e2
            unfold CFeat.val at e2
            obtain ⟨nnm, nfv, nits⟩ := nw
            obtain ⟨fa, fk, fc, hform⟩ := hform
            simp only at hform
            subst hform
            have HCA' : Hid (∀ W : World, Below w1.heap.size w1 W → Calls Tryz.prog 262 #[.agg #[.string nnm, .slice fa fk fc], .pointer (some ⟨r.ib, 0, none⟩), .pointer (some ⟨xeb, 0, none⟩)] W fun e w' => MissEnds (loudM V p y) e ∧ Below W.heap.size W w') := fun W hW => (HMK.out W hW).2.1
            have hme : ∀ w : World, (method 491 222 (.agg #[.string nnm, .slice fa fk fc]) "lockstep/catalog.missing").run Tryz.prog w = .ok (262, .agg #[.string nnm, .slice fa fk fc]) w := fun _ => by kernel_rfl
            have hna : ∀ w : World, (nilAhead 491 222 (.agg #[.string nnm, .slice fa fk fc]) "lockstep/catalog.missing").run Tryz.prog w = .ok (some false) w := fun _ => by kernel_rfl
            clear HMK
            obtain ⟨lb, hlb⟩ : ∃ b, loudM V p y = b := ⟨_, rfl⟩
            have HLB : Hid (loudM V p y = lb) := hlb
            rw [hlb] at HCA'
            clear hlb
            go_upto_region 8 with fail
            go_cut [8] (fun v wx => ((lb = true → ∃ t p, v = .iface t p) ∧ (lb = false → v = .nilIface)) ∧ Below w1.heap.size w1 wx ∧ wr.heap.size < wx.heap.size ∧ wx.cell? ⟨wr.heap.size, 0, none⟩ = some (.int .i64 xln))
            case first =>
              go_region_with (go_at_call 262; refine Calls.mono (HCA'.out _ ?_) ?_; (first | exact (HBR.out.alloc hsr _).drew | exact (HBR.out.drew).alloc hsr _); rintro e w3 ⟨⟨v, rfl, hyes, hnil⟩, hb3⟩)
              all_goals (
                have HB3 : Hid (Below w1.heap.size w1 w3) := ((HBR.out.alloc hsr _).drew).trans (hb3.mono (by simp; omega))
                have HL3 : Hid (wr.heap.size < w3.heap.size ∧ w3.cell? ⟨wr.heap.size, 0, none⟩ = some (.int .i64 xln)) := ⟨by have := hb3.size; simp at this; omega, (hb3.cell (p := ⟨wr.heap.size, 0, none⟩) (by simp)).trans ((World.cell?_alloc_at _ _ _ _ (by simp)).trans rfl)⟩
                have HVV : Hid ((lb = true → ∃ t p, v = .iface t p) ∧ (lb = false → v = .nilIface)) := ⟨hyes, hnil⟩
                clear hb3 hyes hnil HCA' e0 e1 e2
                go_wp2_with fail
                go_meet
                exact ⟨HVV.out, HB3.out, HL3.out.1, HL3.out.2⟩)
            case rest =>
            obtain ⟨⟨hyes, hnil⟩, hb3, hl3, l0⟩ := hcut
            have HB3 : Hid (Below w1.heap.size w1 wc) := hb3
            clear hb3 HCA' e0 e1 e2 hme hna c0
            cases lb with
            | false =>
              obtain rfl := hnil rfl
              have HF1 : Hid (firstV V p ms = firstV V p (ms.drop (k + 1))) := by
                show _ = _
                rw [HFI.out, HDR.out]
                conv => lhs; unfold firstV
                rw [HLB.out]; rfl
              clear hyes hnil HLB HFI HDR
              go_wp2
              go_roundw
              case rel => exact ⟨k + 1, by omega, by go_num, HB3.out, HF1.out⟩
              case measure => simp [intOf]; omega
            | true =>
              obtain ⟨t, pp, rfl⟩ := hyes rfl
              have HF1 : Hid (firstV V p ms = some xln) := by
                show _ = _
                rw [HFI.out, HDR.out]
                conv => lhs; unfold firstV
                rw [HLB.out, if_pos rfl, ← HLN.out]
              have hsz3 : w1.heap.size ≤ wc.heap.size := HB3.out.size
              have HRB : Hid (Below w.heap.size w wc) := HB1.out.trans (HB3.out.mono (by have := HB1.out.size; omega))
              have hsw : w.heap.size ≤ wc.heap.size := HRB.out.size
              clear hyes hnil HLB HFI HDR HMISS HMC
              go_wp2
              go_region
              all_goals (try go_wp2)
              all_goals go_ret2
              all_goals (
                refine ⟨?_, (HRB.out.alloc hsw _).drew⟩
                show match firstV V p ms with
                  | some l => _
                  | none => _
                rw [HF1.out]
                exact ⟨wc.heap.size, rfl, by simp, (World.cell?_alloc_at _ _ _ _ (by simp)).trans rfl, (World.cell?_alloc_at _ _ _ _ (by simp)).trans rfl⟩)
        · have hkn : k = n := by omega
          have HF1 : Hid (firstV V p ms = none) := by
            show _ = _
            rw [HFI.out, List.drop_of_length_le (by rw [← HLEN.out, HNN.out]; omega)]; rfl
          have HRB : Hid (Below w.heap.size w wr) := HB1.out.trans (HBR.out.mono (by have := HB1.out.size; omega))
          have HRD3 : Hid (RdR w.heap.size (w.heap.size + 1) [] r wr) := HRD.out.on HBR.out
          clear hbr HFI hkn
          go_wp2
          go_ret2
          refine ⟨?_, HRB.out⟩
          show match firstV V p ms with
            | some l => _
            | none => _
          rw [HF1.out]
          exact ⟨_, r, rfl, HRD3.out, HAT.out.full, HAT.out.bd⟩

end Go.Proofs.YtnmclolbndohiaaGreatDoor

/-
  The walk of the code's 'take', whatever the three takers do.
-/
namespace Go.Proofs.YtnmclolbndohiaaGreatDoor
open Go.RowKit
open Ver

set_option maxHeartbeats 800000 in
set_option maxRecDepth 100000 in
theorem tk_pack (B rb g n : Nat) (R : List Hold) (k : Int) (a : ByteArray) (w : World) (out : Option (PIdx × List PMen)) (d0 : w.cell? ⟨g, 0, none⟩ = some (.string a)) (q0 : (a.toList == [112, 97, 99, 107, 97, 103, 101]) = true)
    (HT : Hid (∀ o cap, (o = 1 ∨ n = 0) → n ≤ cap → Calls Tryz.prog 102 #[.pointer (some ⟨rb, 0, none⟩), .slice (some ⟨g, o, none⟩) n cap] w fun e w' => TkEnds B rb R out e w' ∧ Below B w w')) :
    Calls Tryz.prog 64 #[.pointer (some ⟨rb, 0, none⟩), .int .i64 k, .slice (some ⟨g, 0, none⟩) (n + 1) (n + 1)] w fun e w' => TkEnds B rb R out e w' ∧ Below B w w' := by
  have hn : n = 0 ∨ 0 < n := by omega
  rcases hn with rfl | hn
  all_goals (
    go_enter Tryz.func64, Tryz.ntmps64
    go_wp2_with fail
    refine Calls.mono (HT.out _ _ ?_ ?_) ?_
    · first | exact Or.inl rfl | exact Or.inr rfl | exact Or.inr trivial
    · first | exact Nat.le_refl _ | omega
    rintro e w1 ⟨he, hb1⟩
    have HB1 : Hid (Below B w w1) := hb1
    have HE : Hid (TkEnds B rb R out e w1) := he
    have hform : ∃ v, e = .returned v ∧ (v = .nilIface ∨ ∃ t p, v = .iface t p) := by
      cases ho : out with
      | none => obtain ⟨t, p, rfl⟩ := he.1 ho; exact ⟨_, rfl, Or.inr ⟨t, p, rfl⟩⟩
      | some s => exact ⟨_, (he.2 s ho).1, Or.inl rfl⟩
    obtain ⟨v, rfl, hv⟩ := hform
    clear hb1 he HT
    rcases hv with rfl | ⟨t, p, rfl⟩
    all_goals (
      go_wp2
      go_ret
      exact ⟨HE.out, HB1.out⟩))

set_option maxHeartbeats 800000 in
set_option maxRecDepth 100000 in
theorem tk_ahead (B rb g n : Nat) (R : List Hold) (k : Int) (a : ByteArray) (w : World) (out : Option (PIdx × List PMen)) (d0 : w.cell? ⟨g, 0, none⟩ = some (.string a)) (q0 : (a.toList == [112, 97, 99, 107, 97, 103, 101]) = false) (c1 : w.cell? ⟨rb, 1, none⟩ = some (.pointer none)) (S : Sent w) (HE : Hid (out = none)) :
    Calls Tryz.prog 64 #[.pointer (some ⟨rb, 0, none⟩), .int .i64 k, .slice (some ⟨g, 0, none⟩) (n + 1) (n + 1)] w fun e w' => TkEnds B rb R out e w' ∧ Below B w w' := by
  obtain ⟨t, p, hc⟩ := S.cell 11 (by decide)
  clear S
  go_enter Tryz.func64, Tryz.ntmps64
  go_wp2
  go_ret
  exact ⟨tk_no HE.out, Below.refl _ _⟩

set_option maxHeartbeats 800000 in
set_option maxRecDepth 100000 in
theorem tk_kind (B rb g n : Nat) (R : List Hold) (k : Int) (a : ByteArray) (w : World) (cb : Nat) (out : Option (PIdx × List PMen)) (d0 : w.cell? ⟨g, 0, none⟩ = some (.string a)) (q0 : (a.toList == [112, 97, 99, 107, 97, 103, 101]) = false) (q1 : (a.toList == [110, 101, 101, 100, 115]) = false) (q2 : (a.toList == [102, 101, 97, 116, 117, 114, 101]) = false) (c1 : w.cell? ⟨rb, 1, none⟩ = some (.pointer (some ⟨cb, 0, none⟩))) (S : Sent w) (HE : Hid (out = none)) :
    Calls Tryz.prog 64 #[.pointer (some ⟨rb, 0, none⟩), .int .i64 k, .slice (some ⟨g, 0, none⟩) (n + 1) (n + 1)] w fun e w' => TkEnds B rb R out e w' ∧ Below B w w' := by
  obtain ⟨t, p, hc⟩ := S.cell 12 (by decide)
  clear S
  go_enter Tryz.func64, Tryz.ntmps64
  go_wp2
  go_ret
  exact ⟨tk_no HE.out, Below.refl _ _⟩

set_option maxHeartbeats 800000 in
set_option maxRecDepth 100000 in
theorem tk_needs (B rb g n : Nat) (R : List Hold) (k : Int) (a : ByteArray) (w : World) (cb : Nat) (out : Option (PIdx × List PMen)) (d0 : w.cell? ⟨g, 0, none⟩ = some (.string a)) (q0 : (a.toList == [112, 97, 99, 107, 97, 103, 101]) = false) (q1 : (a.toList == [110, 101, 101, 100, 115]) = true) (c1 : w.cell? ⟨rb, 1, none⟩ = some (.pointer (some ⟨cb, 0, none⟩)))
    (HT : Hid (∀ o cap, (o = 1 ∨ n = 0) → n ≤ cap → Calls Tryz.prog 103 #[.pointer (some ⟨rb, 0, none⟩), .int .i64 k, .slice (some ⟨g, o, none⟩) n cap] w fun e w' => TkEnds B rb R out e w' ∧ Below B w w')) :
    Calls Tryz.prog 64 #[.pointer (some ⟨rb, 0, none⟩), .int .i64 k, .slice (some ⟨g, 0, none⟩) (n + 1) (n + 1)] w fun e w' => TkEnds B rb R out e w' ∧ Below B w w' := by
  have hn : n = 0 ∨ 0 < n := by omega
  rcases hn with rfl | hn
  all_goals (
    go_enter Tryz.func64, Tryz.ntmps64
    go_wp2_with fail
    refine Calls.mono (HT.out _ _ ?_ ?_) ?_
    · first | exact Or.inl rfl | exact Or.inr rfl | exact Or.inr trivial
    · first | exact Nat.le_refl _ | omega
    rintro e w1 ⟨he, hb1⟩
    have HB1 : Hid (Below B w w1) := hb1
    have HE : Hid (TkEnds B rb R out e w1) := he
    have hform : ∃ v, e = .returned v ∧ (v = .nilIface ∨ ∃ t p, v = .iface t p) := by
      cases ho : out with
      | none => obtain ⟨t, p, rfl⟩ := he.1 ho; exact ⟨_, rfl, Or.inr ⟨t, p, rfl⟩⟩
      | some s => exact ⟨_, (he.2 s ho).1, Or.inl rfl⟩
    obtain ⟨v, rfl, hv⟩ := hform
    clear hb1 he HT
    rcases hv with rfl | ⟨t, p, rfl⟩
    all_goals (
      go_wp2
      go_ret
      exact ⟨HE.out, HB1.out⟩))

set_option maxHeartbeats 800000 in
set_option maxRecDepth 100000 in
theorem tk_feat (B rb g n : Nat) (R : List Hold) (k : Int) (a : ByteArray) (w : World) (cb : Nat) (out : Option (PIdx × List PMen)) (d0 : w.cell? ⟨g, 0, none⟩ = some (.string a)) (q0 : (a.toList == [112, 97, 99, 107, 97, 103, 101]) = false) (q1 : (a.toList == [110, 101, 101, 100, 115]) = false) (q2 : (a.toList == [102, 101, 97, 116, 117, 114, 101]) = true) (c1 : w.cell? ⟨rb, 1, none⟩ = some (.pointer (some ⟨cb, 0, none⟩)))
    (HT : Hid (∀ o cap, (o = 1 ∨ n = 0) → n ≤ cap → Calls Tryz.prog 104 #[.pointer (some ⟨rb, 0, none⟩), .int .i64 k, .slice (some ⟨g, o, none⟩) n cap] w fun e w' => TkEnds B rb R out e w' ∧ Below B w w')) :
    Calls Tryz.prog 64 #[.pointer (some ⟨rb, 0, none⟩), .int .i64 k, .slice (some ⟨g, 0, none⟩) (n + 1) (n + 1)] w fun e w' => TkEnds B rb R out e w' ∧ Below B w w' := by
  have hn : n = 0 ∨ 0 < n := by omega
  rcases hn with rfl | hn
  all_goals (
    go_enter Tryz.func64, Tryz.ntmps64
    go_wp2_with fail
    refine Calls.mono (HT.out _ _ ?_ ?_) ?_
    · first | exact Or.inl rfl | exact Or.inr rfl | exact Or.inr trivial
    · first | exact Nat.le_refl _ | omega
    rintro e w1 ⟨he, hb1⟩
    have HB1 : Hid (Below B w w1) := hb1
    have HE : Hid (TkEnds B rb R out e w1) := he
    have hform : ∃ v, e = .returned v ∧ (v = .nilIface ∨ ∃ t p, v = .iface t p) := by
      cases ho : out with
      | none => obtain ⟨t, p, rfl⟩ := he.1 ho; exact ⟨_, rfl, Or.inr ⟨t, p, rfl⟩⟩
      | some s => exact ⟨_, (he.2 s ho).1, Or.inl rfl⟩
    obtain ⟨v, rfl, hv⟩ := hform
    clear hb1 he HT
    rcases hv with rfl | ⟨t, p, rfl⟩
    all_goals (
      go_wp2
      go_ret
      exact ⟨HE.out, HB1.out⟩))

end Go.Proofs.YtnmclolbndohiaaGreatDoor
