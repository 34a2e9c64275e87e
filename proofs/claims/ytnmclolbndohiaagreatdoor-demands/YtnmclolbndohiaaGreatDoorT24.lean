/-
  The walk of the code's asks.Parse, the name being right. (Written by gen_ask.py.)
-/
import Derived.Test.YtnmclolbndohiaaGreatDoorT22
import Derived.Deep.DeepCutAuto
namespace Go.Proofs.YtnmclolbndohiaaGreatDoor
open Go.RowKit
open Ver

set_option maxHeartbeats 3200000 in
set_option maxRecDepth 100000 in
theorem ask_bare (g o cap : Nat) (nm dm : ByteArray) (bw : ByteArray) (Q : List ByteArray) (w : World) (t0 t1 : TypeId) (p0 p1 : Value) (m : Int) (_hcap : Q.length + 3 ≤ cap) (hg : g < w.heap.size) (d0 : w.cell? ⟨g, o, none⟩ = some (.string nm)) (d1 : w.cell? ⟨g, o + 1, none⟩ = some (.string dm)) (d2 : w.cell? ⟨g, o + 2, none⟩ = some (.string bw)) (hbw : bw.data.toList = bareW) (hQ : Q.length ≤ 1048000) (HC : Hid (∀ j (h : j < Q.length), w.cell? ⟨g, o + 3 + j, none⟩ = some (.string Q[j])))
    (hdm : dm.size ≤ 1048576) (hnm : nameL nm.data.toList = true) (S : Sent w) (G : Glob t0 t1 p0 p1 m w) :
    Calls Tryz.prog 84 #[.slice (some ⟨g, o, none⟩) (Q.length + 3) cap] w fun e w' => AskEnds w.heap.size (askP (nm.data.toList :: dm.data.toList :: bw.data.toList :: datas Q)) e w' ∧ Below w.heap.size w w' := by
  have k2 : ¬ (((Q.length + 3 : Nat)) : Int) < 2 := by omega
  have k0 : (0 : Int) < (((Q.length + 3 : Nat)) : Int) := by omega
  have k1 : (1 : Int) < (((Q.length + 3 : Nat)) : Int) := by omega
  have HS : Hid (Sent w) := S
  have HG : Hid (Glob t0 t1 p0 p1 m w) := G
  have HN : Hid (∀ w : World, Calls Tryz.prog 125 #[.string nm] w fun e w' => e = .returned (.bool true) ∧ Below w.heap.size w w') := fun w => by have := isName_any nm w; rw [hnm] at this; exact this
  have HD : Hid (∀ w : World, Glob t0 t1 p0 p1 m w → Calls Tryz.prog 27 #[.string dm] w fun e w' => DemEnds t0 t1 p0 p1 dm.data.toList e ∧ Below w.heap.size w w') := fun w h => pdem_any dm w t0 t1 p0 p1 m hdm h
  have HD0 : Hid (w.cell? ⟨g, o, none⟩ = some (.string nm)) := d0
  have HPF : Hid (∀ (W : World) (c off : Nat), Below w.heap.size w W → (off = o + 3 ∨ Q.length = 0) → Calls Tryz.prog 126 #[.slice (some ⟨g, off, none⟩) Q.length c] W fun e w' => FeatsEnds W.heap.size (featsP (datas Q)) e w' ∧ Below W.heap.size W w') := fun W c off hW hoff => parseFeats_any g off c Q.length Q W rfl (by omega) (Nat.lt_of_lt_of_le hg hW.size) (fun j h => hoff.elim (fun e => (by rw [e]; exact (hW.cell (p := ⟨g, o + 3 + j, none⟩) hg).trans (HC.out j h))) (fun e => absurd h (by omega))) (HS.out.on hW)
  have HD2 : Hid (w.cell? ⟨g, o + 2, none⟩ = some (.string bw)) := d2
  have HBW : Hid (bw.data.toList = bareW) := hbw
  have HASK : Hid ((demI dm.data.toList).1 = 0 → askP (nm.data.toList :: dm.data.toList :: bw.data.toList :: datas Q) = none) := fun h => by
    unfold askP; simp only; rw [if_neg (fun h' => h'.2 h)]
  have HASK2 : Hid ((demI dm.data.toList).1 ≠ 0 → askP (nm.data.toList :: dm.data.toList :: bw.data.toList :: datas Q) = (featsP (datas Q)).map fun fs => ⟨nm.data.toList, (demI dm.data.toList).1, (demI dm.data.toList).2, false, true, fs⟩) := fun h => by
    unfold askP; simp only; rw [if_pos ⟨hnm, h⟩]; have e : bareN (bw.data.toList :: datas Q) = 1 := by unfold bareN; rw [if_pos (by rw [List.head?_cons, hbw])]
    rw [e]; rfl
  generalize askP (nm.data.toList :: dm.data.toList :: bw.data.toList :: datas Q) = r at *
  generalize featsP (datas Q) = fr at *
  clear S G hnm
  go_enter Tryz.func84, Tryz.ntmps84
  go_wp2_with fail
  refine (HN.out _).mono ?_
  rintro e w1 ⟨rfl, hb1⟩
  have HB1 : Hid (Below w.heap.size w w1) := ((Below.refl _ _).alloc (Nat.le_refl _) _).trans (hb1.mono (by simp))
  have hz1 : ∀ o, w1.cell? ⟨w.heap.size, o, none⟩ = #[Value.string ⟨#[]⟩, .int .i64 0, .int .i64 0, .int .i64 0, .int .i64 0, .bool false, .slice none 0 0][o]? := fun o => by
    rw [hb1.cell (p := ⟨w.heap.size, o, none⟩) (by simp)]
    exact World.cell?_alloc_at _ _ _ _ rfl
  have hfz1 : ∀ o, w1.frozen? ⟨w.heap.size, o, none⟩ = false := fun o => by
    rw [hb1.frozen (p := ⟨w.heap.size, o, none⟩) (by simp)]
    exact World.frozen?_alloc_at _ _ _ _ rfl
  have HZ1 : Hid (∀ o, w1.cell? ⟨w.heap.size, o, none⟩ = #[Value.string ⟨#[]⟩, .int .i64 0, .int .i64 0, .int .i64 0, .int .i64 0, .bool false, .slice none 0 0][o]?) := hz1
  have HF1 : Hid (∀ o, w1.frozen? ⟨w.heap.size, o, none⟩ = false) := hfz1
  have hl1 : w.heap.size < w1.heap.size := by have := hb1.size; simp at this; omega
  have e1 : w1.cell? ⟨g, o + 1, none⟩ = some (.string dm) := (HB1.out.cell (p := ⟨g, o + 1, none⟩) hg).trans d1
  clear hz1 hfz1 hb1 HN d0 d1
  go_wp2_with fail
  refine (HD.out _ (HG.out.on HB1.out HG.out.lt)).mono ?_
  rintro e w2 ⟨hd, hb2⟩
  have HB2 : Hid (Below w.heap.size w w2) := HB1.out.trans (hb2.mono (by omega))
  have hl2 : w.heap.size < w2.heap.size := by have := hb2.size; omega
  have HZ2 : Hid (∀ o, w2.cell? ⟨w.heap.size, o, none⟩ = #[Value.string ⟨#[]⟩, .int .i64 0, .int .i64 0, .int .i64 0, .int .i64 0, .bool false, .slice none 0 0][o]?) := fun o => (hb2.cell (p := ⟨w.heap.size, o, none⟩) hl1).trans (HZ1.out o)
  have HF2 : Hid (∀ o, w2.frozen? ⟨w.heap.size, o, none⟩ = false) := fun o => (hb2.frozen (p := ⟨w.heap.size, o, none⟩) hl1).trans (HF1.out o)
  clear hb2 e1 HZ1 HF1 HB1 HD
  rcases hd with ⟨hdz, hd⟩ | ⟨hdz, hd⟩
  · have HE : Hid (r = none) := HASK.out hdz
    have r0 := HZ2.out 0
    have r1 := HZ2.out 1
    have r2 := HZ2.out 2
    have r3 := HZ2.out 3
    have r4 := HZ2.out 4
    have r5 := HZ2.out 5
    have r6 := HZ2.out 6
    simp at r0 r1 r2 r3 r4 r5 r6
    have z0 := HF2.out 0
    have z1 := HF2.out 1
    have z2 := HF2.out 2
    have z3 := HF2.out 3
    have z4 := HF2.out 4
    have z5 := HF2.out 5
    have z6 := HF2.out 6
    clear HASK HASK2 HZ2 HF2 hdz HPF
    obtain ⟨te, pe, hd⟩ : ∃ te pe, e = .returned (.tuple #[.agg #[.int .i64 0, .int .i64 0, .int .i64 0, .int .i64 0], .iface te pe]) := by
      rcases hd with hd | hd
      · exact ⟨_, _, hd⟩
      · exact ⟨_, _, hd⟩
    subst hd
    go_wp2
    exact bodyPost_ret (v := .tuple #[.agg #[.string ⟨#[]⟩, .int .i64 0, .int .i64 0, .int .i64 0, .int .i64 0, .bool false, .slice none 0 0], .iface te pe]) (by simp [results, Tryz.results84, go_sem, r0, r1, r2, r3, r4, r5, r6, hl2]) rfl ⟨ask_no HE.out, (((((((HB2.out.setCell (Nat.le_refl _) _).setCell (Nat.le_refl _) _).setCell (Nat.le_refl _) _).setCell (Nat.le_refl _) _).setCell (Nat.le_refl _) _).setCell (Nat.le_refl _) _).setCell (Nat.le_refl _) _).alloc (by simp; omega) _⟩
  · have HR := HASK2.out hdz
    have HR' : Hid (r = fr.map fun fs => ⟨nm.data.toList, (demI dm.data.toList).1, (demI dm.data.toList).2, false, true, fs⟩) := HR
    have HST : Hid (∃ q : Int × Int, demI dm.data.toList = q) := ⟨_, rfl⟩
    generalize (demI dm.data.toList).1 = dc at *
    generalize (demI dm.data.toList).2 = dv at *
    obtain ⟨st, hst⟩ : ∃ x, x = stOf dc dv := ⟨_, rfl⟩
    obtain ⟨sa, hsa⟩ : ∃ x, x = dv / 1000000 := ⟨_, rfl⟩
    obtain ⟨sb, hsb⟩ : ∃ x, x = dv / 1000 % 1000 := ⟨_, rfl⟩
    obtain ⟨sc, hsc⟩ : ∃ x, x = dv % 1000 := ⟨_, rfl⟩
    rw [← hst, ← hsa, ← hsb, ← hsc] at hd
    subst hd
    have H4 : Hid (st = stOf dc dv ∧ sa = dv / 1000000 ∧ sb = dv / 1000 % 1000 ∧ sc = dv % 1000) := ⟨hst, hsa, hsb, hsc⟩
    clear HASK HASK2 HR hdz hst hsa hsb hsc HST
    have c0 : w2.cell? ⟨g, o, none⟩ = some (.string nm) := (HB2.out.cell (p := ⟨g, o, none⟩) hg).trans HD0.out
    have hgl2 : g < w2.heap.size := Nat.lt_of_lt_of_le hg HB2.out.size
    go_upto_region 6 with fail
    go_cut [6] (fun s wx => s = .pointer (some ⟨w2.heap.size + 1, 0, none⟩) ∧ wx = ((w2.alloc (.cells #[.int .i64 st, .int .i64 sa, .int .i64 sb, .int .i64 sc] 63)).alloc (.cells #[.string nm, .int .i64 st, .int .i64 sa, .int .i64 sb, .int .i64 sc, .bool false, .slice none 0 0] 103)).drew)
    case first =>
      go_region
      all_goals (go_wp2_with fail; go_meet; exact ⟨rfl, rfl⟩)
    case rest =>
    obtain ⟨rfl, rfl⟩ := hcut
    have HB3 : Hid (Below w.heap.size w ((w2.alloc (.cells #[.int .i64 st, .int .i64 sa, .int .i64 sb, .int .i64 sc] 63)).alloc (.cells #[.string nm, .int .i64 st, .int .i64 sa, .int .i64 sb, .int .i64 sc, .bool true, .slice none 0 0] 103)).drew) := ((HB2.out.alloc (by omega) _).alloc (by simp; omega) _).drew
    have hbq : (bw.toList == [98, 97, 114, 101]) = true := by rw [ByteArray.toList_eq, HBW.out]; rfl
    have c2 : w2.cell? ⟨g, o + 2, none⟩ = some (.string bw) := (HB2.out.cell (p := ⟨g, o + 2, none⟩) hg).trans HD2.out
    go_wp2_with fail
    all_goals (
      refine (HPF.out _ _ _ HB3.out ?_).mono ?_
      · first | exact Or.inl rfl | exact Or.inr rfl | exact Or.inr trivial | exact Or.inr (by omega)
      rintro e w4 ⟨⟨fa, fk, fc, er, rfl, hno, hyes⟩, hb4⟩
      have HB4 : Hid (Below w.heap.size w w4) := HB3.out.trans (hb4.mono (by simp; omega))
      have ha4 : ∀ q, w4.cell? ⟨w2.heap.size + 1, q, none⟩ = #[Value.string nm, .int .i64 st, .int .i64 sa, .int .i64 sb, .int .i64 sc, .bool true, .slice none 0 0][q]? := fun q => by
        rw [hb4.cell (p := ⟨w2.heap.size + 1, q, none⟩) (by simp)]
        exact World.cell?_alloc_at _ _ _ _ (by simp)
      have hf4 : ∀ q, w4.frozen? ⟨w2.heap.size + 1, q, none⟩ = false := fun q => by
        rw [hb4.frozen (p := ⟨w2.heap.size + 1, q, none⟩) (by simp)]
        exact World.frozen?_alloc_at _ _ _ _ (by simp)
      have hz4 : ∀ q, w4.cell? ⟨w.heap.size, q, none⟩ = #[Value.string ⟨#[]⟩, .int .i64 0, .int .i64 0, .int .i64 0, .int .i64 0, .bool false, .slice none 0 0][q]? := fun q => by
        rw [hb4.cell (p := ⟨w.heap.size, q, none⟩) (by simp; omega)]
        exact (World.cell?_alloc_past _ _ _ (by simp; omega)).trans ((World.cell?_alloc_past _ _ _ hl2).trans (HZ2.out q))
      have hfz4 : ∀ q, w4.frozen? ⟨w.heap.size, q, none⟩ = false := fun q => by
        rw [hb4.frozen (p := ⟨w.heap.size, q, none⟩) (by simp; omega)]
        exact (World.frozen?_alloc_past _ _ _ (by simp; omega)).trans ((World.frozen?_alloc_past _ _ _ hl2).trans (HF2.out q))
      have a0 := ha4 0
      have a1 := ha4 1
      have a2 := ha4 2
      have a3 := ha4 3
      have a4 := ha4 4
      have a5 := ha4 5
      have a6 := ha4 6
      have r0 := hz4 0
      have r1 := hz4 1
      have r2 := hz4 2
      have r3 := hz4 3
      have r4 := hz4 4
      have r5 := hz4 5
      have r6 := hz4 6
      simp at a0 a1 a2 a3 a4 a5 a6 r0 r1 r2 r3 r4 r5 r6
      have z0 := hfz4 0
      have z1 := hfz4 1
      have z2 := hfz4 2
      have z3 := hfz4 3
      have z4 := hfz4 4
      have z5 := hfz4 5
      have z6 := hfz4 6
      have y6 := hf4 6
      have hs4 : w2.heap.size + 1 + 1 ≤ w4.heap.size := by have := hb4.size; simp at this; omega
      have hb4s : (((w2.alloc (.cells #[.int .i64 st, .int .i64 sa, .int .i64 sb, .int .i64 sc] 63)).alloc (.cells #[.string nm, .int .i64 st, .int .i64 sa, .int .i64 sb, .int .i64 sc, .bool true, .slice none 0 0] 103)).drew).heap.size = w2.heap.size + 1 + 1 := by simp
      rw [hb4s] at hyes
      have hne : (w2.heap.size + 1 = w.heap.size) = False := by simp; omega
      have hne' : (w.heap.size = w2.heap.size + 1) = False := by simp; omega
      have hab : w.heap.size < w2.heap.size + 1 := by omega
      generalize w2.heap.size + 1 = ab at *
      clear ha4 hz4 hf4 hfz4 hb4 hb4s HB3 HPF HZ2 HF2 HB2 c0 c2 hbq
      cases fr with
      | none =>
        obtain ⟨t, p, rfl⟩ := hno rfl
        have HE : Hid (r = none) := HR'.out
        clear hno hyes HR'
        go_wp2
        exact bodyPost_ret (v := .tuple #[.agg #[.string ⟨#[]⟩, .int .i64 0, .int .i64 0, .int .i64 0, .int .i64 0, .bool false, .slice none 0 0], .iface t p]) (by simp [results, Tryz.results84, go_sem, r0, r1, r2, r3, r4, r5, r6]) rfl ⟨ask_no HE.out, (fin8 (ab := ab) HB4.out (World.ownsRow_nil _ (ab + 1) 9 1) (by omega) (by omega) _ _ _ _ _ _ _ _).1⟩
      | some fs =>
        obtain ⟨rfl, F, hF, hFk, hown⟩ := hyes fs rfl
        have HE : Hid (r = some ⟨nm.data.toList, dc, dv, false, true, fs⟩) := HR'.out
        have HO : Hid (w4.ownsRow (ab + 1) 9 1 (.slice fa fk fc) F.length (F.map Value.string)) := hown
        have HFF : Hid (datas F = fs ∧ F.length = fk) := ⟨hF, hFk⟩
        clear hno hyes HR' hown hF hFk
        go_wp2
        refine bodyPost_ret (v := .tuple #[.agg #[.string nm, .int .i64 st, .int .i64 sa, .int .i64 sb, .int .i64 sc, .bool true, .slice fa fk fc], .nilIface]) (by simp [results, Tryz.results84, go_sem, r0, r1, r2, r3, r4, r5, r6]) rfl ⟨?_, (fin8 (ab := ab) HB4.out HO.out (by omega) (by omega) _ _ _ _ _ _ _ _).1⟩
        refine ⟨nm, st, sa, sb, sc, true, fa, fk, fc, .nilIface, rfl, ⟨fun h => (by rw [HE.out] at h; cases h), fun q h => ?_⟩⟩
        rw [HE.out] at h
        obtain rfl := Option.some.inj h
        exact ⟨rfl, rfl, H4.out.1, H4.out.2.1, H4.out.2.2.1, H4.out.2.2.2, rfl, F, HFF.out.1, HFF.out.2, (fin8 (ab := ab) HB4.out HO.out (by omega) (by omega) _ _ _ _ _ _ _ _).2⟩)

end Go.Proofs.YtnmclolbndohiaaGreatDoor
