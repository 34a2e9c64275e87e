/-
  The walk of the code's 'parseFeature'.
-/
import Derived.Test.YtnmclolbndohiaaGreatDoorT28
import Derived.Test.YtnmclolbndohiaaGreatDoorT18
namespace Go.Proofs.YtnmclolbndohiaaGreatDoor
open Go.RowKit
open Ver

def pfeatP (ws : List (List UInt8)) : Option (List UInt8 × List (List UInt8 × List UInt8 × Bool)) :=
  match ws with
  | nm :: rest => if nameL nm = true ∧ rest.length ≤ 5 then (itemsP rest).map fun ys => (nm, ys) else none
  | _ => none
def PFeatEnds (B : Nat) (r : Option (List UInt8 × List (List UInt8 × List UInt8 × Bool))) (e : Ending) (w' : World) : Prop :=
  ∃ (nm : ByteArray) (ia : Option Addr) (ik ic : Nat) (er : Value), e = .returned (.tuple #[.agg #[.string nm, .slice ia ik ic], er]) ∧ (r = none → ∃ t p, er = .iface t p) ∧
    ∀ q, r = some q → er = .nilIface ∧ nm.data.toList = q.1 ∧ ∃ Y : List CItem, Y.map CItem.abs = q.2 ∧ (∀ y ∈ Y, y.Ok) ∧ Y.length = ik ∧ w'.ownsRow B 303 3 (.slice ia ik ic) Y.length (Y.flatMap CItem.cells)
theorem pfeat_no {B : Nat} {r : Option (List UInt8 × List (List UInt8 × List UInt8 × Bool))} {t : TypeId} {p : Value} {w' : World} (h : r = none) : PFeatEnds B r (.returned (.tuple #[.agg #[.string ⟨#[]⟩, .slice none 0 0], .iface t p])) w' :=
  ⟨⟨#[]⟩, none, 0, 0, .iface t p, rfl, ⟨fun _ => ⟨t, p, rfl⟩, fun q h' => (by rw [h] at h'; cases h')⟩⟩

theorem Tryz.infoCItem : (Tryz.prog.info? 303).map (fun i => (i.zero, i.size, i.bytes)) = some (some (.agg #[.int .i64 0, .string ByteArray.empty, .string ByteArray.empty]), 3, 40) := by kernel_rfl

set_option maxHeartbeats 1600000 in
set_option maxRecDepth 100000 in
theorem pfeat_empty (g o cap : Nat) (w : World) (S : Sent w) :
    Calls Tryz.prog 150 #[.slice (some ⟨g, o, none⟩) 0 cap] w fun e w' => PFeatEnds w.heap.size none e w' ∧ Below w.heap.size w w' := by
  obtain ⟨t, p, hc⟩ := S.cell 18 (by decide)
  have hl := S.lt 18 (by decide)
  clear S
  go_enter Tryz.func150, Tryz.ntmps150
  go_wp2
  go_region
  all_goals (try go_wp2)
  all_goals exact bodyPost_ret (v := .tuple #[.agg #[.string ⟨#[]⟩, .slice none 0 0], .iface t p]) (by simp [results, Tryz.results150, go_sem]) rfl ⟨pfeat_no rfl, ((Below.refl _ _).alloc (Nat.le_refl _) _).drew⟩

set_option maxHeartbeats 1600000 in
set_option maxRecDepth 100000 in
theorem pfeat_noname (g o cap n : Nat) (nm : ByteArray) (w : World) (hn : 1 ≤ n) (hg : g < w.heap.size) (d0 : w.cell? ⟨g, o, none⟩ = some (.string nm)) (hnm : nameL nm.data.toList = false) (S : Sent w) :
    Calls Tryz.prog 150 #[.slice (some ⟨g, o, none⟩) n cap] w fun e w' => PFeatEnds w.heap.size none e w' ∧ Below w.heap.size w w' := by
  have k0 : (0 : Int) < (n : Int) := by omega
  have k1 : ((n : Int) == 0) = false := by simp; omega
  have HS : Hid (Sent w) := S
  have HN : Hid (∀ w : World, Calls Tryz.prog 125 #[.string nm] w fun e w' => e = .returned (.bool false) ∧ Below w.heap.size w w') := fun w => by have := isName_any nm w; rw [hnm] at this; exact this
  clear S hnm
  go_enter Tryz.func150, Tryz.ntmps150
  go_wp2_with fail
  refine (HN.out _).mono ?_
  rintro e w1 ⟨rfl, hb1⟩
  have HB1 : Hid (Below w.heap.size w w1) := ((Below.refl _ _).alloc (Nat.le_refl _) _).trans (hb1.mono (by simp))
  have hz : ∀ o, w1.cell? ⟨w.heap.size, o, none⟩ = #[Value.string ⟨#[]⟩, .slice none 0 0][o]? := fun o => by
    rw [hb1.cell (p := ⟨w.heap.size, o, none⟩) (by simp)]
    exact World.cell?_alloc_at _ _ _ _ rfl
  have hfz : ∀ o, w1.frozen? ⟨w.heap.size, o, none⟩ = false := fun o => by
    rw [hb1.frozen (p := ⟨w.heap.size, o, none⟩) (by simp)]
    exact World.frozen?_alloc_at _ _ _ _ rfl
  obtain ⟨t, p, hc⟩ := (HS.out.on HB1.out).cell 18 (by decide)
  have r0 := hz 0
  have r1 := hz 1
  simp at r0 r1
  have z0 := hfz 0
  have z1 := hfz 1
  have hl1 : w.heap.size < w1.heap.size := by have := hb1.size; simp at this; omega
  have hgk := HS.out.lt 18 (by decide)
  clear hz hfz hb1 HN HS
  go_wp2
  go_region
  all_goals (try go_wp2)
  all_goals exact bodyPost_ret (v := .tuple #[.agg #[.string ⟨#[]⟩, .slice none 0 0], .iface t p]) (by simp [results, Tryz.results150, go_sem, r0, r1]) rfl ⟨pfeat_no rfl, ((HB1.out.setCell (Nat.le_refl _) _).setCell (Nat.le_refl _) _).drew⟩

set_option maxHeartbeats 1600000 in
set_option maxRecDepth 100000 in
theorem pfeat_many (g o cap n : Nat) (nm : ByteArray) (w : World) (hn : 6 < n) (hn2 : n ≤ 1048576) (hg : g < w.heap.size) (d0 : w.cell? ⟨g, o, none⟩ = some (.string nm)) (hnm : nameL nm.data.toList = true) (S : Sent w) :
    Calls Tryz.prog 150 #[.slice (some ⟨g, o, none⟩) n cap] w fun e w' => PFeatEnds w.heap.size none e w' ∧ Below w.heap.size w w' := by
  have k0 : (0 : Int) < (n : Int) := by omega
  have k1 : ((n : Int) == 0) = false := by simp; omega
  have k5 : (5 : Int) < (n : Int) - 1 := by omega
  have HS : Hid (Sent w) := S
  have HN : Hid (∀ w : World, Calls Tryz.prog 125 #[.string nm] w fun e w' => e = .returned (.bool true) ∧ Below w.heap.size w w') := fun w => by have := isName_any nm w; rw [hnm] at this; exact this
  clear S hnm
  go_enter Tryz.func150, Tryz.ntmps150
  go_wp2_with fail
  refine (HN.out _).mono ?_
  rintro e w1 ⟨rfl, hb1⟩
  have HB1 : Hid (Below w.heap.size w w1) := ((Below.refl _ _).alloc (Nat.le_refl _) _).trans (hb1.mono (by simp))
  have hz : ∀ o, w1.cell? ⟨w.heap.size, o, none⟩ = #[Value.string ⟨#[]⟩, .slice none 0 0][o]? := fun o => by
    rw [hb1.cell (p := ⟨w.heap.size, o, none⟩) (by simp)]
    exact World.cell?_alloc_at _ _ _ _ rfl
  have hfz : ∀ o, w1.frozen? ⟨w.heap.size, o, none⟩ = false := fun o => by
    rw [hb1.frozen (p := ⟨w.heap.size, o, none⟩) (by simp)]
    exact World.frozen?_alloc_at _ _ _ _ rfl
  have e0 : w1.cell? ⟨g, o, none⟩ = some (.string nm) := (HB1.out.cell (p := ⟨g, o, none⟩) hg).trans d0
  obtain ⟨t, p, hc⟩ := (HS.out.on HB1.out).cell 15 (by decide)
  have r0 := hz 0
  have r1 := hz 1
  simp at r0 r1
  have z0 := hfz 0
  have z1 := hfz 1
  have hl1 : w.heap.size < w1.heap.size := by have := hb1.size; simp at this; omega
  have hgk := (HS.out.on HB1.out).lt 15 (by decide)
  have hgw := HS.out.lt 15 (by decide)
  clear hz hfz hb1 HN HS d0
  go_wp2
  go_region
  all_goals (try go_wp2)
  all_goals exact bodyPost_ret (v := .tuple #[.agg #[.string ⟨#[]⟩, .slice none 0 0], .iface t p]) (by simp [results, Tryz.results150, go_sem, r0, r1, hl1]) rfl ⟨pfeat_no rfl, (((HB1.out.setCell (Nat.le_refl _) _).setCell (Nat.le_refl _) _).alloc (by simp; omega) _).drew⟩

end Go.Proofs.YtnmclolbndohiaaGreatDoor

/-
  The walk of the code's 'parseFeature', where the name is right and the items are not too many.
-/
namespace Go.Proofs.YtnmclolbndohiaaGreatDoor
open Go.RowKit
open Ver

/-- What the loop over a feature's items keeps: the feature's block is the first behind w. -/
structure CFW (w : World) (nm : ByteArray) (iv : Value) (ys : List CItem) (wr : World) : Prop where
  below : Below w.heap.size w wr
  f0 : wr.cell? ⟨w.heap.size, 0, none⟩ = some (.string nm)
  f1 : wr.cell? ⟨w.heap.size, 1, none⟩ = some iv
  fr : ∀ o, wr.frozen? ⟨w.heap.size, o, none⟩ = false
  sz : w.heap.size + 1 ≤ wr.heap.size
  own : wr.ownsRow (w.heap.size + 1) 303 3 iv ys.length (ys.flatMap CItem.cells)

theorem CFW.start (w : World) (nm : ByteArray) : CFW w nm (.slice none 0 0) [] (w.alloc (.cells #[.string nm, .slice none 0 0] 222)) where
  below := (Below.refl _ _).alloc (Nat.le_refl _) _
  f0 := by rw [World.cell?_alloc_at _ _ _ _ rfl]; simp
  f1 := by rw [World.cell?_alloc_at _ _ _ _ rfl]; simp
  fr := fun o => World.frozen?_alloc_at _ _ _ _ rfl
  sz := by simp
  own := World.ownsRow_nil _ _ _ _

theorem CFW.on {w wr w' : World} {nm : ByteArray} {iv : Value} {ys : List CItem} (h : CFW w nm iv ys wr) (hb : Below wr.heap.size wr w') : CFW w nm iv ys w' where
  below := h.below.trans (hb.mono h.below.size)
  f0 := (hb.cell (p := ⟨w.heap.size, 0, none⟩) (by have := h.sz; show w.heap.size < _; omega)).trans h.f0
  f1 := (hb.cell (p := ⟨w.heap.size, 1, none⟩) (by have := h.sz; show w.heap.size < _; omega)).trans h.f1
  fr := fun o => (hb.frozen (p := ⟨w.heap.size, o, none⟩) (by have := h.sz; show w.heap.size < _; omega)).trans (h.fr o)
  sz := Nat.le_trans h.sz hb.size
  own := Hold.on (r := ⟨303, 3, iv, ys.length, ys.flatMap CItem.cells⟩) h.own hb

theorem CFW.grow {w wr w1 : World} {nm : ByteArray} {iv iv' : Value} {ys : List CItem} {y : CItem} (h : CFW w nm iv ys wr) (hg : wr.grownBy w1 iv.ownBlock)
    (hown : w1.ownsRow (w.heap.size + 1) 303 3 iv' (ys.length + 1) (ys.flatMap CItem.cells ++ y.cells)) : CFW w nm iv' (ys ++ [y]) (w1.setCell ⟨w.heap.size, 1, none⟩ iv') := by
  have hsz := h.sz
  have hne : some w.heap.size ≠ iv.ownBlock := fun e => by have := (h.own.lt _ e.symm).1; omega
  have hc : ∀ o, w1.cell? ⟨w.heap.size, o, none⟩ = wr.cell? ⟨w.heap.size, o, none⟩ := fun o => hg.cell_far ⟨w.heap.size, o, none⟩ (by show w.heap.size < _; omega) hne
  exact {
    below := (h.below.grown hg (by omega) (fun j hj => by have := (h.own.lt j hj).1; omega)).setCell (Nat.le_refl _) _
    f0 := (World.cell?_setCell_other _ _ _ _ (fun e => by have := congrArg Addr.off e; simp at this)).trans ((hc 0).trans h.f0)
    f1 := World.cell?_setCell_same _ _ _ ((hc 1).trans h.f1)
    fr := fun o => (World.frozen?_setCell _ _ _ _).trans ((hg.frozen_far ⟨w.heap.size, o, none⟩ (by show w.heap.size < _; omega) hne).trans (h.fr o))
    sz := by have := hg.size; simp; omega
    own := by
      have := ownsRow_setCell_below hown (a := ⟨w.heap.size, 1, none⟩) (by show w.heap.size < _; omega) iv'
      simpa using this }

def CItemRel (all : List (List UInt8)) (ys : List CItem) (rest : List (List UInt8)) : Prop := itemsP all = (itemsP rest).map (ys.map CItem.abs ++ ·)
theorem CItemRel_start (all : List (List UInt8)) : CItemRel all [] all := by unfold CItemRel; cases itemsP all <;> simp
theorem CItemRel_step {all r : List (List UInt8)} {ys : List CItem} {w : List UInt8} {y : CItem} (h : CItemRel all ys (w :: r)) (hw : (itemL w).2 = true) (hy : y.abs = (itemL w).1) : CItemRel all (ys ++ [y]) r := by
  unfold CItemRel at *; rw [h, itemsP, if_pos hw]; cases itemsP r <;> simp [hy]
theorem CItemRel_stop {all r : List (List UInt8)} {ys : List CItem} {w : List UInt8} (h : CItemRel all ys (w :: r)) (hw : (itemL w).2 = false) : itemsP all = none := by
  unfold CItemRel at h; rw [h, itemsP, if_neg (by simp [hw])]; rfl
theorem CItemRel_end {all : List (List UInt8)} {ys : List CItem} (h : CItemRel all ys []) : itemsP all = some (ys.map CItem.abs) := by
  unfold CItemRel at h; rw [h]; simp [itemsP]

theorem fin2 {w w1 wr : World} {nm : ByteArray} {iv : Value} {ys : List CItem} (h : CFW w1 nm iv ys wr) (hb : Below w.heap.size w w1) (hl : w.heap.size < w1.heap.size) (x0 x1 : Value) :
    Below w.heap.size w ((wr.setCell ⟨w.heap.size, 0, none⟩ x0).setCell ⟨w.heap.size, 1, none⟩ x1) ∧ ((wr.setCell ⟨w.heap.size, 0, none⟩ x0).setCell ⟨w.heap.size, 1, none⟩ x1).ownsRow w.heap.size 303 3 iv ys.length (ys.flatMap CItem.cells) := by
  have hl' : ∀ o, (⟨w.heap.size, o, none⟩ : Addr).block < w1.heap.size + 1 := fun o => by show w.heap.size < _; omega
  refine ⟨((hb.trans (h.below.mono (by omega))).setCell (Nat.le_refl _) _).setCell (Nat.le_refl _) _, ?_⟩
  refine ownsRow_low (B := w1.heap.size + 1) ?_ (by omega)
  exact ownsRow_setCell_below (ownsRow_setCell_below h.own (hl' 0) _) (hl' 1) _

set_option maxHeartbeats 3200000 in
set_option maxRecDepth 100000 in
theorem pfeat_go (g o cap n : Nat) (nm : ByteArray) (Q : List ByteArray) (w : World) (m : Int) (HL : Hid (n = Q.length)) (hn : n ≤ 5) (hcap : n + 1 ≤ cap) (hg : g < w.heap.size) (d0 : w.cell? ⟨g, o, none⟩ = some (.string nm)) (HC : Hid (∀ j (h : j < Q.length), w.cell? ⟨g, o + 1 + j, none⟩ = some (.string Q[j])))
    (HSZ : Hid (∀ x ∈ Q, x.size ≤ 1048576)) (hnm : nameL nm.data.toList = true) (hm : w.cell? ⟨16, 0, none⟩ = some (.int .i64 m)) (hml : 16 < w.heap.size) (S : Sent w) :
    Calls Tryz.prog 150 #[.slice (some ⟨g, o, none⟩) (n + 1) cap] w fun e w' => PFeatEnds w.heap.size (pfeatP (nm.data.toList :: datas Q)) e w' ∧ Below w.heap.size w w' := by
  obtain ⟨j0, hj0, hy0, hy1, hy2⟩ := info_parts Tryz.infoCItem
  have k0 : (0 : Int) < ((n + 1 : Nat) : Int) := by omega
  have k1 : (((n + 1 : Nat) : Int) == 0) = false := by simp; omega
  have k5 : ¬ (5 : Int) < ((n + 1 : Nat) : Int) - 1 := by omega
  have HS : Hid (Sent w) := S
  have HN : Hid (∀ w : World, Calls Tryz.prog 125 #[.string nm] w fun e w' => e = .returned (.bool true) ∧ Below w.heap.size w w') := fun w => by have := isName_any nm w; rw [hnm] at this; exact this
  have HR : Hid (pfeatP (nm.data.toList :: datas Q) = (itemsP (datas Q)).map fun ys => (nm.data.toList, ys)) := by
    show _ = _
    unfold pfeatP; simp only; rw [if_pos ⟨hnm, by have := HL.out; simp [datas]; omega⟩]
  have HMX : Hid (w.cell? ⟨16, 0, none⟩ = some (.int .i64 m)) := hm
  generalize pfeatP (nm.data.toList :: datas Q) = r at *
  clear S hnm hm
  go_enter Tryz.func150, Tryz.ntmps150
  go_wp2_with fail
  refine (HN.out _).mono ?_
  rintro e w1 ⟨rfl, hb1⟩
  have HB1 : Hid (Below w.heap.size w w1) := ((Below.refl _ _).alloc (Nat.le_refl _) _).trans (hb1.mono (by simp))
  have HZ1 : Hid (∀ o, w1.cell? ⟨w.heap.size, o, none⟩ = #[Value.string ⟨#[]⟩, .slice none 0 0][o]?) := fun o => by
    rw [hb1.cell (p := ⟨w.heap.size, o, none⟩) (by simp)]
    exact World.cell?_alloc_at _ _ _ _ rfl
  have HF1 : Hid (∀ o, w1.frozen? ⟨w.heap.size, o, none⟩ = false) := fun o => by
    rw [hb1.frozen (p := ⟨w.heap.size, o, none⟩) (by simp)]
    exact World.frozen?_alloc_at _ _ _ _ rfl
  have e0 : w1.cell? ⟨g, o, none⟩ = some (.string nm) := (HB1.out.cell (p := ⟨g, o, none⟩) hg).trans d0
  have hl1 : w.heap.size < w1.heap.size := by have := hb1.size; simp at this; omega
  have HW : Hid (CFW w1 nm (.slice none 0 0) [] (w1.alloc (.cells #[.string nm, .slice none 0 0] 222))) := CFW.start w1 nm
  have hgl1 : g < w1.heap.size := by omega
  clear hb1 HN d0
  go_wp2
  all_goals (
    clear e0
    go_loopw [34] (fun i wr => ∃ (k : Nat) (ys : List CItem) (ai : Option Addr) (ci : Nat), k ≤ n ∧ i = .int .i64 k ∧ CFW w1 nm (.slice ai ys.length ci) ys wr ∧ ys.length ≤ k ∧ (∀ y ∈ ys, y.Ok) ∧ CItemRel (datas Q) ys (datas (Q.drop k))) (fun i _ => n - (intOf i).toNat)
    case atStart => exact ⟨0, [], none, 0, by omega, rfl, HW.out, by simp, by simp, CItemRel_start _⟩
    case round =>
      obtain ⟨k, ys, ai, ci, hkn, rfl, hfw, hyl, hok, hir⟩ := hrel
      have HIR : Hid (CItemRel (datas Q) ys (datas (Q.drop k))) := hir
      have HOK : Hid (∀ y ∈ ys, y.Ok) := hok
      have HFW : Hid (CFW w1 nm (.slice ai ys.length ci) ys wr) := hfw
      have hsz1 := hfw.sz
      clear hir hok HW
      by_cases hlt : k < n
      · try (exfalso; omega)
        all_goals (
          have hkQ : k < Q.length := by rw [← HL.out]; exact hlt
          have hck : wr.cell? ⟨g, o + 1 + k, none⟩ = some (.string Q[k]) := (hfw.below.cell (p := ⟨g, o + 1 + k, none⟩) hgl1).trans ((HB1.out.cell (p := ⟨g, o + 1 + k, none⟩) hg).trans (HC.out k hkQ))
          have hwr : Below w.heap.size w wr := HB1.out.trans (hfw.below.mono (by omega))
          have HIT : Hid (∀ W : World, Below wr.heap.size wr W → Calls Tryz.prog 183 #[.string Q[k]] W fun e w' => PItemEnds Q[k].data.toList e ∧ Below W.heap.size W w') := fun W hW => by
            have hw2 := hwr.trans (hW.mono hwr.size)
            exact parseItem_any _ W m (HSZ.out _ (List.getElem_mem _)) ((hw2.cell (p := ⟨16, 0, none⟩) hml).trans HMX.out) (Nat.lt_of_lt_of_le hml hw2.size) (HS.out.on hw2)
          have HDR : Hid (datas (Q.drop k) = Q[k].data.toList :: datas (Q.drop (k + 1))) := by
            show _ = _
            rw [List.drop_eq_getElem_cons hkQ]; rfl
          generalize Q[k] = x at *
          clear hfw hwr
          go_wp2_with fail
          refine (HIT.out _ (Below.refl _ _)).mono ?_
          rintro e w4 ⟨⟨k', p', f', er, rfl, hno, hyes⟩, hb4⟩
          have HF4 : Hid (CFW w1 nm (.slice ai ys.length ci) ys w4) := HFW.out.on hb4
          have hsz4 := HF4.out.sz
          cases hok : (itemL x.data.toList).2
          · obtain ⟨t, p, rfl⟩ := hno hok
            have HE : Hid (r = none) := by
              have e1 := CItemRel_stop (by have := HIR.out; rw [HDR.out] at this; exact this) hok
              have e2 := HR.out; rw [e1] at e2; exact e2
            have r0 := (HF4.out.below.cell (p := ⟨w.heap.size, 0, none⟩) hl1).trans (HZ1.out 0)
            have r1 := (HF4.out.below.cell (p := ⟨w.heap.size, 1, none⟩) hl1).trans (HZ1.out 1)
            have z0 := (HF4.out.below.frozen (p := ⟨w.heap.size, 0, none⟩) hl1).trans (HF1.out 0)
            have z1 := (HF4.out.below.frozen (p := ⟨w.heap.size, 1, none⟩) hl1).trans (HF1.out 1)
            simp at r0 r1
            have hlw4 : w.heap.size < w4.heap.size := by omega
            have HBF : Hid (Below w.heap.size w w4) := HB1.out.trans (HF4.out.below.mono (by omega))
            clear hok hno hyes HIT HDR HIR HOK HC HSZ HFW hb4 HZ1 HF1 HF4 hck
            go_wp2
            exact bodyPost_ret (v := .tuple #[.agg #[.string ⟨#[]⟩, .slice none 0 0], .iface t p]) (by simp [results, Tryz.results150, go_sem, r0, r1, hlw4]) rfl ⟨pfeat_no HE.out, ((HBF.out.setCell (Nat.le_refl _) _).setCell (Nat.le_refl _) _).alloc (by simp; omega) _⟩
          · obtain ⟨rfl, hab, hyok⟩ := hyes hok
            have HST : Hid (CItemRel (datas Q) (ys ++ [⟨k', p', f'⟩]) (datas (Q.drop (k + 1)))) := CItemRel_step (by have := HIR.out; rw [HDR.out] at this; exact this) hok hab
            have HOK2 : Hid (∀ y ∈ ys ++ [(⟨k', p', f'⟩ : CItem)], y.Ok) := fun y hy => by
              rcases List.mem_append.1 hy with hy | hy
              · exact HOK.out y hy
              · simp at hy; subst hy; exact hyok
            have f1 := HF4.out.f1
            have ffr := HF4.out.fr
            have HO4 : Hid (w4.ownsRow (w1.heap.size + 1) 303 3 (.slice ai ys.length ci) ys.length (ys.flatMap CItem.cells)) := HF4.out.own
            have hfl : w1.heap.size < w4.heap.size := by omega
            have ak : (Value.slice ai ys.length ci).ownBlock ≠ some w1.heap.size := fun e => by have := (HO4.out.lt _ e).1; omega
            clear hok hno hyes hab hyok HIT HDR HIR HFW HOK hb4 hck
            go_wp2_with (at_builtin; refine wpList_append_lies _ (by rfl) _ _ _ (by rfl) (w1.heap.size + 1) 303 j0 _ 3 40 Tryz.underlying220 hj0 hy0 hy1 hy2 rfl (by omega) (.slice ai ys.length ci) ys.length (ys.flatMap CItem.cells) (by rfl) ((HO4.out.alloc _).alloc _) ⟨w4.heap.size + 1, 0, none⟩ 1 1 [.int .i64 k', .string p', .string f'] (by rfl) (by rfl) (World.news_of_block (cs := #[.int .i64 k', .string p', .string f']) (t := 303) (fr := (0, 0)) (by have := heap_alloc_new (w4.alloc (.cells #[.int .i64 k', .string p', .string f'] 303)) (.cells #[.int .i64 k', .string p', .string f'] 303); simpa using this)) (by simp [Value.oneCell']) (by omega) (by unfold maxLen; omega) (by omega) (by simp; omega) (w4.heap.size + 1 + 1) (by simp) ?_)
            intro gg cq w5 hown1 hgrow _ _
            have HF5 : Hid (CFW w1 nm (.slice (some ⟨gg, 0, none⟩) (ys.length + 1) cq) (ys ++ [⟨k', p', f'⟩]) (w5.setCell ⟨w1.heap.size, 1, none⟩ (.slice (some ⟨gg, 0, none⟩) (ys.length + 1) cq))) := (HF4.out.on (((Below.refl _ _).alloc (Nat.le_refl _) _).alloc (by simp) _)).grow hgrow hown1
            have z1 : w5.cell? ⟨w1.heap.size, 1, none⟩ = some (.slice ai ys.length ci) := (hgrow.cell_far ⟨w1.heap.size, 1, none⟩ (by simp; omega) (Ne.symm ak)).trans ((World.cell?_alloc_past _ _ _ (by simp; omega)).trans ((World.cell?_alloc_past _ _ _ hfl).trans f1))
            have z2 : w5.frozen? ⟨w1.heap.size, 1, none⟩ = false := (hgrow.frozen_far ⟨w1.heap.size, 1, none⟩ (by simp; omega) (Ne.symm ak)).trans ((World.frozen?_alloc_past _ _ _ (by simp; omega)).trans ((World.frozen?_alloc_past _ _ _ hfl).trans (ffr 1)))
            clear hown1 hgrow f1 ffr HO4 HF4
            go_wp2
            go_roundw
            case rel => exact ⟨k + 1, ys ++ [⟨k', p', f'⟩], some ⟨gg, 0, none⟩, cq, by omega, by go_num, by simpa using HF5.out, by simp; omega, HOK2.out, HST.out⟩
            case measure => simp [intOf]; omega)
      · have HE : Hid (r = some (nm.data.toList, ys.map CItem.abs)) := by
          have e : Q.drop k = [] := List.drop_of_length_le (by rw [← HL.out]; omega)
          have e1 := HIR.out; rw [e] at e1
          have e2 := HR.out; rw [CItemRel_end e1] at e2; exact e2
        have r0 := (hfw.below.cell (p := ⟨w.heap.size, 0, none⟩) hl1).trans (HZ1.out 0)
        have r1 := (hfw.below.cell (p := ⟨w.heap.size, 1, none⟩) hl1).trans (HZ1.out 1)
        have z0 := (hfw.below.frozen (p := ⟨w.heap.size, 0, none⟩) hl1).trans (HF1.out 0)
        have z1 := (hfw.below.frozen (p := ⟨w.heap.size, 1, none⟩) hl1).trans (HF1.out 1)
        simp at r0 r1
        have a0 := hfw.f0
        have a1 := hfw.f1
        clear hfw HIR HC HSZ HZ1 HF1
        go_wp2
        refine bodyPost_ret (v := .tuple #[.agg #[.string nm, .slice ai ys.length ci], .nilIface]) (by simp [results, Tryz.results150, go_sem, r0, r1]) rfl ⟨?_, (fin2 HFW.out HB1.out hl1 _ _).1⟩
        refine ⟨nm, ai, ys.length, ci, .nilIface, rfl, ⟨fun h => (by rw [HE.out] at h; cases h), fun q h => ?_⟩⟩
        rw [HE.out] at h
        obtain rfl := Option.some.inj h
        exact ⟨rfl, rfl, ys, rfl, HOK.out, rfl, (fin2 HFW.out HB1.out hl1 _ _).2⟩)

end Go.Proofs.YtnmclolbndohiaaGreatDoor
