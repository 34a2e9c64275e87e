/-
  What the walks of 'takeNeed' and 'takeFeature' share.
-/
import Derived.Test.YtnmclolbndohiaaGreatDoorT32
import Derived.Test.YtnmclolbndohiaaGreatDoorT33
namespace Go.Proofs.YtnmclolbndohiaaGreatDoor
open Go.RowKit
open Ver

theorem Tryz.infoMen : (Tryz.prog.info? 151).map (fun i => (i.zero, i.size, i.bytes)) = some (some (.agg #[.int .i64 0, .pointer none, .nilIface]), 3, 32) := by kernel_rfl

theorem RdR.entFz {B rb : Nat} {R : List Hold} {r : CRd} {w : World} (h : RdR B rb R r w) {q : CPack} (hq : q ∈ r.packs) {c : CEnt} (hc : c ∈ q.ents) (o : Nat) : w.frozen? ⟨c.b, o, none⟩ = false := by
  have ho : c.hb.own B w := h.own (by
    simp only [CRd.holds, List.mem_cons, List.mem_flatMap]
    refine Or.inr (Or.inr (Or.inr (Or.inr ⟨q, hq, ?_⟩)))
    simp only [CPack.holds, List.mem_cons, List.mem_flatMap]
    exact Or.inr (Or.inr ⟨c, hc, by simp [CEnt.holds]⟩))
  have h' : w.ownsRow B 133 5 (.slice (some ⟨c.b, 0, none⟩) 1 1) 1 [.int .i64 c.v0, .int .i64 c.v1, .int .i64 c.v2, c.nv, c.fv] := ho
  exact h'.frozenAt _
theorem RdR.permEnt {B rb : Nat} {R : List Hold} {r : CRd} {w : World} {l1 l2 : List CPack} {q : CPack} {es : List CEnt} {c : CEnt} (_h : RdR B rb R r w) (hq : r.packs = l1 ++ q :: l2) (hes : q.ents = es ++ [c]) :
    (R ++ r.holds rb).Perm (c.hn :: c.hb :: c.hf :: r.hr rb :: r.hi :: r.hp :: r.hm :: q.hb :: q.he :: (R ++ (l1.flatMap CPack.holds ++ (es.flatMap CEnt.holds ++ (c.needs.map CNeed.hold ++ (c.feats.map CFeat.hold ++ l2.flatMap CPack.holds)))))) := by
  classical
  rw [List.perm_iff_count]
  intro x
  simp only [CRd.holds, hq, CPack.holds, hes, CEnt.holds, List.flatMap_append, List.flatMap_cons, List.flatMap_nil, List.append_nil, List.count_append, List.count_cons]
  omega

theorem RdR.menEnd {B rb g6 c6 mc n : Nat} {ma : Option Addr} {BX : Hold} {R : List Hold} {r : CRd} {wc w6 : World} {x : CMen} {X : Obj} (h : RdR B rb (BX :: R) r wc) (hn : r.mens.length = n) (hmv : r.mv = .slice ma n mc) (hgrow : ((wc.alloc X).drew).grownBy w6 (Value.slice ma n mc).ownBlock) (hat : (Value.slice ma n mc).ownBlock = some g6 ∨ g6 = wc.heap.size + 1)
    (hown : w6.ownsRow B 151 3 (.slice (some ⟨g6, 0, none⟩) (n + 1) c6) (n + 1) (r.mens.flatMap CMen.cells ++ x.cells)) :
    RdR B rb R ⟨r.ib, r.pv, r.packs, r.cur, .slice (some ⟨g6, 0, none⟩) (n + 1) c6, r.mens ++ [x]⟩ (w6.setCell ⟨rb, 2, none⟩ (.slice (some ⟨g6, 0, none⟩) (n + 1) c6)) := by
  have hfa := h.on (((Below.refl _ _).alloc (Nat.le_refl _) X).drew)
  subst hn
  have ha := RdR.addMen (x := x) (cap := c6) hfa (by rw [hmv]; exact hgrow) (by rw [hmv]; exact hat.imp id (fun e => by rw [e]; simp)) hown
  exact ⟨ha.forest.tail⟩

end Go.Proofs.YtnmclolbndohiaaGreatDoor
