/-
  The code's 'take', at any words: a taker for 'Each'.
-/
import Derived.Test.YtnmclolbndohiaaGreatDoorT36
import Derived.Test.YtnmclolbndohiaaGreatDoorT37
import Derived.Test.YtnmclolbndohiaaGreatDoorT34
import Derived.Test.YtnmclolbndohiaaGreatDoorT32
import Derived.Test.YtnmclolbndohiaaGreatDoorT38
import Derived.Test.YtnmclolbndohiaaGreatDoorT39
import Derived.Deep.RegionLaw
namespace Go.Proofs.YtnmclolbndohiaaGreatDoor
open Go.RowKit
open Ver

theorem tp_any (B rb g o cap : Nat) (R : List Hold) (r : CRd) (p : PIdx) (ms : List PMen) (t0 t1 : TypeId) (p0 p1 : Value) (m : Int) (Q : List ByteArray) (w : World) (h : TkAt B rb R r p ms t0 t1 p0 p1 m w) (hg : g < w.heap.size) (HC : ∀ j (h : j < Q.length), w.cell? ⟨g, o + j, none⟩ = some (.string Q[j])) (HSZ : ∀ x ∈ Q, x.size ≤ 1048576) (out : Option (PIdx × List PMen)) (HO : out = match datas Q with
      | [nm, vt] => (packP p nm vt).map fun q => (q, ms)
      | _ => none) :
    Calls Tryz.prog 102 #[ptrTo rb, .slice (some ⟨g, o, none⟩) Q.length cap] w fun e w' => TkEnds B rb R out e w' ∧ Below B w w' := by
  have no : ∀ {n : Nat}, n ≠ 2 → out = none → Calls Tryz.prog 102 #[ptrTo rb, .slice (some ⟨g, o, none⟩) n cap] w fun e w' => TkEnds B rb R out e w' ∧ Below B w w' := fun hn ho => by
    refine (tp_len rb g o cap _ w hn h.sent).mono fun e w' he => ?_
    obtain ⟨⟨t, q, rfl⟩, hb⟩ := he
    exact ⟨tk_no ho, hb.mono h.base⟩
  match Q, HC, HSZ, HO with
  | [], _, _, HO => exact no (by simp) HO
  | [_], _, _, HO => exact no (by simp) HO
  | _ :: _ :: _ :: _, _, _, HO => exact no (by simp) HO
  | [nm, vt], HC, HSZ, HO =>
    have d0 : w.cell? ⟨g, o, none⟩ = some (.string nm) := HC 0 (by simp)
    have d1 : w.cell? ⟨g, o + 1, none⟩ = some (.string vt) := HC 1 (by simp)
    have HO' : out = (packP p nm.data.toList vt.data.toList).map fun q => (q, ms) := HO
    have hvs : vt.size ≤ 1048576 := HSZ vt (by simp)
    cases hnm : nameL nm.data.toList
    · have ho : out = none := by rw [HO', packP_bad (fun h => by rw [hnm] at h; exact Bool.noConfusion h.1)]; rfl
      refine (tp_noname rb g o cap nm w d0 hnm h.sent).mono fun e w' he => ?_
      obtain ⟨⟨t, q, rfl⟩, hb⟩ := he
      exact ⟨tk_no ho, hb.mono h.base⟩
    · by_cases hv : verI vt.data.toList < 0
      · have ho : out = none := by rw [HO', packP_bad (fun h => by have := h.2; omega)]; rfl
        refine (tp_nover rb g o cap nm vt w t0 t1 p0 p1 m hg d0 d1 hvs hnm hv h.glob).mono fun e w' he => ?_
        obtain ⟨⟨t, q, rfl⟩, hb⟩ := he
        exact ⟨tk_no ho, hb.mono h.base⟩
      · exact tp_go B rb g o cap R r p nm vt w ms t0 t1 p0 p1 m h.rd h.full h.bd.names h.base hg d0 d1 hvs hnm (by omega) h.sent h.glob h.bd.vers h.low out HO'

theorem take_any (B rb g : Nat) (R : List Hold) (r : CRd) (p : PIdx) (ms : List PMen) (t0 t1 : TypeId) (p0 p1 : Value) (m : Int) (k : Int) (P : List ByteArray) (w : World) (h : TkAt B rb R r p ms t0 t1 p0 p1 m w) (hP : 0 < P.length) (hPl : P.length ≤ 1047000) (hg : g < w.heap.size) (HC : ∀ j (h : j < P.length), w.cell? ⟨g, j, none⟩ = some (.string P[j])) (HSZ : ∀ x ∈ P, x.size ≤ 1048576) :
    Calls Tryz.prog 64 #[.pointer (some ⟨rb, 0, none⟩), .int .i64 k, .slice (some ⟨g, 0, none⟩) P.length P.length] w fun e w' => TkEnds B rb R (step2 (p, ms) (datas P) k) e w' ∧ Below B w w' := by
  match P, hP, hPl, HC, HSZ with
  | a :: Q, _, hPl, HC, HSZ =>
    have d0 : w.cell? ⟨g, 0, none⟩ = some (.string a) := HC 0 (by simp)
    have hd : datas (a :: Q) = a.data.toList :: datas Q := rfl
    have HC1 : ∀ o, (o = 1 ∨ Q.length = 0) → ∀ j (h : j < Q.length), w.cell? ⟨g, o + j, none⟩ = some (.string Q[j]) := fun o ho j hj => by
      rcases ho with rfl | ho
      · have := HC (j + 1) (by simp; omega)
        rw [Nat.add_comm 1 j]; simpa using this
      · omega
    have HSZ1 : ∀ x ∈ Q, x.size ≤ 1048576 := fun x hx => HSZ x (List.mem_cons_of_mem _ hx)
    have hQl : Q.length ≤ 1047000 := by simp at hPl; omega
    have hlen : (a :: Q).length = Q.length + 1 := rfl
    rw [hlen]
    by_cases hpw : a.data.toList = packW
    · refine tk_pack B rb g Q.length R k a w _ d0 (word_is hpw) (fun o cap ho hcap => ?_)
      refine tp_any B rb g o cap R r p ms t0 t1 p0 p1 m Q w h hg (HC1 o ho) HSZ1 _ ?_
      rw [hd]
      unfold step2 enterP newMen
      simp only [List.head?_cons, hpw, if_true, List.append_nil]
      match hq : datas Q with
      | [] => rfl
      | [_] => rfl
      | [_, _] => rfl
      | _ :: _ :: _ :: _ => rfl
    · have q0 := word_not hpw
      have hh : ¬ (some a.data.toList = some packW) := fun e => hpw (Option.some.inj e)
      cases hl : p.ents.getLast? with
      | none =>
        have hcur : r.cur = none := by have := h.full.rel.cur; rw [hl] at this; exact this
        have c1 : w.cell? ⟨rb, 1, none⟩ = some (.pointer none) := by
          have := h.rd.reader.2.2.2.1
          unfold CRd.curV at this
          rw [hcur] at this; exact this
        refine (tk_ahead B rb g Q.length R k a w _ d0 q0 c1 h.sent ?_)
        show step2 _ _ _ = none
        rw [hd]
        unfold step2 enterP
        simp only [List.head?_cons, if_neg hh, hl]
        rfl
      | some pe =>
        obtain ⟨l1, q, l2, es, c, hq, hk, hes, hcu, hce⟩ := h.full.rel.last hl
        have c1 : w.cell? ⟨rb, 1, none⟩ = some (.pointer (some ⟨c.b, 0, none⟩)) := by
          have := h.rd.reader.2.2.2.1
          unfold CRd.curV at this
          rw [hcu] at this; exact this
        by_cases hnw : a.data.toList = needsW
        · refine tk_needs B rb g Q.length R k a w c.b _ d0 q0 (word_is hnw) c1 (fun o cap ho hcap => ?_)
          refine tn_go B rb g o cap Q.length R r p ms k pe (codeNeedP (datas Q)) w h.rd h.full h.bd h.base hl h.sent h.low (parseNeed_any g o cap Q w t0 t1 p0 p1 m hcap hQl hg (HC1 o ho) HSZ1 h.sent h.glob) _ ?_
          show step2 _ _ _ = _
          rw [hd]
          unfold step2 enterP newMen needOut
          have hn' : ¬ (some needsW = some packW) := by decide
          simp only [List.head?_cons, hnw, if_neg hn', hl, if_true]
          unfold needsP
          rw [needP_code]
          cases hnp : codeNeedP (datas Q) with
          | none => rfl
          | some n =>
            simp only
            split <;> rfl
        · have q1 := word_not hnw
          by_cases hfw : a.data.toList = featW
          · refine tk_feat B rb g Q.length R k a w c.b _ d0 q0 q1 (word_is hfw) c1 (fun o cap ho hcap => ?_)
            refine tf_go B rb g o cap Q.length R r p ms k pe (pfeatP (datas Q)) w h.rd h.full h.bd h.base hl h.sent h.low (parseFeature_any g o cap Q w m hcap hQl hg (HC1 o ho) HSZ1 h.glob.c2 (Nat.lt_of_le_of_lt (by decide) h.glob.lt) h.sent) _ ?_
            show step2 _ _ _ = _
            rw [hd]
            unfold step2 enterP newMen featOut
            have hn' : ¬ (some featW = some packW) := by decide
            have hn2 : ¬ (some featW = some needsW) := by decide
            simp only [List.head?_cons, hfw, if_neg hn', hl, if_neg hn2, if_true]
            unfold pfeatP
            match hq' : datas Q with
            | [] => rfl
            | nm :: rest =>
              simp only
              unfold featP
              cases hy : itemsP rest with
              | none =>
                simp only [Option.map_none, ite_self]
              | some ys =>
                simp only [Option.map_some]
                by_cases h1 : nameL nm = true ∧ rest.length ≤ 5
                · rw [if_pos h1]
                  simp only
                  by_cases h2 : idxL (pe.feats.map fun f => f.name) nm < 0
                  · rw [if_pos ⟨h1.2, h1.1, h2⟩]
                    by_cases h3 : pe.feats.length + 1 ≤ 5
                    · rw [if_pos h3, if_pos ⟨h2, h3⟩]; rfl
                    · rw [if_neg h3, if_neg (fun h => h3 h.2)]; rfl
                  · rw [if_neg (fun h => h2 h.2.2), if_neg (fun h => h2 h.1)]; rfl
                · rw [if_neg h1, if_neg (fun h => h1 ⟨h.2.1, h.1⟩)]; rfl
          · refine tk_kind B rb g Q.length R k a w c.b _ d0 q0 q1 (word_not hfw) c1 h.sent ?_
            show step2 _ _ _ = none
            rw [hd]
            unfold step2 enterP
            have f0 : ¬ ((a.data.toList :: datas Q).head? = some packW) := fun e => hpw (Option.some.inj e)
            have f1 : ¬ ((a.data.toList :: datas Q).head? = some needsW) := fun e => hnw (Option.some.inj e)
            have f2 : ¬ ((a.data.toList :: datas Q).head? = some featW) := fun e => hfw (Option.some.inj e)
            rw [if_neg f0, hl]
            show Option.map _ (if (a.data.toList :: datas Q).head? = some needsW then _ else _) = none
            rw [if_neg f1, if_neg f2]
            rfl

theorem takes (B rb : Nat) (t0 t1 : TypeId) (p0 p1 : Value) (m : Int) (hgm : 16 < B) : Takes (TkSt B rb t0 t1 p0 p1 m) step2 rb B m where
  on := fun s w w' ⟨r, h⟩ hb => ⟨r, h.rd.on hb, h.full, h.bd, Nat.le_trans h.base hb.size, h.sent.on hb, h.glob.on hb h.glob.lt, h.low⟩
  sent := fun s w ⟨r, h⟩ => h.sent
  max := fun s w ⟨r, h⟩ => h.glob.c2
  base := fun s w ⟨r, h⟩ => h.base
  take := fun s k w0 w g P ⟨r, h⟩ hb hg hP hPl hsz hown => by
    obtain ⟨p, ms⟩ := s
    have h' : TkAt B rb [] r p ms t0 t1 p0 p1 m w := ⟨h.rd.on hb, h.full, h.bd, Nat.le_trans h.base hb.size, h.sent.on hb, h.glob.on hb h.glob.lt, h.low⟩
    refine (take_any B rb g [] r p ms t0 t1 p0 p1 m k P w h' hP (by omega) (hown.lt g rfl).2 (fun j hj => ?_) (fun x hx => by have := hsz x hx; omega)).mono fun e w' ⟨he, hbw⟩ => ?_
    · rw [World.ownsRow.cellAt hown j (by omega)]; simp [hj]
    · refine ⟨⟨he.1, fun s' hs' => ?_⟩, hbw, fun _ => h'.sent.above hbw h.low⟩
      obtain ⟨e1, r', h1, h2⟩ := he.2 s' hs'
      refine ⟨e1, r', h1, h2, ?_, Nat.le_trans h'.base hbw.size, h'.sent.above hbw h.low, h'.glob.on hbw hgm, h.low⟩
      unfold step2 at hs'
      cases hen : enterP p (datas P) k with
      | none => simp only [hen] at hs'; cases hs'
      | some q =>
        simp only [hen, Option.map_some, Option.some.injEq] at hs'
        subst hs'
        exact h.bd.step hen

end Go.Proofs.YtnmclolbndohiaaGreatDoor

/-
  The walk of the code's 'lockstep.Load'.
-/
namespace Go.Proofs.YtnmclolbndohiaaGreatDoor
open Go.RowKit
open Ver

/-- errors.errorType holds the type 'error'. -/
structure ErrT (w : World) : Prop where
  cell : w.cell? ⟨7, 0, none⟩ = some (.iface 242 (.agg #[.pointer (some ⟨29, 58, none⟩)]))
theorem ErrT.on {w w' : World} {B : Nat} (h : ErrT w) (hb : Below B w w') (hB : 29 ≤ B) : ErrT w' := ⟨(hb.cell (p := ⟨7, 0, none⟩) (by show 7 < B; omega)).trans h.cell⟩

/-- An index that 'Load' gives. -/
structure IdxC (B xb rb : Nat) (r : CRd) (w : World) : Prop where
  rd : RdR B rb [] r w
  lt : xb < w.heap.size
  ge : B ≤ xb
  cell : w.cell? ⟨xb, 0, none⟩ = some (ptrTo r.ib)
def LoadCEnds (B : Nat) (V : NoV) (o : Except (Int × Int) (PIdx × List PMen)) (e : Ending) (w' : World) : Prop :=
  match o with
  | .error (n, l) => e = .returned (.tuple #[.pointer none, .int .i64 n, .int .i64 l])
  | .ok (p, ms) => match firstV V p ms with
    | some l => e = .returned (.tuple #[.pointer none, .int .i64 3, .int .i64 l])
    | none => ∃ xb rb r, e = .returned (.tuple #[ptrTo xb, .int .i64 0, .int .i64 0]) ∧ IdxC B xb rb r w' ∧ Full r (p, ms) ∧ Bd p

set_option maxHeartbeats 1600000 in
set_option maxRecDepth 100000 in
theorem load_any (text : ByteArray) (V : NoV) (w : World) (t0 t1 : TypeId) (p0 p1 : Value) (m : Int) (S : Sent w) (G : Glob t0 t1 p0 p1 m w) (hV : NoAt V w) (hF : Forms V ∨ ∀ p ms, eachP step2 (⟨[], []⟩, []) text.data.toList = .ok (p, ms) → ∀ y ∈ ms, badM p y = false) (hT : ErrT w) (hgn : 29 ≤ w.heap.size) :
    Calls Tryz.prog 22 #[.string text] w fun e w' => LoadCEnds w.heap.size V (eachP step2 (⟨[], []⟩, []) text.data.toList) e w' ∧ Below w.heap.size w w' := by
  have HRD : Hid (Calls Tryz.prog 38 #[.string text] w fun e w' => ReadEnds w.heap.size V (eachP step2 (⟨[], []⟩, []) text.data.toList) e w' ∧ Below w.heap.size w w') := read_any text V w t0 t1 p0 p1 m S G hV hF hgn (takes _ _ t0 t1 p0 p1 m G.lt)
  have HT : Hid (ErrT w) := hT
  generalize eachP step2 (⟨[], []⟩, []) text.data.toList = o at *
  clear S G hV hT hF
  have key : ∀ (n l : Int) (wb : Nat) (w1 : World), Below w.heap.size w w1 → wb < w1.heap.size → w1.cell? ⟨wb, 0, none⟩ = some (.int .i64 n) → w1.cell? ⟨wb, 1, none⟩ = some (.int .i64 l) → Calls Tryz.prog 31 #[.iface 107 (.pointer (some ⟨wb, 0, none⟩))] w1 fun e w' => e = .returned (.tuple #[.int .i64 n, .int .i64 l]) ∧ Below w1.heap.size w1 w' := fun n l wb w1 hb h1 h2 h3 => tell_any wb n l w1 (HT.out.on hb hgn).cell (by have := hb.size; show 7 < _; omega) h1 h2 h3
  have HKEY : Hid (∀ (n l : Int) (wb : Nat) (w1 : World), Below w.heap.size w w1 → wb < w1.heap.size → w1.cell? ⟨wb, 0, none⟩ = some (.int .i64 n) → w1.cell? ⟨wb, 1, none⟩ = some (.int .i64 l) → Calls Tryz.prog 31 #[.iface 107 (.pointer (some ⟨wb, 0, none⟩))] w1 fun e w' => e = .returned (.tuple #[.int .i64 n, .int .i64 l]) ∧ Below w1.heap.size w1 w') := key
  clear key
  have hsp : (∃ n l, Hid (∀ e w', ReadEnds w.heap.size V o e w' → WrongEnd (.pointer none) n l e w') ∧ Hid (∀ w', LoadCEnds w.heap.size V o (.returned (.tuple #[.pointer none, .int .i64 n, .int .i64 l])) w')) ∨ ∃ p ms, Hid (∀ e w', ReadEnds w.heap.size V o e w' → ∃ rb r, e = .returned (.tuple #[ptrTo r.ib, .nilIface]) ∧ RdR w.heap.size rb [] r w' ∧ Full r (p, ms) ∧ Bd p) ∧ Hid (∀ xb rb r w', IdxC w.heap.size xb rb r w' → Full r (p, ms) → Bd p → LoadCEnds w.heap.size V o (.returned (.tuple #[ptrTo xb, .int .i64 0, .int .i64 0])) w') := by
    cases o with
    | error nl => exact Or.inl ⟨nl.1, nl.2, fun e w' h => h, fun w' => rfl⟩
    | ok s =>
      obtain ⟨p, ms⟩ := s
      cases hf : firstV V p ms with
      | some l =>
        refine Or.inl ⟨3, l, fun e w' h => ?_, fun w' => ?_⟩
        · unfold ReadEnds at h; simp only [hf] at h; exact h
        · unfold LoadCEnds; simp only [hf]
      | none =>
        refine Or.inr ⟨p, ms, fun e w' h => ?_, fun xb rb r w' h1 h2 h3 => ?_⟩
        · unfold ReadEnds at h; simp only [hf] at h; exact h
        · unfold LoadCEnds; simp only [hf]; exact ⟨xb, rb, r, rfl, h1, h2, h3⟩
  generalize hend : (fun e w' => LoadCEnds w.heap.size V o e w' ∧ Below w.heap.size w w') = POST
  rcases hsp with ⟨n, l, HW, HL⟩ | ⟨p, ms, HW, HL⟩
  · subst hend
    go_enter Tryz.func22, Tryz.ntmps22
    go_wp2_with fail
    refine Calls.mono HRD.out ?_
    rintro e w1 ⟨he, hb1⟩
    obtain ⟨wb, rfl, h1, h2, h3⟩ := HW.out e w1 he
    have HB1 : Hid (Below w.heap.size w w1) := hb1
    have HTL := HKEY.out n l wb w1 hb1 h1 h2 h3
    have HTL' : Hid (_) := HTL
    clear he hb1 h1 h2 h3 HRD HKEY HW HTL
    go_wp2_with fail
    refine Calls.mono HTL'.out ?_
    rintro e w2 ⟨rfl, hb2⟩
    have HB2 : Hid (Below w.heap.size w w2) := HB1.out.trans (hb2.mono HB1.out.size)
    clear hb2 HTL'
    go_wp2
    exact bodyPost_ret (v := .tuple #[.pointer none, .int .i64 n, .int .i64 l]) (by simp [results, Tryz.results22, go_sem]) rfl ⟨HL.out _, HB2.out⟩
  · subst hend
    go_enter Tryz.func22, Tryz.ntmps22
    go_wp2_with fail
    refine Calls.mono HRD.out ?_
    rintro e w1 ⟨he, hb1⟩
    obtain ⟨rb, r, rfl, hrd, hfu, hbd⟩ := HW.out e w1 he
    have HB1 : Hid (Below w.heap.size w w1) := hb1
    have HX : Hid (RdR w.heap.size rb [] r w1 ∧ Full r (p, ms) ∧ Bd p) := ⟨hrd, hfu, hbd⟩
    have hs1 := hb1.size
    clear he hb1 HRD HKEY HW hrd hfu hbd
    unfold ptrTo
    go_wp2
    refine bodyPost_ret (v := .tuple #[.pointer (some ⟨w1.heap.size, 0, none⟩), .int .i64 0, .int .i64 0]) (by simp [results, Tryz.results22, go_sem]) rfl ⟨?_, HB1.out.alloc hs1 _⟩
    refine HL.out w1.heap.size rb r _ ⟨⟨HX.out.1.forest.alloc _⟩, by simp, hs1, (World.cell?_alloc_at _ _ _ _ rfl).trans rfl⟩ HX.out.2.1 HX.out.2.2

end Go.Proofs.YtnmclolbndohiaaGreatDoor

/-
  The walk of the code's 'parseRoot' (a line of a request).
-/
namespace Go.Proofs.YtnmclolbndohiaaGreatDoor
open Go.RowKit
open Ver

def rootW : List UInt8 := [114, 111, 111, 116]
/-- A line of a request. -/
def rootP (k : Int) (ws : List (List UInt8)) : Option PNeed := if 4 < k then none else if ws.head? = some rootW then askP ws.tail else none

set_option maxHeartbeats 800000 in
set_option maxRecDepth 100000 in
theorem proot_many (g n : Nat) (k : Int) (w : World) (hk : 4 < k) (S : Sent w) :
    Calls Tryz.prog 52 #[.int .i64 k, .slice (some ⟨g, 0, none⟩) (n + 1) (n + 1)] w fun e w' => AskEnds w.heap.size none e w' ∧ Below w.heap.size w w' := by
  obtain ⟨t, p, hc⟩ := S.cell 5 (by decide)
  have hlt : 5 < w.heap.size := S.lt _ (by decide)
  clear S
  go_enter Tryz.func52, Tryz.ntmps52
  go_wp2
  go_region
  all_goals (try go_wp2)
  all_goals exact bodyPost_ret (v := .tuple #[.agg #[.string ⟨#[]⟩, .int .i64 0, .int .i64 0, .int .i64 0, .int .i64 0, .bool false, .slice none 0 0], .iface t p]) (by simp [results, Tryz.results52, go_sem]) rfl ⟨ask_no rfl, ((Below.refl _ _).alloc (Nat.le_refl _) _).drew⟩

set_option maxHeartbeats 800000 in
set_option maxRecDepth 100000 in
theorem proot_word (g n : Nat) (k : Int) (a : ByteArray) (w : World) (hk : ¬ 4 < k) (hg : g < w.heap.size) (d0 : w.cell? ⟨g, 0, none⟩ = some (.string a)) (q0 : (a.toList == [114, 111, 111, 116]) = false) (S : Sent w) :
    Calls Tryz.prog 52 #[.int .i64 k, .slice (some ⟨g, 0, none⟩) (n + 1) (n + 1)] w fun e w' => AskEnds w.heap.size none e w' ∧ Below w.heap.size w w' := by
  obtain ⟨t, p, hc⟩ := S.cell 6 (by decide)
  have hlt : 6 < w.heap.size := S.lt _ (by decide)
  clear S
  go_enter Tryz.func52, Tryz.ntmps52
  go_wp2
  go_region
  all_goals (try go_wp2)
  all_goals exact bodyPost_ret (v := .tuple #[.agg #[.string ⟨#[]⟩, .int .i64 0, .int .i64 0, .int .i64 0, .int .i64 0, .bool false, .slice none 0 0], .iface t p]) (by simp [results, Tryz.results52, go_sem]) rfl ⟨ask_no rfl, ((Below.refl _ _).alloc (Nat.le_refl _) _).drew⟩

theorem fin7q {w w4 : World} {B : Nat} {v : Value} {n : Nat} {xs : List Value} (hb : Below w.heap.size w w4) (ho : w4.ownsRow B 9 1 v n xs) (h2 : w.heap.size < B) (x0 x1 x2 x3 x4 x5 x6 : Value) :
    Below w.heap.size w (((((((w4.setCell ⟨w.heap.size, 0, none⟩ x0).setCell ⟨w.heap.size, 1, none⟩ x1).setCell ⟨w.heap.size, 2, none⟩ x2).setCell ⟨w.heap.size, 3, none⟩ x3).setCell ⟨w.heap.size, 4, none⟩ x4).setCell ⟨w.heap.size, 5, none⟩ x5).setCell ⟨w.heap.size, 6, none⟩ x6) ∧
    (((((((w4.setCell ⟨w.heap.size, 0, none⟩ x0).setCell ⟨w.heap.size, 1, none⟩ x1).setCell ⟨w.heap.size, 2, none⟩ x2).setCell ⟨w.heap.size, 3, none⟩ x3).setCell ⟨w.heap.size, 4, none⟩ x4).setCell ⟨w.heap.size, 5, none⟩ x5).setCell ⟨w.heap.size, 6, none⟩ x6).ownsRow w.heap.size 9 1 v n xs := by
  have hl : ∀ o, (⟨w.heap.size, o, none⟩ : Addr).block < B := fun o => by show w.heap.size < _; omega
  refine ⟨(((((((hb.setCell (Nat.le_refl _) _).setCell (Nat.le_refl _) _).setCell (Nat.le_refl _) _).setCell (Nat.le_refl _) _).setCell (Nat.le_refl _) _).setCell (Nat.le_refl _) _).setCell (Nat.le_refl _) _), ?_⟩
  refine ownsRow_low (B := B) ?_ (by omega)
  exact ownsRow_setCell_below (ownsRow_setCell_below (ownsRow_setCell_below (ownsRow_setCell_below (ownsRow_setCell_below (ownsRow_setCell_below (ownsRow_setCell_below ho (hl 0) _) (hl 1) _) (hl 2) _) (hl 3) _) (hl 4) _) (hl 5) _) (hl 6) _

set_option maxHeartbeats 800000 in
set_option maxRecDepth 100000 in
theorem proot_go (g n : Nat) (k : Int) (a : ByteArray) (r : Option PNeed) (w : World) (hk : ¬ 4 < k) (hg : g < w.heap.size) (d0 : w.cell? ⟨g, 0, none⟩ = some (.string a)) (q0 : (a.toList == [114, 111, 111, 116]) = true)
    (HT : Hid (∀ W o cap, Below w.heap.size w W → (o = 1 ∨ n = 0) → n ≤ cap → Calls Tryz.prog 84 #[.slice (some ⟨g, o, none⟩) n cap] W fun e w' => AskEnds W.heap.size r e w' ∧ Below W.heap.size W w')) :
    Calls Tryz.prog 52 #[.int .i64 k, .slice (some ⟨g, 0, none⟩) (n + 1) (n + 1)] w fun e w' => AskEnds w.heap.size r e w' ∧ Below w.heap.size w w' := by
  have hn : n = 0 ∨ 0 < n := by omega
  rcases hn with rfl | hn
  all_goals (
    go_enter Tryz.func52, Tryz.ntmps52
    go_wp2_with fail
    refine Calls.mono (HT.out _ _ _ ?_ ?_ ?_) ?_
    · exact (Below.refl _ _).alloc (Nat.le_refl _) _
    · first | exact Or.inl rfl | exact Or.inr rfl | exact Or.inr trivial
    · first | exact Nat.le_refl _ | omega
    rintro e w1 ⟨he, hb1⟩
    have HB1 : Hid (Below w.heap.size w w1) := ((Below.refl _ _).alloc (Nat.le_refl _) _).trans (hb1.mono (by simp))
    obtain ⟨nm, st, va, vb, vc, bare, fa, fk, fc, er, rfl, hno, hyes⟩ := he
    have hz : ∀ o, w1.cell? ⟨w.heap.size, o, none⟩ = #[Value.string ⟨#[]⟩, .int .i64 0, .int .i64 0, .int .i64 0, .int .i64 0, .bool false, .slice none 0 0][o]? := fun o => by
      rw [hb1.cell (p := ⟨w.heap.size, o, none⟩) (by simp)]
      exact World.cell?_alloc_at _ _ _ _ rfl
    have hfz : ∀ o, w1.frozen? ⟨w.heap.size, o, none⟩ = false := fun o => by
      rw [hb1.frozen (p := ⟨w.heap.size, o, none⟩) (by simp)]
      exact World.frozen?_alloc_at _ _ _ _ rfl
    have r0 := hz 0
    have r1 := hz 1
    have r2 := hz 2
    have r3 := hz 3
    have r4 := hz 4
    have r5 := hz 5
    have r6 := hz 6
    simp at r0 r1 r2 r3 r4 r5 r6
    have z0 := hfz 0
    have z1 := hfz 1
    have z2 := hfz 2
    have z3 := hfz 3
    have z4 := hfz 4
    have z5 := hfz 5
    have z6 := hfz 6
    have hl1 : w.heap.size < w1.heap.size := by have := hb1.size; simp at this; omega
    rw [World.size_alloc] at hyes
    have HNO : Hid (r = none → ∃ t p, er = .iface t p) := hno
    clear hz hfz hb1 HT
    cases hr : r with
    | none =>
      obtain ⟨t, p, rfl⟩ := hno hr
      clear hno hyes HNO
      go_wp2
      exact bodyPost_ret (v := .tuple #[.agg #[.string nm, .int .i64 st, .int .i64 va, .int .i64 vb, .int .i64 vc, .bool bare, .slice fa fk fc], .iface t p]) (by simp [results, Tryz.results52, go_sem, r0, r1, r2, r3, r4, r5, r6]) rfl ⟨⟨nm, st, va, vb, vc, bare, fa, fk, fc, .iface t p, rfl, ⟨fun _ => ⟨t, p, rfl⟩, fun q h => (by rw [hr] at h; cases h)⟩⟩, (fin7q HB1.out (World.ownsRow_nil _ (w.heap.size + 1) 9 1) (by omega) _ _ _ _ _ _ _).1⟩
    | some q =>
      obtain ⟨rfl, x1, x2, x3, x4, x5, x6, F, hF, hFk, hown⟩ := hyes q hr
      have HO : Hid (w1.ownsRow (w.heap.size + 1) 9 1 (.slice fa fk fc) F.length (F.map Value.string)) := hown
      have HX : Hid (nm.data.toList = q.name ∧ st = stOf q.c q.v ∧ va = q.v / 1000000 ∧ vb = q.v / 1000 % 1000 ∧ vc = q.v % 1000 ∧ bare = q.bare ∧ datas F = q.feats ∧ F.length = fk) := ⟨x1, x2, x3, x4, x5, x6, hF, hFk⟩
      clear hno hyes HNO x1 x2 x3 x4 x5 x6 hF hFk hown
      go_wp2
      refine bodyPost_ret (v := .tuple #[.agg #[.string nm, .int .i64 st, .int .i64 va, .int .i64 vb, .int .i64 vc, .bool bare, .slice fa fk fc], .nilIface]) (by simp [results, Tryz.results52, go_sem, r0, r1, r2, r3, r4, r5, r6]) rfl ⟨?_, (fin7q HB1.out HO.out (by omega) _ _ _ _ _ _ _).1⟩
      refine ⟨nm, st, va, vb, vc, bare, fa, fk, fc, .nilIface, rfl, ⟨fun h => (by rw [hr] at h; cases h), fun q' h => ?_⟩⟩
      rw [hr] at h
      obtain rfl := Option.some.inj h
      obtain ⟨x1, x2, x3, x4, x5, x6, x7, x8⟩ := HX.out
      exact ⟨rfl, x1, x2, x3, x4, x5, x6, F, x7, x8, (fin7q HB1.out HO.out (by omega) _ _ _ _ _ _ _).2⟩)

theorem proot_any (g : Nat) (k : Int) (P : List ByteArray) (w : World) (t0 t1 : TypeId) (p0 p1 : Value) (m : Int) (hP : 0 < P.length) (hlen : P.length ≤ 1047000) (hg : g < w.heap.size) (HC : ∀ j (h : j < P.length), w.cell? ⟨g, j, none⟩ = some (.string P[j]))
    (HSZ : ∀ x ∈ P, x.size ≤ 1048576) (S : Sent w) (G : Glob t0 t1 p0 p1 m w) :
    Calls Tryz.prog 52 #[.int .i64 k, .slice (some ⟨g, 0, none⟩) P.length P.length] w fun e w' => AskEnds w.heap.size (rootP k (datas P)) e w' ∧ Below w.heap.size w w' := by
  match P, hP, hlen, HC, HSZ with
  | a :: Q, _, hlen, HC, HSZ =>
    have d0 : w.cell? ⟨g, 0, none⟩ = some (.string a) := HC 0 (by simp)
    have hl : (a :: Q).length = Q.length + 1 := rfl
    rw [hl]
    by_cases hk : 4 < k
    · have e : rootP k (datas (a :: Q)) = none := by unfold rootP; rw [if_pos hk]
      rw [e]; exact proot_many g Q.length k w hk S
    · by_cases hr : a.data.toList = rootW
      · have e : rootP k (datas (a :: Q)) = askP (datas Q) := by
          unfold rootP; rw [if_neg hk, if_pos (by show some a.data.toList = _; rw [hr])]; rfl
        rw [e]
        refine proot_go g Q.length k a _ w hk hg d0 (word_is hr) (fun W o cap hW ho hcap => ?_)
        refine ask_any g o cap Q W t0 t1 p0 p1 m hcap (by simp at hlen; omega) (Nat.lt_of_lt_of_le hg hW.size) (fun j hj => ?_) (fun x hx => HSZ x (List.mem_cons_of_mem _ hx)) (S.on hW) (G.on hW G.lt)
        rcases ho with rfl | ho
        · rw [hW.cell (p := ⟨g, 1 + j, none⟩) hg]
          have := HC (j + 1) (by simp; omega)
          rw [Nat.add_comm 1 j]; simpa using this
        · omega
      · have e : rootP k (datas (a :: Q)) = none := by
          unfold rootP; rw [if_neg hk, if_neg (show ¬ (datas (a :: Q)).head? = some rootW from fun h => hr (Option.some.inj h))]
        rw [e]; exact proot_word g Q.length k a w hk hg d0 (word_not hr) S

end Go.Proofs.YtnmclolbndohiaaGreatDoor

/-
  The walk of the function literal of the code's 'ReadRequest': one root more.
-/
namespace Go.Proofs.YtnmclolbndohiaaGreatDoor
open Go.RowKit
open Ver
attribute [local go_sem ↓] Go.wp_at_zero Go.wp_at_succ

structure CAsk where
  name : ByteArray
  st : Int
  a : Int
  b : Int
  c : Int
  bare : Bool
  fv : Value
  feats : List ByteArray
def CAsk.cells (n : CAsk) : List Value := [.string n.name, .int .i64 n.st, .int .i64 n.a, .int .i64 n.b, .int .i64 n.c, .bool n.bare, n.fv]
def CAsk.val (n : CAsk) : Value := .agg #[.string n.name, .int .i64 n.st, .int .i64 n.a, .int .i64 n.b, .int .i64 n.c, .bool n.bare, n.fv]
theorem CAsk.len (n : CAsk) : n.cells.length = 7 := rfl
def CAsk.hold (n : CAsk) : Hold := ⟨9, 1, n.fv, n.feats.length, n.feats.map Value.string⟩
structure AskRel (c : CAsk) (n : PNeed) : Prop where
  name : c.name.data.toList = n.name
  bare : c.bare = n.bare
  st : c.st = stOf n.c n.v
  a : c.a = n.v / 1000000
  b : c.b = n.v / 1000 % 1000
  d : c.c = n.v % 1000
  feats : datas c.feats = n.feats
def askRow (rv : Value) (rs : List CAsk) : Hold := ⟨103, 7, rv, rs.length, rs.flatMap CAsk.cells⟩
/-- The roots so far: the variable at cb, its row, and the rows of the features asked for. -/
def askHolds (cb : Nat) (rv : Value) (rs : List CAsk) : List Hold := boxed 67 1 cb [rv] :: askRow rv rs :: rs.map CAsk.hold

theorem Tryz.infoCAsk : (Tryz.prog.info? 103).map (fun i => (i.zero, i.size, i.bytes)) = some (some (.agg #[.string ByteArray.empty, .int .i64 0, .int .i64 0, .int .i64 0, .int .i64 0, .bool false, .slice none 0 0]), 7, 80) := by kernel_rfl

/-- One root more. -/
theorem askAdd {B cb gg cq rc n : Nat} {ra : Option Addr} {rv : Value} {rs : List CAsk} {nn : CAsk} {R : List Hold} {w wz w4 : World} (h : Forest B w (nn.hold :: (R ++ askHolds cb rv rs))) (hn : rs.length = n) (hrv : rv = .slice ra n rc) (hbz : Below w.heap.size w wz) (hgrow : wz.grownBy w4 (Value.slice ra n rc).ownBlock) (hat : (Value.slice ra n rc).ownBlock = some gg ∨ wz.heap.size ≤ gg)
    (hown : w4.ownsRow B 103 7 (.slice (some ⟨gg, 0, none⟩) (n + 1) cq) (n + 1) (rs.flatMap CAsk.cells ++ nn.cells)) :
    Forest B (w4.setCell ⟨cb, 0, none⟩ (.slice (some ⟨gg, 0, none⟩) (n + 1) cq)) (R ++ askHolds cb (.slice (some ⟨gg, 0, none⟩) (n + 1) cq) (rs ++ [nn])) := by
  subst hn hrv
  have hfa := h.on hbz
  have hr : (⟨103, 7, .slice (some ⟨gg, 0, none⟩) (rs.length + 1) cq, rs.length + 1, rs.flatMap CAsk.cells ++ nn.cells⟩ : Hold).own B w4 := hown
  have hp1 : (nn.hold :: (R ++ askHolds cb (.slice ra rs.length rc) rs)).Perm (askRow (.slice ra rs.length rc) rs :: boxed 67 1 cb [.slice ra rs.length rc] :: nn.hold :: (R ++ rs.map CAsk.hold)) := by
    classical
    rw [List.perm_iff_count]
    intro x
    simp only [askHolds, List.count_append, List.count_cons]
    omega
  have hf := (hfa.perm hp1).grow hgrow hr (fun k hk => by
    have e : gg = k := by simpa [Value.ownBlock] using hk
    subst e
    exact hat)
  have hf2 := hf.perm (List.Perm.swap _ _ _)
  have hf3 : Forest B w4 (⟨67, 1, .slice (some ⟨cb, 0, none⟩) 1 1, 1, [.slice ra rs.length rc]⟩ :: _) := hf2
  have hf4 := hf3.set 0 (.slice (some ⟨gg, 0, none⟩) (rs.length + 1) cq)
  refine hf4.perm ?_
  classical
  rw [List.perm_iff_count]
  intro x
  simp only [askHolds, askRow, boxed, List.map_append, List.map_cons, List.map_nil, List.length_append, List.length_cons, List.length_nil, List.flatMap_append, List.flatMap_cons, List.flatMap_nil, List.append_nil, List.count_append, List.count_cons, List.count_nil, List.set_cons_zero, Nat.zero_add]
  omega

def ReqEnds (B cb : Nat) (R : List Hold) (o : Option (List PNeed)) (e : Ending) (w' : World) : Prop :=
  (o = none → ∃ t p, e = .returned (.iface t p)) ∧ ∀ qs, o = some qs → e = .returned .nilIface ∧ ∃ rv rs, Forest B w' (R ++ askHolds cb rv rs) ∧ All2 AskRel rs qs

set_option maxHeartbeats 3200000 in
set_option maxRecDepth 100000 in
theorem req1_any (B cb g n : Nat) (k : Int) (R : List Hold) (rv : Value) (rs : List CAsk) (qs : List PNeed) (on : Option PNeed) (w : World) (h : Forest B w (R ++ askHolds cb rv rs)) (ha : All2 AskRel rs qs) (hB : B ≤ w.heap.size) (hl : rs.length ≤ 4)
    (HP : Hid (Calls Tryz.prog 52 #[.int .i64 k, .slice (some ⟨g, 0, none⟩) n n] w fun e w' => AskEnds w.heap.size on e w' ∧ Below w.heap.size w w')) :
    Calls Tryz.prog 51 #[.int .i64 k, .slice (some ⟨g, 0, none⟩) n n, .pointer (some ⟨cb, 0, none⟩)] w fun e w' => ReqEnds B cb R (on.map fun q => qs ++ [q]) e w' ∧ Below B w w' := by
  obtain ⟨j0, hj0, hy0, hy1, hy2⟩ := info_parts Tryz.infoCAsk
  have HF : Hid (Forest B w (R ++ askHolds cb rv rs)) := h
  have hbx := h.own (boxed 67 1 cb [rv]) (by simp [askHolds])
  have hro := h.own (askRow rv rs) (by simp [askHolds])
  obtain ⟨ra, rc, hrv⟩ := (RowR.of_owns hro).form
  have hrv' : rv = .slice ra rs.length rc := hrv
  have cc : w.cell? ⟨cb, 0, none⟩ = some rv := boxed_cell hbx 0 (by omega)
  rw [hrv'] at cc
  have hcl := (boxed_lt hbx).2
  have hcB := (boxed_lt hbx).1
  have cf : w.frozen? ⟨cb, 0, none⟩ = false := by
    have h' : w.ownsRow B 67 1 (.slice (some ⟨cb, 0, none⟩) 1 1) 1 [rv] := hbx
    exact h'.frozenAt _
  have ak : (Value.slice ra rs.length rc).ownBlock ≠ some cb := fun e => by
    have hpf := h.perm (show (R ++ askHolds cb rv rs).Perm (boxed 67 1 cb [rv] :: askRow rv rs :: (R ++ rs.map CAsk.hold)) by
      classical
      rw [List.perm_iff_count]; intro x; simp only [askHolds, List.count_append, List.count_cons]; omega)
    refine hpf.alone (k := cb) rfl (mem_blocks.2 ⟨askRow rv rs, by simp, ?_⟩)
    show rv.ownBlock = some cb
    rw [hrv']; exact e
  have HO : Hid (w.ownsRow B 103 7 (.slice ra rs.length rc) rs.length (rs.flatMap CAsk.cells)) := by
    have h' : w.ownsRow B 103 7 rv rs.length (rs.flatMap CAsk.cells) := hro
    rw [hrv'] at h'; exact h'
  have HRV : Hid (rv = .slice ra rs.length rc) := hrv'
  have HA : Hid (All2 AskRel rs qs) := ha
  obtain ⟨n0, hn0⟩ : ∃ n, rs.length = n := ⟨_, rfl⟩
  have HN0 : Hid (rs.length = n0) := hn0
  rw [hn0] at cc hl ak HO HRV
  clear h hbx hro hrv hrv' hn0 ha
  go_enter Tryz.func51, Tryz.ntmps51
  go_wp2_with fail
  refine Calls.mono HP.out ?_
  rintro e w1 ⟨⟨nm, st, va, vb, vc, bare, fa, fk, fc, er, rfl, hno, hyes⟩, hb1⟩
  have HB1 : Hid (Below w.heap.size w w1) := hb1
  have hs1 := hb1.size
  have her : (er = .nilIface ∧ Hid (∀ e w', (∃ q, on = some q ∧ e = .returned .nilIface ∧ ∃ rv rs', Forest B w' (R ++ askHolds cb rv rs') ∧ All2 AskRel rs' (qs ++ [q])) → ReqEnds B cb R (on.map fun q => qs ++ [q]) e w') ∧ Hid (∃ q, on = some q)) ∨ ∃ t p, er = .iface t p ∧ Hid (∀ w', ReqEnds B cb R (on.map fun q => qs ++ [q]) (.returned (.iface t p)) w') := by
    cases hr : on with
    | none =>
      obtain ⟨t, p, e⟩ := hno hr
      exact Or.inr ⟨t, p, e, fun w' => ⟨fun _ => ⟨t, p, rfl⟩, fun q h => (by cases h)⟩⟩
    | some q =>
      refine Or.inl ⟨(hyes q hr).1, fun e w' h => ⟨fun h' => (by cases h'), fun q' h' => ?_⟩, q, rfl⟩
      obtain ⟨q2, h1, h2, h3⟩ := h
      obtain rfl := Option.some.inj h1
      obtain rfl := Option.some.inj h'
      exact ⟨h2, h3⟩
  have HYES : Hid (∀ q, on = some q → ∃ F : List ByteArray, AskRel ⟨nm, st, va, vb, vc, bare, .slice fa fk fc, F⟩ q ∧ F.length = fk ∧ w1.ownsRow w.heap.size 9 1 (.slice fa fk fc) F.length (F.map Value.string)) := fun q hq => by
    obtain ⟨_, x1, x2, x3, x4, x5, x6, F, hF, hFk, hown⟩ := hyes q hq
    exact ⟨F, ⟨x1, x6, x2, x3, x4, x5, hF⟩, hFk, hown⟩
  have cc1 := (hb1.cell (p := ⟨cb, 0, none⟩) hcl).trans cc
  have cf1 := (hb1.frozen (p := ⟨cb, 0, none⟩) hcl).trans cf
  have hcl1 : cb < w1.heap.size := by omega
  have HO1 : Hid (w1.ownsRow B 103 7 (.slice ra n0 rc) n0 (rs.flatMap CAsk.cells)) := Hold.on (r := ⟨103, 7, .slice ra n0 rc, n0, rs.flatMap CAsk.cells⟩) HO.out hb1
  have HF0 : Hid (Forest B w (R ++ askHolds cb rv rs)) := HF.out
  clear hb1 HP hno hyes cc cf HO HF
  rcases her with ⟨rfl, HR1, HR2⟩ | ⟨t, p, rfl, HR1⟩
  · go_wp2_with (at_builtin; refine wpList_append_lies _ (by rfl) _ _ _ (by rfl) B 103 j0 _ 7 80 Tryz.underlying67 hj0 hy0 hy1 hy2 rfl (by omega) (.slice ra n0 rc) n0 (rs.flatMap CAsk.cells) (by rfl) ((HO1.out.alloc _).alloc _) ⟨w1.heap.size + 1, 0, none⟩ 1 1 [.string nm, .int .i64 st, .int .i64 va, .int .i64 vb, .int .i64 vc, .bool bare, .slice fa fk fc] (by rfl) (by rfl) (World.news_of_block (cs := #[.string nm, .int .i64 st, .int .i64 va, .int .i64 vb, .int .i64 vc, .bool bare, .slice fa fk fc]) (t := 103) (fr := (0, 0)) (by have := heap_alloc_new (w1.alloc (.cells #[.string nm, .int .i64 st, .int .i64 va, .int .i64 vb, .int .i64 vc, .bool bare, .slice fa fk fc] 103)) (.cells #[.string nm, .int .i64 st, .int .i64 va, .int .i64 vb, .int .i64 vc, .bool bare, .slice fa fk fc] 103); simpa using this)) (by simp [Value.oneCell']) (by omega) (by unfold maxLen; omega) (by omega) (by simp; omega) (w1.heap.size + 1 + 1) (by simp) ?_)
    intro gg cq w4 hown1 hgrow hat hlt3
    have hfz3 : w4.frozen? ⟨cb, 0, none⟩ = false := (hgrow.frozen_far ⟨cb, 0, none⟩ (by simp; omega) (Ne.symm ak)).trans ((World.frozen?_alloc_past _ _ _ (by simp; omega)).trans ((World.frozen?_alloc_past _ _ _ hcl1).trans cf1))
    have hc3 : w4.cell? ⟨cb, 0, none⟩ = some (.slice ra n0 rc) := (hgrow.cell_far ⟨cb, 0, none⟩ (by simp; omega) (Ne.symm ak)).trans ((World.cell?_alloc_past _ _ _ (by simp; omega)).trans ((World.cell?_alloc_past _ _ _ hcl1).trans cc1))
    have HB5 : Hid (Below B w (w4.setCell ⟨cb, 0, none⟩ (.slice (some ⟨gg, 0, none⟩) (n0 + 1) cq))) := ((((HB1.out.mono hB).alloc (by omega) _).alloc (by simp; omega) _).grown hgrow (by simp; omega) (fun j hj => (HO1.out.lt j hj).1)).setCell hcB _
    have HG : Hid (∀ q, on = some q → ∃ rv rs', Forest B (w4.setCell ⟨cb, 0, none⟩ (.slice (some ⟨gg, 0, none⟩) (n0 + 1) cq)) (R ++ askHolds cb rv rs') ∧ All2 AskRel rs' (qs ++ [q])) := fun q hq => by
      obtain ⟨F, hrel, hFk, hown⟩ := HYES.out q hq
      have hfo : Forest B w1 ((CAsk.hold ⟨nm, st, va, vb, vc, bare, .slice fa fk fc, F⟩) :: (R ++ askHolds cb rv rs)) := HF0.out.add HB1.out (r := CAsk.hold ⟨nm, st, va, vb, vc, bare, .slice fa fk fc, F⟩) hown (Nat.le_refl _) hB
      exact ⟨_, _, askAdd (nn := ⟨nm, st, va, vb, vc, bare, .slice fa fk fc, F⟩) hfo HN0.out HRV.out (((Below.refl _ _).alloc (Nat.le_refl _) _).alloc (by simp) _) hgrow (hat.imp id (fun e => by rw [e]; simp)) hown1, HA.out.snoc hrel⟩
    clear hown1 hgrow hat hlt3 HO1 HYES HF0
    go_wp2
    go_ret
    obtain ⟨q, hq⟩ := HR2.out
    exact ⟨HR1.out _ _ ⟨q, hq, rfl, HG.out q hq⟩, HB5.out⟩
  · go_wp2_with (at_builtin; refine wpList_append_lies _ (by rfl) _ _ _ (by rfl) B 103 j0 _ 7 80 Tryz.underlying67 hj0 hy0 hy1 hy2 rfl (by omega) (.slice ra n0 rc) n0 (rs.flatMap CAsk.cells) (by rfl) ((HO1.out.alloc _).alloc _) ⟨w1.heap.size + 1, 0, none⟩ 1 1 [.string nm, .int .i64 st, .int .i64 va, .int .i64 vb, .int .i64 vc, .bool bare, .slice fa fk fc] (by rfl) (by rfl) (World.news_of_block (cs := #[.string nm, .int .i64 st, .int .i64 va, .int .i64 vb, .int .i64 vc, .bool bare, .slice fa fk fc]) (t := 103) (fr := (0, 0)) (by have := heap_alloc_new (w1.alloc (.cells #[.string nm, .int .i64 st, .int .i64 va, .int .i64 vb, .int .i64 vc, .bool bare, .slice fa fk fc] 103)) (.cells #[.string nm, .int .i64 st, .int .i64 va, .int .i64 vb, .int .i64 vc, .bool bare, .slice fa fk fc] 103); simpa using this)) (by simp [Value.oneCell']) (by omega) (by unfold maxLen; omega) (by omega) (by simp; omega) (w1.heap.size + 1 + 1) (by simp) ?_)
    intro gg cq w4 hown1 hgrow hat hlt3
    have hfz3 : w4.frozen? ⟨cb, 0, none⟩ = false := (hgrow.frozen_far ⟨cb, 0, none⟩ (by simp; omega) (Ne.symm ak)).trans ((World.frozen?_alloc_past _ _ _ (by simp; omega)).trans ((World.frozen?_alloc_past _ _ _ hcl1).trans cf1))
    have hc3 : w4.cell? ⟨cb, 0, none⟩ = some (.slice ra n0 rc) := (hgrow.cell_far ⟨cb, 0, none⟩ (by simp; omega) (Ne.symm ak)).trans ((World.cell?_alloc_past _ _ _ (by simp; omega)).trans ((World.cell?_alloc_past _ _ _ hcl1).trans cc1))
    have HB5 : Hid (Below B w (w4.setCell ⟨cb, 0, none⟩ (.slice (some ⟨gg, 0, none⟩) (n0 + 1) cq))) := ((((HB1.out.mono hB).alloc (by omega) _).alloc (by simp; omega) _).grown hgrow (by simp; omega) (fun j hj => (HO1.out.lt j hj).1)).setCell hcB _
    have HG : Hid (∀ q, on = some q → ∃ rv rs', Forest B (w4.setCell ⟨cb, 0, none⟩ (.slice (some ⟨gg, 0, none⟩) (n0 + 1) cq)) (R ++ askHolds cb rv rs') ∧ All2 AskRel rs' (qs ++ [q])) := fun q hq => by
      obtain ⟨F, hrel, hFk, hown⟩ := HYES.out q hq
      have hfo : Forest B w1 ((CAsk.hold ⟨nm, st, va, vb, vc, bare, .slice fa fk fc, F⟩) :: (R ++ askHolds cb rv rs)) := HF0.out.add HB1.out (r := CAsk.hold ⟨nm, st, va, vb, vc, bare, .slice fa fk fc, F⟩) hown (Nat.le_refl _) hB
      exact ⟨_, _, askAdd (nn := ⟨nm, st, va, vb, vc, bare, .slice fa fk fc, F⟩) hfo HN0.out HRV.out (((Below.refl _ _).alloc (Nat.le_refl _) _).alloc (by simp) _) hgrow (hat.imp id (fun e => by rw [e]; simp)) hown1, HA.out.snoc hrel⟩
    clear hown1 hgrow hat hlt3 HO1 HYES HF0 HG
    go_wp2
    go_ret
    exact ⟨HR1.out _, HB5.out⟩

end Go.Proofs.YtnmclolbndohiaaGreatDoor

/-
  The walk of the code's 'ReadRequest'.
-/
namespace Go.Proofs.YtnmclolbndohiaaGreatDoor
open Go.RowKit
open Ver

def stepQ (qs : List PNeed) (ws : List (List UInt8)) (k : Int) : Option (List PNeed) := (rootP k ws).map fun q => qs ++ [q]
structure QAt (B cb : Nat) (rv : Value) (rs : List CAsk) (qs : List PNeed) (k : Int) (t0 t1 : TypeId) (p0 p1 : Value) (m : Int) (w : World) : Prop where
  forest : Forest B w (askHolds cb rv rs)
  rel : All2 AskRel rs qs
  num : (qs.length : Int) + 1 = k
  few : qs.length ≤ 4
  base : B ≤ w.heap.size
  sent : Sent w
  glob : Glob t0 t1 p0 p1 m w
  low : ∀ k ∈ sentL, k < B
def QSt (B cb : Nat) (t0 t1 : TypeId) (p0 p1 : Value) (m : Int) (qs : List PNeed) (k : Int) (w : World) : Prop := ∃ rv rs, QAt B cb rv rs qs k t0 t1 p0 p1 m w

theorem takesQ (B cb : Nat) (t0 t1 : TypeId) (p0 p1 : Value) (m : Int) (hgm : 16 < B) : TakesQ (QSt B cb t0 t1 p0 p1 m) stepQ cb B m where
  on := fun s k w w' ⟨rv, rs, h⟩ hb => ⟨rv, rs, h.forest.on hb, h.rel, h.num, h.few, Nat.le_trans h.base hb.size, h.sent.on hb, h.glob.on hb h.glob.lt, h.low⟩
  sent := fun s k w ⟨rv, rs, h⟩ => h.sent
  max := fun s k w ⟨rv, rs, h⟩ => h.glob.c2
  base := fun s k w ⟨rv, rs, h⟩ => h.base
  take := fun s k w0 w g P ⟨rv, rs, h⟩ hb hg hP hPl hsz hown => by
    have hS := h.sent.on hb
    have hG := h.glob.on hb h.glob.lt
    have hl : rs.length = s.length := h.rel.len
    refine (req1_any B cb g P.length k [] rv rs s (rootP k (datas P)) w (h.forest.on hb) h.rel (Nat.le_trans h.base hb.size) (by have := h.few; omega) (proot_any g k P w t0 t1 p0 p1 m hP (by omega) (hown.lt g rfl).2 (fun j hj => ?_) (fun x hx => by have := hsz x hx; omega) hS hG)).mono fun e w' ⟨he, hbw⟩ => ?_
    · rw [World.ownsRow.cellAt hown j (by omega)]; simp [hj]
    · refine ⟨⟨he.1, fun s' hs' => ?_⟩, hbw, fun _ => hS.above hbw h.low⟩
      obtain ⟨e1, rv', rs', h1, h2⟩ := he.2 s' hs'
      unfold stepQ at hs'
      cases hr : rootP k (datas P) with
      | none => rw [hr] at hs'; cases hs'
      | some q =>
        rw [hr] at hs'
        obtain rfl := Option.some.inj hs'
        have hk4 : ¬ 4 < k := fun h4 => by unfold rootP at hr; rw [if_pos h4] at hr; cases hr
        have hnum := h.num
        exact ⟨e1, rv', rs', h1, h2, by simp; omega, by simp; omega, Nat.le_trans (Nat.le_trans h.base hb.size) hbw.size, hS.above hbw h.low, hG.on hbw hgm, h.low⟩

/-- The first root line, from k on, whose package is not there. -/
def missQ (names : List (List UInt8)) : List PNeed → Int → Option Int
  | [], _ => none
  | q :: r, k => if idxL names q.name < 0 then some k else missQ names r (k + 1)
def ReqREnds (B : Nat) (names : List (List UInt8)) (o : Except (Int × Int) (List PNeed)) (e : Ending) (w' : World) : Prop :=
  match o with
  | .error (n, l) => WrongEnd (.slice none 0 0) n l e w'
  | .ok qs => match missQ names qs 1 with
    | some l => WrongEnd (.slice none 0 0) 3 l e w'
    | none => ∃ cb rv rs, e = .returned (.tuple #[rv, .nilIface]) ∧ Forest B w' (askHolds cb rv rs) ∧ All2 AskRel rs qs ∧ qs.length ≤ 4

theorem askNew (w : World) : Forest w.heap.size (w.alloc (.cells #[.slice none 0 0] 67)) (askHolds w.heap.size (.slice none 0 0) []) := by
  have f0 : Forest w.heap.size (w.alloc (.cells #[.slice none 0 0] 67)) [] := ⟨fun r hr => (nomatch hr), by simp [blocksOf]⟩
  have f1 := f0.cons (r := askRow (.slice none 0 0) []) (World.ownsRow_nil _ _ _ _) (fun k hk => by cases hk)
  exact f1.cons (r := boxed 67 1 w.heap.size [.slice none 0 0]) (boxed_new (cs := #[.slice none 0 0]) rfl (Nat.le_refl _)) (fun k hk hm => by simp [blocksOf, askRow, Value.ownBlock] at hm)

set_option maxHeartbeats 3200000 in
set_option maxRecDepth 100000 in
theorem readReq_any (text : ByteArray) (names : List (List UInt8)) (ib : Nat) (w : World) (t0 t1 : TypeId) (p0 p1 : Value) (m : Int) (S : Sent w) (G : Glob t0 t1 p0 p1 m w)
    (HH : Hid (∀ (W : World) (x : ByteArray), Below w.heap.size w W → Calls Tryz.prog 30 #[.pointer (some ⟨ib, 0, none⟩), .string x] W fun e w' => e = .returned (.bool (decide (0 ≤ idxL names x.data.toList))) ∧ Below W.heap.size W w')) :
    Calls Tryz.prog 29 #[.string text, .func (.func 30) #[.pointer (some ⟨ib, 0, none⟩)] #[]] w fun e w' => ReqREnds w.heap.size names (eachP stepQ [] text.data.toList) e w' ∧ Below w.heap.size w w' := by
  have hb0 : Below w.heap.size w (w.alloc (.cells #[.slice none 0 0] 67)) := (Below.refl _ _).alloc (Nat.le_refl _) _
  have HST : Hid (QSt w.heap.size w.heap.size t0 t1 p0 p1 m [] 1 (w.alloc (.cells #[.slice none 0 0] 67))) :=
    ⟨_, _, askNew w, All2.nil _, rfl, by simp, by simp, S.on hb0, G.on hb0 G.lt, S.lt⟩
  have HEA : Hid (Calls Tryz.prog 50 #[.string text, .func (.func 51) #[] #[.pointer (some ⟨w.heap.size, 0, none⟩)]] (w.alloc (.cells #[.slice none 0 0] 67)) fun e w' => EachEnds (fun s w2 => ∃ k, QSt w.heap.size w.heap.size t0 t1 p0 p1 m s k w2) (eachP stepQ [] text.data.toList) e w' ∧ Below w.heap.size (w.alloc (.cells #[.slice none 0 0] 67)) w') :=
    each_takeQ _ stepQ w.heap.size w.heap.size m (takesQ _ _ t0 t1 p0 p1 m G.lt) [] text _ HST.out
  have HB0 : Hid (Below w.heap.size w (w.alloc (.cells #[.slice none 0 0] 67))) := hb0
  have HS : Hid (Sent w) := S
  generalize eachP stepQ [] text.data.toList = o at *
  clear S G hb0 HST
  go_enter Tryz.func29, Tryz.ntmps29
  go_wp2_with fail
  refine Calls.mono HEA.out ?_
  rintro e w1 ⟨he, hb1⟩
  have HB1 : Hid (Below w.heap.size w w1) := HB0.out.trans hb1
  clear HEA hb1 HB0
  cases o with
  | error nl =>
    obtain ⟨n, l⟩ := nl
    obtain ⟨wb, rfl, h1, h2, h3⟩ := he
    have HE : Hid (wb < w1.heap.size ∧ w1.cell? ⟨wb, 0, none⟩ = some (.int .i64 n) ∧ w1.cell? ⟨wb, 1, none⟩ = some (.int .i64 l)) := ⟨h1, h2, h3⟩
    clear h1 h2 h3
    go_wp2
    go_ret2
    exact ⟨⟨wb, rfl, HE.out.1, HE.out.2.1, HE.out.2.2⟩, HB1.out⟩
  | ok qs =>
    obtain ⟨rfl, k0, rv, rs, hat⟩ := he
    have HAT : Hid (QAt w.heap.size w.heap.size rv rs qs k0 t0 t1 p0 p1 m w1) := hat
    have hbx := hat.forest.own (boxed 67 1 w.heap.size [rv]) (by simp [askHolds])
    have hro := hat.forest.own (askRow rv rs) (by simp [askHolds])
    obtain ⟨ra, rc, hrv⟩ := (RowR.of_owns hro).form
    have hrv' : rv = .slice ra rs.length rc := hrv
    have cc : w1.cell? ⟨w.heap.size, 0, none⟩ = some rv := boxed_cell hbx 0 (by omega)
    rw [hrv'] at cc
    have hcl := (boxed_lt hbx).2
    have HRV : Hid (rv = .slice ra rs.length rc) := hrv'
    have HFV : Hid (∀ x ∈ rs, ∃ a b c, x.fv = .slice a b c) := fun x hx => by
      obtain ⟨a, c, h⟩ := (RowR.of_owns (hat.forest.own x.hold (by simp only [askHolds, List.mem_cons, List.mem_map]; exact Or.inr (Or.inr ⟨x, hx, rfl⟩)))).form
      exact ⟨a, _, c, h⟩
    have hrow := RowR.of_owns hro
    have HROW : Hid (RowR w1 (.slice ra rs.length rc) rs.length 7 (rs.flatMap CAsk.cells)) := by
      have h' : RowR w1 rv rs.length 7 (rs.flatMap CAsk.cells) := hrow
      rw [hrv'] at h'; exact h'
    have hl4 : rs.length ≤ 4 := by have := hat.rel.len; have := hat.few; omega
    have HREL : Hid (All2 AskRel rs qs) := hat.rel
    have HQL : Hid (rs.length = qs.length) := hat.rel.len
    obtain ⟨n, hn⟩ : ∃ n, rs.length = n := ⟨_, rfl⟩
    have HNN : Hid (rs.length = n) := hn
    rw [hn] at cc hl4 HROW HRV
    clear hat hbx hro hrv hrv' hrow hn
    rcases HROW.out.2 with ⟨hv, h0⟩ | ⟨mg, cap, hv, hmg, hmc⟩
    · obtain ⟨rfl, rfl, rfl⟩ : ra = none ∧ n = 0 ∧ rc = 0 := by simpa using hv
      have HF : Hid (missQ names qs 1 = none) := by
        have : qs = [] := List.length_eq_zero_iff.1 (by rw [← HQL.out]; exact HNN.out)
        rw [this]; rfl
      clear HROW hv h0 HH
      go_wp2
      refine wp_loop_rounds 1 ?_
      rw [rounds_succ]
      go_wp2
      go_ret2
      refine ⟨?_, HB1.out⟩
      show match missQ names qs 1 with
        | some l => _
        | none => _
      rw [HF.out]
      exact ⟨_, rv, rs, by rw [HRV.out]; rfl, HAT.out.forest, HAT.out.rel, HAT.out.few⟩
    · obtain ⟨rfl, rfl⟩ : ra = some ⟨mg, 0, none⟩ ∧ rc = cap := by simpa using hv
      have HMC : Hid (∀ j, j < n → ∃ x, rs[j]? = some x ∧ ∀ o, o < 7 → w1.cell? ⟨mg, j * 7 + o, none⟩ = x.cells[o]?) := fun j hj => by
        have hj' : j < rs.length := by rw [HNN.out]; exact hj
        refine ⟨rs[j], List.getElem?_eq_getElem hj', fun o ho => ?_⟩
        rw [hmc _ (by omega)]
        have := flat_at CAsk.cells 7 CAsk.len rs j o rs[j] (by simp [hj']) ho
        rw [Nat.mul_comm] at this
        exact this
      clear HROW hv hmc
      go_wp2
      go_loopw [18] (fun i wr => ∃ k : Nat, k ≤ n ∧ i = .int .i64 k ∧ Below w1.heap.size w1 wr ∧ missQ names qs 1 = missQ names (qs.drop k) ((k : Int) + 1)) (fun i _ => n - (intOf i).toNat)
      case atStart => exact ⟨0, by omega, rfl, Below.refl _ _, rfl⟩
      case round =>
        obtain ⟨k, hk, rfl, hbr, hfi⟩ := hrel
        have HBR : Hid (Below w1.heap.size w1 wr) := hbr
        have HFI : Hid (missQ names qs 1 = missQ names (qs.drop k) ((k : Int) + 1)) := hfi
        have hsr := hbr.size
        have HBW : Hid (Below w.heap.size w wr) := HB1.out.trans (hbr.mono (by have := HB1.out.size; omega))
        have cr := (hbr.cell (p := ⟨w.heap.size, 0, none⟩) hcl).trans cc
        have hclr : w.heap.size < wr.heap.size := by omega
        have hmgr : mg < wr.heap.size := by omega
        clear hfi
        by_cases hlt : k < n
        · obtain ⟨x, hx, hd⟩ := HMC.out k hlt
          have e0 := (hbr.cell (p := ⟨mg, k * 7 + 0, none⟩) hmg).trans (hd 0 (by omega))
          have e1 := (hbr.cell (p := ⟨mg, k * 7 + 1, none⟩) hmg).trans (hd 1 (by omega))
          have e2 := (hbr.cell (p := ⟨mg, k * 7 + 2, none⟩) hmg).trans (hd 2 (by omega))
          have e3 := (hbr.cell (p := ⟨mg, k * 7 + 3, none⟩) hmg).trans (hd 3 (by omega))
          have e4 := (hbr.cell (p := ⟨mg, k * 7 + 4, none⟩) hmg).trans (hd 4 (by omega))
          have e5 := (hbr.cell (p := ⟨mg, k * 7 + 5, none⟩) hmg).trans (hd 5 (by omega))
          have e6 := (hbr.cell (p := ⟨mg, k * 7 + 6, none⟩) hmg).trans (hd 6 (by omega))
          obtain ⟨fa, fk, fc, hfv⟩ := HFV.out x (List.mem_of_getElem? hx)
          have hkq : k < qs.length := by rw [← HQL.out, HNN.out]; exact hlt
          obtain ⟨y, hy⟩ : ∃ y, qs[k]? = some y := ⟨_, List.getElem?_eq_getElem hkq⟩
          have HDR : Hid (qs.drop k = y :: qs.drop (k + 1)) := by
            show _ = _
            rw [List.drop_eq_getElem_cons hkq]
            rw [List.getElem?_eq_getElem hkq] at hy
            rw [Option.some.inj hy]
          have HNM : Hid (x.name.data.toList = y.name) := (HREL.out.each k x y hx hy).name
          have HHK : Hid (∀ W : World, Below w.heap.size w W → Calls Tryz.prog 30 #[.pointer (some ⟨ib, 0, none⟩), .string x.name] W fun e w' => e = .returned (.bool (decide (0 ≤ idxL names x.name.data.toList))) ∧ Below W.heap.size W w') := fun W hW => HH.out W x.name hW
          rw [HNM.out] at HHK
          obtain ⟨xn, xs, xa, xb, xc, xbare, xf, xfs⟩ := x
          simp only [CAsk.cells, List.getElem?_cons_zero, List.getElem?_cons_succ, Nat.add_zero] at e0 e1 e2 e3 e4 e5 e6
          simp only at hfv HHK
          subst hfv
          have HMS : Hid (missQ names qs 1 = if idxL names y.name < 0 then some ((k : Int) + 1) else missQ names (qs.drop (k + 1)) ((k : Int) + 1 + 1)) := by
            show _ = _
            rw [HFI.out, HDR.out]; rfl
          generalize idxL names y.name = K at *
          clear hx hd hy hkq hbr HNM HDR HFI
          go_wp2_with fail
          refine (HHK.out _ (HBW.out.alloc (by omega) _)).mono ?_
          rintro e w3 ⟨rfl, hb3⟩
          have HB3 : Hid (Below w1.heap.size w1 w3) := (HBR.out.alloc hsr _).trans (hb3.mono (by simp; omega))
          have HBW3 : Hid (Below w.heap.size w w3) := (HBW.out.alloc (by omega) _).trans (hb3.mono (by simp; omega))
          clear hb3 HHK e0 e1 e2 e3 e4 e5 e6
          by_cases hK : K < 0
          · have e1 : decide (0 ≤ K) = false := decide_eq_false (by omega)
            rw [e1]
            have HF1 : Hid (missQ names qs 1 = some ((k : Int) + 1)) := HMS.out.trans (if_pos hK)
            obtain ⟨t, pp, hc⟩ := (HS.out.on HBW3.out).cell 2 (by decide)
            have hsw : w.heap.size ≤ w3.heap.size := HBW3.out.size
            clear e1 hK HMS HMC HH
            go_wp2
            go_region
            all_goals (try go_wp2)
            all_goals go_ret2
            all_goals (
              refine ⟨?_, (HBW3.out.alloc hsw _).drew⟩
              show match missQ names qs 1 with
                | some l => _
                | none => _
              rw [HF1.out]
              exact ⟨w3.heap.size, rfl, by simp, (World.cell?_alloc_at _ _ _ _ (by simp)).trans rfl, (World.cell?_alloc_at _ _ _ _ (by simp)).trans rfl⟩)
          · have e1 : decide (0 ≤ K) = true := decide_eq_true (by omega)
            rw [e1]
            have HF1 : Hid (missQ names qs 1 = missQ names (qs.drop (k + 1)) (((k + 1 : Nat) : Int) + 1)) := by
              show _ = _
              rw [HMS.out, if_neg hK]; push_cast; rfl
            clear e1 hK HMS
            go_wp2
            go_roundw
            case rel => exact ⟨k + 1, by omega, by go_num, HB3.out, HF1.out⟩
            case measure => simp [intOf]; omega
        · have HF1 : Hid (missQ names qs 1 = none) := by
            show _ = _
            rw [HFI.out, List.drop_of_length_le (by rw [← HQL.out, HNN.out]; omega)]; rfl
          have HFR : Hid (Forest w.heap.size wr (askHolds w.heap.size rv rs)) := HAT.out.forest.on HBR.out
          clear hbr HFI HH HMC
          go_wp2
          go_ret2
          refine ⟨?_, HBW.out⟩
          show match missQ names qs 1 with
            | some l => _
            | none => _
          rw [HF1.out]
          exact ⟨_, rv, rs, by rw [HRV.out]; rfl, HFR.out, HAT.out.rel, HAT.out.few⟩

end Go.Proofs.YtnmclolbndohiaaGreatDoor
