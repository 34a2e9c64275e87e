/-
  The walk of the code's 'Each', whatever the taker of the lines keeps.
-/
import Derived.Test.YtnmclolbndohiaaGreatDoorT28
namespace Go.Proofs.YtnmclolbndohiaaGreatDoor
open Go.RowKit
open Ver

section
variable {σ : Type} (step : σ → List (List UInt8) → Int → Option σ)
/-- Lines, taken one by one. -/
def stepAll : σ → List (List UInt8) → Int → Except Int σ
  | s, [], _ => .ok s
  | s, l :: r, k => match step s (cutL 32 l) k with
    | none => .error k
    | some t => stepAll t r (k + 1)
/-- What comes of the rest of a text, the line k being the next. -/
def contL (s : σ) (k : Int) (l : List UInt8) : Except (Int × Int) σ :=
  match stepAll step s (cutL 10 l).dropLast k with
  | .error j => .error (2, j)
  | .ok t => if (cutL 10 l).getLast?.getD [] ≠ [] then .error (2, k + ((cutL 10 l).length : Int) - 1) else .ok t
def eachP (s : σ) (l : List UInt8) : Except (Int × Int) σ := if 3000 < l.length then .error (1, 0) else contL step s 1 l

theorem contL_feed (s : σ) (k : Int) {l : List UInt8} (h : cutL 10 l = [l]) (hl : l ≠ []) : contL step s k l = .error (2, k) := by
  unfold contL; rw [h]; simp [stepAll, hl]
theorem contL_line (s : σ) (k : Int) (p r : List UInt8) (hp : ∀ b ∈ p, b ≠ 10) : contL step s k (p ++ 10 :: r) = match step s (cutL 32 p) k with
    | none => .error (2, k)
    | some t => contL step t (k + 1) r := by
  unfold contL
  rw [cutL_hit 10 p r hp]
  cases hc : cutL 10 r with
  | nil => exact absurd hc (cutL_ne 10 r)
  | cons a b =>
    rw [List.dropLast_cons_of_ne_nil (by simp), stepAll]
    cases step s (cutL 32 p) k with
    | none => rfl
    | some t =>
      simp only [List.getLast?_cons_cons, List.length_cons]
      have e : k + ((b.length + 1 + 1 : Nat) : Int) - 1 = k + 1 + ((b.length + 1 : Nat) : Int) - 1 := by push_cast; omega
      rw [e]
end

def EachEnds {σ : Type} (St : σ → World → Prop) (r : Except (Int × Int) σ) (e : Ending) (w' : World) : Prop :=
  match r with
  | .error (n, l) => ∃ wb, e = .returned (.iface 107 (.pointer (some ⟨wb, 0, none⟩))) ∧ wb < w'.heap.size ∧ w'.cell? ⟨wb, 0, none⟩ = some (.int .i64 n) ∧ w'.cell? ⟨wb, 1, none⟩ = some (.int .i64 l)
  | .ok s => e = .returned .nilIface ∧ St s w'

/-- What is asked of a taker: 'take' of the reader at rb. -/
structure Takes {σ : Type} (St : σ → World → Prop) (step : σ → List (List UInt8) → Int → Option σ) (rb B : Nat) (m : Int) : Prop where
  on : ∀ s w w', St s w → Below w.heap.size w w' → St s w'
  sent : ∀ s w, St s w → Sent w
  max : ∀ s w, St s w → w.cell? ⟨16, 0, none⟩ = some (.int .i64 m)
  base : ∀ s w, St s w → B ≤ w.heap.size
  take : ∀ s (k : Int) (w0 w : World) (g : Nat) (P : List ByteArray), St s w0 → Below w0.heap.size w0 w → w0.heap.size ≤ g → 0 < P.length → P.length ≤ 3001 → (∀ x ∈ P, x.size ≤ 3000) → w.ownsRow g 9 1 (.slice (some ⟨g, 0, none⟩) P.length P.length) P.length (P.map Value.string) →
    Calls Tryz.prog 64 #[.pointer (some ⟨rb, 0, none⟩), .int .i64 k, .slice (some ⟨g, 0, none⟩) P.length P.length] w fun e w' =>
      ((step s (datas P) k = none → ∃ t p, e = .returned (.iface t p)) ∧ ∀ s', step s (datas P) k = some s' → e = .returned .nilIface ∧ St s' w') ∧ Below B w w' ∧ (step s (datas P) k = none → Sent w')

def strLen : Value → Nat
  | .string b => b.size
  | _ => 0

theorem each_no {σ : Type} {St : σ → World → Prop} {r : Except (Int × Int) σ} {n l : Int} {wb : Nat} {w' : World} (h : r = .error (n, l)) (h1 : wb < w'.heap.size) (h2 : w'.cell? ⟨wb, 0, none⟩ = some (.int .i64 n)) (h3 : w'.cell? ⟨wb, 1, none⟩ = some (.int .i64 l)) : EachEnds St r (.returned (.iface 107 (.pointer (some ⟨wb, 0, none⟩)))) w' := by
  subst h; exact ⟨wb, rfl, h1, h2, h3⟩
theorem each_yes {σ : Type} {St : σ → World → Prop} {r : Except (Int × Int) σ} {s : σ} {w' : World} (h : r = .ok s) (h1 : St s w') : EachEnds St r (.returned .nilIface) w' := by
  subst h; exact ⟨rfl, h1⟩

set_option maxHeartbeats 3200000 in
set_option maxRecDepth 100000 in
theorem each_take {σ : Type} (St : σ → World → Prop) (step : σ → List (List UInt8) → Int → Option σ) (rb B : Nat) (m : Int) (HT : Hid (Takes St step rb B m)) (s0 : σ) (text : ByteArray) (w : World) (h0 : St s0 w) :
    Calls Tryz.prog 50 #[.string text, .func (.func 64) #[.pointer (some ⟨rb, 0, none⟩)] #[]] w fun e w' => EachEnds St (eachP step s0 text.data.toList) e w' ∧ Below B w w' := by
  have hsz0 : text.data.toList.length = text.size := by simp
  have hB := HT.out.base s0 w h0
  by_cases hlen : 3000 < text.size
  · have HE : Hid (eachP step s0 text.data.toList = .error (1, 0)) := by show _ = _; unfold eachP; rw [if_pos (by omega)]
    have k : (3000 : Int) < (text.size : Int) := by omega
    obtain ⟨t, p, hc⟩ := (HT.out.sent s0 w h0).cell 3 (by decide)
    generalize eachP step s0 text.data.toList = r at *
    clear hlen hsz0
    go_enter Tryz.func50, Tryz.ntmps50
    go_wp2
    go_ret
    exact ⟨each_no HE.out (by simp) ((World.cell?_alloc_at _ _ _ _ rfl).trans rfl) ((World.cell?_alloc_at _ _ _ _ rfl).trans rfl), (Below.refl _ _).alloc hB _⟩
  · have HE : Hid (eachP step s0 text.data.toList = contL step s0 1 text.data.toList) := by show _ = _; unfold eachP; rw [if_neg (by omega)]
    have k : ¬ (3000 : Int) < (text.size : Int) := by omega
    have H0 : Hid (St s0 w) := h0
    generalize eachP step s0 text.data.toList = r at *
    clear h0 hsz0
    go_enter Tryz.func50, Tryz.ntmps50
    go_wp2
    go_loopw [0, 5] (fun t i wr => ∃ (tb : ByteArray) (j : Nat) (s : σ), t = .string tb ∧ i = .int .i64 j ∧ 1 ≤ j ∧ j + tb.size ≤ text.size + 1 ∧ St s wr ∧ Below B w wr ∧ r = contL step s j tb.data.toList) (fun t _ _ => strLen t)
    case atStart => exact ⟨text, 1, s0, rfl, rfl, by omega, by omega, H0.out, Below.refl _ _, HE.out⟩
    case round =>
      obtain ⟨tb, j, s, rfl, rfl, hj1, hj2, hst, hbw, hr⟩ := hrel
      have HST : Hid (St s wr) := hst
      have HBW : Hid (Below B w wr) := hbw
      have HR : Hid (r = contL step s j tb.data.toList) := hr
      have hsz : tb.data.toList.length = tb.size := by simp
      have hBr := HT.out.base s wr hst
      clear hst hbw hr H0 HE
      by_cases hne : tb.data.toList = []
      · have hE := empty_is hne
        have HF : Hid (r = .ok s) := by rw [hne] at HR; exact HR.out
        clear hne HR
        go_wp2
        go_ret
        exact ⟨each_yes HF.out HST.out, HBW.out⟩
      · have hE := empty_not hne
        have HCT : Hid (∀ p q b, Lib.cut tb.data.toList [10] = (p, q, b) → Calls Tryz.prog 81 #[.string tb, .string ⟨#[10]⟩] wr fun e w' => e = .returned (.tuple #[.string ⟨p.toArray⟩, .string ⟨q.toArray⟩, .bool b]) ∧ ∃ n, w' = wr.drewN n) := fun p q b he => by
          have := Tryz.strings_Cut tb ⟨#[10]⟩ m wr (by omega) (HT.out.max s wr HST.out)
          rw [show (⟨#[10]⟩ : ByteArray).data.toList = [10] from rfl, he] at this
          exact this
        rcases idx_split 10 tb.data.toList with ⟨hi, hc⟩ | ⟨p, q, hl, hp, hi⟩
        · have hcut : Lib.cut tb.data.toList [10] = (tb.data.toList, [], false) := by unfold Lib.cut; rw [hi]; rfl
          have HCT' := HCT.out _ _ _ hcut
          have HC1 : Hid (Calls Tryz.prog 81 #[.string tb, .string ⟨#[10]⟩] wr fun e w' => e = .returned (.tuple #[.string ⟨tb.data.toList.toArray⟩, .string ⟨#[]⟩, .bool false]) ∧ ∃ n, w' = wr.drewN n) := HCT'
          have HF : Hid (r = .error (2, (j : Int))) := HR.out.trans (contL_feed step s j hc hne)
          obtain ⟨t, pp, hcc⟩ := (HT.out.sent s wr HST.out).cell 4 (by decide)
          generalize (⟨tb.data.toList.toArray⟩ : ByteArray) = la at *
          clear hcut HCT HCT' HR hi hc hne
          go_wp2_with fail
          refine Calls.mono HC1.out ?_
          rintro e w' ⟨rfl, nq, rfl⟩
          clear HC1
          go_wp2
          go_ret
          exact ⟨each_no HF.out (by simp) ((World.cell?_alloc_at _ _ _ _ (by simp)).trans rfl) ((World.cell?_alloc_at _ _ _ _ (by simp)).trans rfl), (HBW.out.trans ((below_drewN _ _).mono hBr)).alloc (by simp; omega) _⟩
        · have hcut : Lib.cut tb.data.toList [10] = (p, q, true) := by
            unfold Lib.cut
            rw [hi, if_pos (by omega), hl]
            simp
          obtain ⟨lp, hlp⟩ : ∃ x : ByteArray, x = ⟨p.toArray⟩ := ⟨_, rfl⟩
          obtain ⟨lq, hlq⟩ : ∃ x : ByteArray, x = ⟨q.toArray⟩ := ⟨_, rfl⟩
          have hpd : lp.data.toList = p := by rw [hlp]
          have hqd : lq.data.toList = q := by rw [hlq]
          have hps : lp.data.toList.length = lp.size := by simp
          have hqs : lq.data.toList.length = lq.size := by simp
          have hts : tb.size = lp.size + 1 + lq.size := by rw [← hsz, ← hps, ← hqs, hpd, hqd, hl]; simp; omega
          have HC1 : Hid (Calls Tryz.prog 81 #[.string tb, .string ⟨#[10]⟩] wr fun e w' => e = .returned (.tuple #[.string lp, .string lq, .bool true]) ∧ ∃ n, w' = wr.drewN n) := by
            have := HCT.out _ _ _ hcut
            rw [← hlp, ← hlq] at this; exact this
          have HRL : Hid (r = match step s (cutL 32 p) j with
            | none => .error (2, (j : Int))
            | some t => contL step t (j + 1) q) := by
            have := HR.out; rw [hl] at this; exact this.trans (contL_line step s j p q hp)
          have HPD : Hid (lp.data.toList = p) := hpd
          have HQD : Hid (lq.data.toList = q) := hqd
          clear hcut HCT HR hi hp hl hne hlp hlq hpd hqd hps hqs hsz
          go_wp2_with fail
          refine Calls.mono HC1.out ?_
          rintro e w1 ⟨rfl, nq, rfl⟩
          have HB1 : Hid (Below wr.heap.size wr (wr.drewN nq)) := below_drewN _ _
          have HCL : Hid (∀ W : World, Calls Tryz.prog 83 #[.string lp] W fun e w' => e = .returned (.string lp) ∧ Below W.heap.size W w') := fun W => clone_any lp W (by omega)
          have HSP : Hid (∀ W : World, St s W → Calls Tryz.prog 82 #[.string lp, .string ⟨#[32]⟩] W fun e w' => ∃ P : List ByteArray, e = .returned (.slice (some ⟨W.heap.size, 0, none⟩) P.length P.length) ∧ datas P = cutL 32 lp.data.toList ∧ w'.ownsRow W.heap.size 9 1 (.slice (some ⟨W.heap.size, 0, none⟩) P.length P.length) P.length (P.map Value.string) ∧ w'.heap.size = W.heap.size + 1 ∧ Below W.heap.size W w') := fun W hW => split_any lp m W (by omega) (HT.out.max s W hW)
          clear HC1
          go_wp2_with fail
          refine (HCL.out _).mono ?_
          rintro e w2 ⟨rfl, hb2⟩
          have HB2 : Hid (Below wr.heap.size wr w2) := HB1.out.trans (hb2.mono (by simp))
          clear hb2 HCL HB1
          go_wp2_with fail
          refine (HSP.out _ (HT.out.on s wr w2 HST.out HB2.out)).mono ?_
          rintro e w3 ⟨P, rfl, hP, hown, hs3, hb3⟩
          have HB3 : Hid (Below wr.heap.size wr w3) := HB2.out.trans (hb3.mono HB2.out.size)
          have hP1 : 0 < P.length := by
            have e1 := congrArg List.length hP
            rw [List.length_map] at e1
            have h0 := List.length_pos_iff.2 (cutL_ne 32 lp.data.toList)
            omega
          have hlps : lp.data.toList.length = lp.size := by simp
          have hP2 : P.length ≤ 3001 := by
            have e1 := congrArg List.length hP
            rw [List.length_map] at e1
            have h0 := cutL_len 32 lp.data.toList
            omega
          have hP3 : ∀ x ∈ P, x.size ≤ 3000 := fun x hx => by
            have h1 : x.data.toList ∈ cutL 32 lp.data.toList := by rw [← hP]; exact List.mem_map_of_mem hx
            have h2 := cutL_size 32 _ _ h1
            have e1 : x.data.toList.length = x.size := by simp
            omega
          have HTK : Hid (Calls Tryz.prog 64 #[.pointer (some ⟨rb, 0, none⟩), .int .i64 (j : Int), .slice (some ⟨w2.heap.size, 0, none⟩) P.length P.length] w3 fun e w' =>
              ((step s (cutL 32 p) j = none → ∃ t p, e = .returned (.iface t p)) ∧ ∀ s', step s (cutL 32 p) j = some s' → e = .returned .nilIface ∧ St s' w') ∧ Below B w3 w' ∧ (step s (cutL 32 p) j = none → Sent w')) := by
            have := HT.out.take s (j : Int) wr w3 w2.heap.size P HST.out HB3.out HB2.out.size hP1 hP2 hP3 hown
            rw [hP, HPD.out] at this; exact this
          have HBX : Hid (Below B w w3) := HBW.out.trans (HB3.out.mono hBr)
          clear hown hs3 hb3 HSP HB2 HB3 hP hP1 hP2 hP3 hlps HPD HBW HST
          generalize P.length = np at *
          go_wp2_with fail
          refine Calls.mono HTK.out ?_
          rintro e w4 ⟨⟨hno, hyes⟩, hb4, _⟩
          have HB4 : Hid (Below B w w4) := HBX.out.trans hb4
          have hB4 : B ≤ w4.heap.size := Nat.le_trans (Nat.le_trans hB HBX.out.size) hb4.size
          cases hst : step s (cutL 32 p) j with
          | none =>
            obtain ⟨t, pp, rfl⟩ := hno hst
            have HF : Hid (r = .error (2, (j : Int))) := by have := HRL.out; rw [hst] at this; exact this
            clear hno hyes hb4 HTK HRL hst HQD HBX
            go_wp2
            go_ret
            exact ⟨each_no HF.out (by simp) ((World.cell?_alloc_at _ _ _ _ (by simp)).trans rfl) ((World.cell?_alloc_at _ _ _ _ (by simp)).trans rfl), HB4.out.alloc hB4 _⟩
          | some s' =>
            obtain ⟨rfl, hs'⟩ := hyes s' hst
            have HS' : Hid (St s' w4) := hs'
            have HF : Hid (r = contL step s' ((j + 1 : Nat) : Int) lq.data.toList) := by
              have := HRL.out; rw [hst] at this; rw [HQD.out]; push_cast; exact this
            clear hno hyes hb4 HTK HRL hst HQD HBX hs'
            go_wp2
            go_roundw
            case rel => exact ⟨lq, j + 1, s', rfl, by go_num, by omega, by omega, HS'.out, HB4.out, HF.out⟩
            case measure => simp [strLen]; omega

end Go.Proofs.YtnmclolbndohiaaGreatDoor
