/-
  OUR OWN TEXT. Mr11b, Mr12, Mr13, LawPu, one behind the other.
-/
import Derived.Test.YtdhpoagjmiligaaGreatDoorKbi
import Derived.Test.YtdhpoagjmiligaaGreatDoorKbg
import Derived.Deep.CutBlock
import Derived.Deep.DeepCutAuto
import Derived.Test.YtdhpoagjmiligaaGreatDoorKbb
import Derived.Test.YtdhpoagjmiligaaGreatDoorEqR2m
import Derived.Test.YtdhpoagjmiligaaGreatDoorPrBm
namespace Go.Proofs.YtdhpoagjmiligaaGreatDoor
open Go.RowKit

theorem sym_text {l r : List Wd} {x : Wd} (hg : GoodL l) (h : takeW 97 l = .ok (x, r)) : ptW x = x.text := by
  unfold takeW at h
  cases hr : nextW l with
  | error f => rw [hr] at h; cases h
  | ok q =>
    obtain ⟨y, r'⟩ := q
    rw [hr] at h
    simp only at h
    split at h
    · rename_i hp
      injection h with h
      injection h with h _
      subst h
      have hx : WdOk y := hg.2 y (nextW_mem hr)
      exact ptW_sym hx ((rel97 y hx).2 hp)
    · cases h
theorem rule_head {s s1 s2 s3 s4 : Ps} {yn ys : Wd} (hg : GoodS s) (h1 : s1 = stS (onS s (takeW 40))) (h2 : s2 = stS (onS s1 (oneM 5 ruT))) (h3 : s3 = stS (onS s2 (takeW 97))) (hn : ∀ y l, onS s2 (takeW 97) = .ok (y, l) → y = yn) (h4 : s4 = stS (onS s3 (takeW 48))) (hs : ∀ y l, onS s3 (takeW 48) = .ok (y, l) → y = ys) :
    onS s ruM = andP (onS s4 (pTo 6)) fun ps l5 => andP (aTo 8 ([], 0) l5) fun q l7 => .ok (⟨mkS yn.text, ys.num, ps, q.2.1, q.1⟩, l7) := by
  cases s with
  | error f => subst h1 h2 h3 h4; rfl
  | ok l =>
    have f1 := Fine.take 40 l hg
    simp only [onS] at h1
    simp only [onS, ruM]
    cases hk : takeW 40 l with
    | error f => rw [hk] at h1; subst h1 h2 h3 h4; rfl
    | ok q =>
      obtain ⟨x1, l1⟩ := q
      rw [hk] at h1 f1
      simp only [stS] at h1
      subst h1
      rw [andP_ok, rule_eq f1]
      simp only [onS] at h2
      have f2 : FineR (oneM 5 ruT l1) := by
        have ft := Fine.take 97 l1 f1
        rw [one_sym f1]
        cases ht : takeW 97 l1 with
        | error f => rw [ht] at ft; exact ft
        | ok q =>
          rw [ht] at ft
          rw [andP_ok]
          split
          · exact ft
          · show (3 : Int) ≠ 0
            decide
      cases ho : oneM 5 ruT l1 with
      | error f => rw [ho] at h2; subst h2 h3 h4; rfl
      | ok q =>
        obtain ⟨t, l2⟩ := q
        rw [ho] at h2 f2
        simp only [stS] at h2
        subst h2
        rw [andP_ok]
        simp only [onS] at h3 hn
        cases ht : takeW 97 l2 with
        | error f => rw [ht] at h3; subst h3 h4; rfl
        | ok q =>
          obtain ⟨x3, l3⟩ := q
          rw [ht] at h3
          simp only [stS] at h3
          subst h3
          have e3 := hn x3 l3 ht
          subst e3
          rw [andP_ok, sym_text f2 ht]
          simp only [onS] at h4 hs
          cases hu : takeW 48 l3 with
          | error f => rw [hu] at h4; subst h4; rfl
          | ok q =>
            obtain ⟨x4, l4⟩ := q
            rw [hu] at h4
            simp only [stS] at h4
            subst h4
            have e4 := hs x4 l4 hu
            subst e4
            rfl
theorem rule_end {r : Px Ru} {s4 sx s5 sy : Ps} {nm : ByteArray} {sl : Int} {MPf : List Pt} {MAf : List Ac} {es : ES} (hr : r = andP (onS s4 (pTo 6)) fun ps l5 => andP (aTo 8 ([], 0) l5) fun q l7 => .ok (⟨nm, sl, ps, q.2.1, q.1⟩, l7))
    (hp : onS s4 (pTo 6) = preL MPf (andP (onS sx (oneM 6 toT)) fun _ l => .ok ([], l))) (h5 : s5 = stS (onS sx (oneM 6 toT))) (ha : onS s5 (aTo 8 ([], 0)) = preE MAf (andP (onS sy (takeW 41)) fun _ l => .ok (([], es), l))) :
    (∃ f, r = .error f ∧ onS sy (takeW 41) = .error f) ∨ ∃ y l, r = .ok (⟨nm, sl, MPf, es.1, MAf⟩, l) ∧ onS sy (takeW 41) = .ok (y, l) := by
  rw [hr, hp]
  cases ho : onS sx (oneM 6 toT) with
  | error f =>
    rw [ho] at h5
    subst h5
    refine .inl ⟨f, rfl, ?_⟩
    cases hy : onS sy (takeW 41) with
    | error f' =>
      rw [hy] at ha
      injection ha with ha
      rw [ha]
    | ok q => rw [hy] at ha; cases ha
  | ok q =>
    obtain ⟨t, l5⟩ := q
    rw [ho] at h5
    subst h5
    change aTo 8 ([], 0) l5 = _ at ha
    rw [andP_ok, preL_nil, andP_ok, ha]
    cases hy : onS sy (takeW 41) with
    | error f => exact .inl ⟨f, rfl, rfl⟩
    | ok q =>
      refine .inr ⟨q.1, q.2, ?_, rfl⟩
      simp [andP, preE]
end Go.Proofs.YtdhpoagjmiligaaGreatDoor

namespace Go.Proofs.YtdhpoagjmiligaaGreatDoor
open Go.RowKit
attribute [local go_sem ↓] Go.wp_at_zero Go.wp_at_succ

theorem lift_set5o {P : World → Prop} {w : World} {b o : Nat} {t : TypeId} {cs : Array Value} {v0 v1 v2 v3 v4 : Value} (hq : w.heap[b]? = some (.cells cs t (0, 0))) (hs : o + 5 ≤ cs.size) (h : ∀ wt, wt.heap[b]? = some (.cells (cs.toList.take o ++ ([v0, v1, v2, v3, v4] ++ cs.toList.drop (o + 5))).toArray t (0, 0)) → Turned w wt b → P wt) : P (((((w.setCell ⟨b, o, none⟩ v0).setCell ⟨b, o + 1, none⟩ v1).setCell ⟨b, o + 2, none⟩ v2).setCell ⟨b, o + 3, none⟩ v3).setCell ⟨b, o + 4, none⟩ v4) :=
  h _ (heap_setCells_splice hq (o := o) [v0, v1, v2, v3, v4] (by simp; omega)) (Turned.setCells [v0, v1, v2, v3, v4] o w b)
theorem ruT_new (w : World) : TxAt (w.alloc (.cells #[.string ⟨#[114, 117, 108, 101]⟩] 9)) w.heap.size ruT := fun j t ht => by
  have hb := heap_alloc_new w (.cells #[.string ⟨#[114, 117, 108, 101]⟩] 9)
  refine cell_of (L := [_]) hb ?_
  match j, ht with
  | 0, ht => injection ht with ht; subst ht; rfl
  | j + 1, ht => cases ht
theorem toT_new (w : World) : TxAt (w.alloc (.cells #[.string ⟨#[61, 62]⟩] 9)) w.heap.size toT := fun j t ht => by
  have hb := heap_alloc_new w (.cells #[.string ⟨#[61, 62]⟩] 9)
  refine cell_of (L := [_]) hb ?_
  match j, ht with
  | 0, ht => injection ht with ht; subst ht; rfl
  | j + 1, ht => cases ht
/-- The rule's cells of the box cleared. -/
theorem MB.clear {w w' : World} {pb g : Nat} {W : List Wd} {c : Nat} {s : Ps} {nm sl pv ev av bv n' s' p' e' a' : Value} (h : MB w pb g W c s (RM nm sl pv ev av bv)) (ht : Turned w w' pb) (hq : ∀ cs, w.heap[pb]? = some (.cells cs 48 (0, 0)) → w'.heap[pb]? = some (.cells (cs.toList.take 4 ++ ([n', s', p', e', a'] ++ cs.toList.drop 9)).toArray 48 (0, 0))) : MB w' pb g W c s (RM n' s' p' e' a' bv) := by
  obtain ⟨k, cd, pos, hb, hk, hs⟩ := h.st
  refine h.to ht.mko ⟨k, cd, pos, (hq _ hb).trans ?_, hk, hs⟩
  simp [RM]
/-- What a rule leaves. -/
def MRPost (w : World) (pb g : Nat) (W : List Wd) (c : Nat) (r : Px Ru) (e : Ending) (w' : World) : Prop := MkO (some pb) w w' ∧ ∃ (x : RX) (nm sl pv ev av bv : Value), e = .returned (.agg x.cells.toArray) ∧ ROwn w' w.heap.size x ∧ MB w' pb g W c (stS r) (RM nm sl pv ev av bv) ∧ ∀ y l, r = .ok (y, l) → y = x.ru
/-- In a rule, at its patterns; rb: the answer's box. -/
structure RpAt (w wr : World) (pb g rb : Nat) (W : List Wd) (c : Nat) (nm : ByteArray) (sl : Int) (sx : Ps) (pa : Option Addr) (pc : Nat) (MP : List (Pt × Value)) : Prop where
  mo : MkO (some pb) w wr
  mb : MB wr pb g W c sx (RM (.string nm) (.int .i64 sl) (.slice pa MP.length pc) (.slice none 0 0) (.slice none 0 0) (.int .i64 0))
  pts : NRow ptK wr w.heap.size pa pc MP
  rq : wr.heap[rb]? = some (.cells (ruL ⟨#[]⟩ 0 nilV nilV nilV).toArray 46 (0, 0))
theorem RpAt.mko {w wr wt : World} {pb g rb : Nat} {W : List Wd} {c : Nat} {nm : ByteArray} {sl : Int} {sx sx' : Ps} {pa : Option Addr} {pc : Nat} {MP : List (Pt × Value)} (h : RpAt w wr pb g rb W c nm sl sx pa pc MP) (hm : MkO (some pb) wr wt) (hb : MB wt pb g W c sx' (RM (.string nm) (.int .i64 sl) (.slice pa MP.length pc) (.slice none 0 0) (.slice none 0 0) (.int .i64 0))) (h1 : pb < w.heap.size) (h2 : pb ≠ rb) : RpAt w wt pb g rb W c nm sl sx' pa pc MP :=
  ⟨h.mo.trans hm, hb, h.pts.mko hm h1, (hm.block rb (lt_of_block' h.rq) (fun e => h2 (by injection e))).trans h.rq⟩
theorem RpAt.below {w wr wt : World} {pb g rb : Nat} {W : List Wd} {c : Nat} {nm : ByteArray} {sl : Int} {sx : Ps} {pa : Option Addr} {pc : Nat} {MP : List (Pt × Value)} (h : RpAt w wr pb g rb W c nm sl sx pa pc MP) (hb : Below wr.heap.size wr wt) : RpAt w wt pb g rb W c nm sl sx pa pc MP :=
  ⟨h.mo.trans (MkO.of_below hb), h.mb.below hb, h.pts.below hb, (hb.block rb (lt_of_block' h.rq)).trans h.rq⟩
def lenQ (pb j : Nat) (w : World) : Nat := match w.cell? ⟨pb, j, none⟩ with
  | some v => sliceLen v
  | none => 0
/-- In a rule, at its actions. -/
structure RaAt (w wr : World) (pb g rb : Nat) (W : List Wd) (c : Nat) (nm : ByteArray) (sl : Int) (pa : Option Addr) (pc : Nat) (MP : List (Pt × Value)) (sx : Ps) (es : ES) (ea : Option Addr) (ec : Nat) (bg : Int) (aa : Option Addr) (ac : Nat) (MA : List (Ac × Value)) : Prop where
  mo : MkO (some pb) w wr
  st : MX wr w.heap.size pb g W c sx (.string nm) (.int .i64 sl) (.slice pa MP.length pc) (.slice aa MA.length ac) es ea ec bg
  pts : NRow ptK wr w.heap.size pa pc MP
  acs : NRow acK wr w.heap.size aa ac MA
  rq : wr.heap[rb]? = some (.cells (ruL ⟨#[]⟩ 0 nilV nilV nilV).toArray 46 (0, 0))
  hk : ∀ l, sx = .ok l → es.1.length ≤ es.2 ∧ es.2 ≤ 60
theorem RaAt.mko {w wr wt : World} {pb g rb : Nat} {W : List Wd} {c : Nat} {nm : ByteArray} {sl : Int} {pa : Option Addr} {pc : Nat} {MP : List (Pt × Value)} {sx sx' : Ps} {es : ES} {ea : Option Addr} {ec : Nat} {bg : Int} {aa : Option Addr} {ac : Nat} {MA : List (Ac × Value)} (h : RaAt w wr pb g rb W c nm sl pa pc MP sx es ea ec bg aa ac MA) (hm : MkO (some pb) wr wt) (hb : MB wt pb g W c sx' (RM (.string nm) (.int .i64 sl) (.slice pa MP.length pc) (.slice ea es.1.length ec) (.slice aa MA.length ac) (.int .i64 bg))) (hok : ∀ l, sx' = .ok l → ∃ l', sx = .ok l') (h2 : pb ≠ rb) : RaAt w wt pb g rb W c nm sl pa pc MP sx' es ea ec bg aa ac MA :=
  ⟨h.mo.trans hm, h.st.mko hm hb hok, h.pts.mko hm h.st.lt, h.acs.mko hm h.st.lt, (hm.block rb (lt_of_block' h.rq) (fun e => h2 (by injection e))).trans h.rq, fun l e => by obtain ⟨l', e'⟩ := hok l e; exact h.hk l' e'⟩
theorem RaAt.below {w wr wt : World} {pb g rb : Nat} {W : List Wd} {c : Nat} {nm : ByteArray} {sl : Int} {pa : Option Addr} {pc : Nat} {MP : List (Pt × Value)} {sx : Ps} {es : ES} {ea : Option Addr} {ec : Nat} {bg : Int} {aa : Option Addr} {ac : Nat} {MA : List (Ac × Value)} (h : RaAt w wr pb g rb W c nm sl pa pc MP sx es ea ec bg aa ac MA) (hb : Below wr.heap.size wr wt) : RaAt w wt pb g rb W c nm sl pa pc MP sx es ea ec bg aa ac MA :=
  ⟨h.mo.trans (MkO.of_below hb), h.st.below hb, h.pts.below hb, h.acs.below hb, (hb.block rb (lt_of_block' h.rq)).trans h.rq, h.hk⟩
theorem RaAt.mkx {w wr wt : World} {pb g rb : Nat} {W : List Wd} {c : Nat} {nm : ByteArray} {sl : Int} {pa : Option Addr} {pc : Nat} {MP : List (Pt × Value)} {sx sx' : Ps} {es es' : ES} {ea ea' : Option Addr} {ec ec' : Nat} {bg bg' : Int} {aa : Option Addr} {ac : Nat} {MA : List (Ac × Value)} (h : RaAt w wr pb g rb W c nm sl pa pc MP sx es ea ec bg aa ac MA) (hm : MkX pb (obE es ea ec) wr wt) (hs : MX wt w.heap.size pb g W c sx' (.string nm) (.int .i64 sl) (.slice pa MP.length pc) (.slice aa MA.length ac) es' ea' ec' bg') (h2 : pb ≠ rb) (hk : ∀ l, sx' = .ok l → es'.1.length ≤ es'.2 ∧ es'.2 ≤ 60) : RaAt w wt pb g rb W c nm sl pa pc MP sx' es' ea' ec' bg' aa ac MA :=
  ⟨h.mo.mkx hm (fun k hk => (h.st.ow.lt k hk).1), hs, h.pts.mkx hm h.st.lt h.st.row (by decide) (by decide), h.acs.mkx hm h.st.lt h.st.row (by decide) (by decide), (hm.block rb (lt_of_block' h.rq) h2 (fun e => by
    obtain ⟨cs, e1⟩ := h.st.row rb e
    exact ty_ne e1 h.rq (by decide))).trans h.rq, hk⟩
theorem actM_inv {es es' : ES} {s : Ps} {v : Ac} (hk : ∀ l, s = .ok l → es.1.length ≤ es.2 ∧ es.2 ≤ 60) (hv : ∀ y l, onS s (actM es) = .ok (y, l) → y = (v, es')) : ∀ l, stS (onS s (actM es)) = .ok l → es'.1.length ≤ es'.2 ∧ es'.2 ≤ 60 := by
  intro l hl
  cases s with
  | error f => cases hl
  | ok l0 =>
    obtain ⟨h1, h2⟩ := hk l0 rfl
    cases hc : actM es l0 with
    | error f =>
      simp only [onS, hc] at hl
      cases hl
    | ok q =>
      obtain ⟨y, l1⟩ := q
      have e := hv y l1 hc
      subst e
      obtain ⟨x, l2, _, h⟩ := andP_invX hc
      exact pAct_inv h1 h2 h
set_option maxRecDepth 100000 in
set_option maxHeartbeats 6400000 in
theorem mrule_any (w : World) (pb g : Nat) (W : List Wd) (c : Nat) (s : Ps) (nm0 sl0 pv0 ev0 av0 bv0 : Value) (h : MB w pb g W c s (RM nm0 sl0 pv0 ev0 av0 bv0)) : Calls Tryz.prog 21 #[.pointer (some ⟨pb, 0, none⟩)] w (MRPost w pb g W c (onS s ruM)) := by
  have hf2 := mfield2
  have hf3 := mfield3
  have HM := hidX h
  have hpb := h.lt
  have hgl := h.glt
  clear h
  go_enter Tryz.func21, Tryz.ntmps21
  go_upto_region 1 with fail
  refine lift_alloc ?_
  intro w1 hW1 hq1
  have hrb : w.heap.size < w1.heap.size := lt_of_block' hq1
  have HTK := hidX (mtake_any w1 pb g W c s _ 1 40 rel40 (by decide) (by decide) (HM.out.below hW1))
  have HQ1 := hidX hq1
  have M1 := hidX (MkO.of_below hW1 : MkO (some pb) w w1)
  clear hW1 hq1
  go_upto_region 2 with (first | (go_at_call 34; refine HTK.out.mono ?_; rintro e w2 ⟨hm2, ⟨y, he2, _⟩, hb2⟩; obtain rfl : e = .returned (wdA y) := he2; unfold wdA) | fail)
  obtain ⟨s1, hs1⟩ : ∃ s1, s1 = stS (onS s (takeW 40)) := ⟨_, rfl⟩
  rw [← hs1] at hb2
  have HS1 := hidX hs1
  have M2 := hidX (M1.out.trans hm2)
  have HB2 := hidX hb2
  have hs2 := hm2.rest.size
  have HRB2 := hidX ((hm2.block w.heap.size hrb (fun e => by injection e; omega)).trans HQ1.out)
  have HAL := hidX (fun o => (Below.refl _ _).alloc (Nat.le_refl _) o : ∀ o, Below w2.heap.size w2 (w2.alloc o))
  have HON := hidX (mone_any (w2.alloc (.cells #[.string ⟨#[114, 117, 108, 101]⟩] 9)) pb g w2.heap.size 1 W c s1 _ 5 ruT (by decide) (by decide) (ruT_new _) (by omega) (by simp) (by decide) (HB2.out.below (HAL.out _)))
  clear hm2 hb2 HTK HQ1 M1 hs1
  go_upto_region 3 with (first | (go_at_call 35; refine HON.out.mono ?_; rintro e w3 ⟨hm3, ⟨t, he3, _⟩, hb3⟩; obtain rfl : e = .returned (.string (mkS t)) := he3) | fail)
  obtain ⟨s2, hs2'⟩ : ∃ s2, s2 = stS (onS s1 (oneM 5 ruT)) := ⟨_, rfl⟩
  rw [← hs2'] at hb3
  have HS2 := hidX hs2'
  have s3 := hm3.rest.size
  simp at s3
  have M3 := hidX ((M2.out.trans (MkO.of_below (HAL.out _))).trans hm3)
  have HRB3 := hidX ((hm3.block w.heap.size (by simp; omega) (fun e => by injection e; omega)).trans (((HAL.out _).block w.heap.size (by omega)).trans HRB2.out))
  have HB3 := hidX hb3
  have c9 : w3.cell? ⟨pb, 9, none⟩ = some bv0 := hb3.cellR (j := 5) rfl
  have z9 := hb3.frozR 9
  have hp3 := hb3.lt
  clear hm3 hb3 HON HAL M2 HB2 HRB2 hs2'
  go_upto_region 4 with fail
  refine lift_eq ?_
  intro w4 hw4
  have HB4 := hidX (HB3.out.setR (j := 5) hw4)
  have m4 : MkO (some pb) w3 w4 := by rw [hw4]; exact MkO.set _
  have M4 := hidX (M3.out.trans m4)
  have HRB4 := hidX ((m4.block w.heap.size (by omega) (fun e => by injection e; omega)).trans HRB3.out)
  have s4 := m4.rest.size
  obtain ⟨cs4, hq4⟩ : ∃ cs, w4.heap[pb]? = some (.cells cs 48 (0, 0)) := by
    obtain ⟨k, cd, pos, hb, _⟩ := HB4.out.st
    exact ⟨_, hb⟩
  have hcs : 9 ≤ cs4.size := by
    obtain ⟨k, cd, pos, hb, _⟩ := HB4.out.st
    rw [hb] at hq4
    injection hq4 with hq4
    injection hq4 with hq4 _ _
    rw [← hq4]
    simp [RM]
  have d4 : w4.cell? ⟨pb, 4, none⟩ = some nm0 := HB4.out.cellR (j := 0) rfl
  have d5 : w4.cell? ⟨pb, 5, none⟩ = some sl0 := HB4.out.cellR (j := 1) rfl
  have d6 : w4.cell? ⟨pb, 6, none⟩ = some pv0 := HB4.out.cellR (j := 2) rfl
  have d7 : w4.cell? ⟨pb, 7, none⟩ = some ev0 := HB4.out.cellR (j := 3) rfl
  have d8 : w4.cell? ⟨pb, 8, none⟩ = some av0 := HB4.out.cellR (j := 4) rfl
  have f4 := HB4.out.frozR 4
  have f5 := HB4.out.frozR 5
  have f6 := HB4.out.frozR 6
  have f7 := HB4.out.frozR 7
  have f8 := HB4.out.frozR 8
  have hp4 := HB4.out.lt
  clear hw4 m4 c9 z9 HB3 M3 HRB3
  go_upto_region 5 with fail
  refine lift_set5o hq4 (o := 4) (by omega) ?_
  intro w5 hq5 ht5
  have HB5 := hidX (show MB w5 pb g W c s2 (RM (.string ⟨#[]⟩) (.int .i64 0) (.slice none 0 0) (.slice none 0 0) (.slice none 0 0) (.int .i64 0)) from MB.clear (by simpa [RM] using HB4.out) ht5 (fun cs hc => by
    rw [hq4] at hc
    injection hc with hc
    injection hc with hc _ _
    subst hc
    exact hq5))
  have M5 := hidX (M4.out.trans ht5.mko)
  have s5 : w4.heap.size ≤ w5.heap.size := Nat.le_of_eq ht5.size.symm
  have HRB5 := hidX ((ht5.block w.heap.size (by omega)).trans HRB4.out)
  have HTN := hidX (mtake_any w5 pb g W c s2 _ 5 97 rel97 (by decide) (by decide) HB5.out)
  clear hq5 ht5 hq4 hcs d4 d5 d6 d7 d8 f4 f5 f6 f7 f8 HB4 M4 HRB4
  go_upto_region 6 with (first | (go_at_call 34; refine HTN.out.mono ?_; rintro e w6 ⟨hm6, ⟨yn, he6, hyn⟩, hb6⟩; obtain rfl : e = .returned (wdA yn) := he6; unfold wdA; have c4 : w6.cell? ⟨pb, 4, none⟩ = some (.string ⟨#[]⟩) := hb6.cellR (j := 0) rfl; have z4 := hb6.frozR 4; have hp6 := hb6.lt) | fail)
  refine lift_eq ?_
  intro w7 hw7
  obtain ⟨s3', hs3'⟩ : ∃ s3', s3' = stS (onS s2 (takeW 97)) := ⟨_, rfl⟩
  rw [← hs3'] at hb6
  have HS3 := hidX hs3'
  have HYN := hidX hyn
  have HB7 := hidX (hb6.setR (j := 0) hw7)
  have m7 : MkO (some pb) w6 w7 := by rw [hw7]; exact MkO.set _
  have M7 := hidX ((M5.out.trans hm6).trans m7)
  have s6 := hm6.rest.size
  have s7 := m7.rest.size
  have HRB7 := hidX ((m7.block w.heap.size (by omega) (fun e => by injection e; omega)).trans ((hm6.block w.heap.size (by omega) (fun e => by injection e; omega)).trans HRB5.out))
  have HTS := hidX (mtake_any w7 pb g W c s3' _ 3 48 rel48 (by decide) (by decide) HB7.out)
  clear hw7 hm6 hb6 m7 c4 z4 hyn hs3' HTN HB5 M5 HRB5
  go_upto_block 0 with (first | (go_at_call 34; refine HTS.out.mono ?_; rintro e w8 ⟨hm8, ⟨ys, he8, hys⟩, hb8⟩; obtain rfl : e = .returned (wdA ys) := he8; unfold wdA; have c5 : w8.cell? ⟨pb, 5, none⟩ = some (.int .i64 0) := hb8.cellR (j := 1) rfl; have z5 := hb8.frozR 5; have hp8 := hb8.lt) | fail)
  refine lift_eq ?_
  intro w9 hw9
  obtain ⟨s4', hs4'⟩ : ∃ s4', s4' = stS (onS s3' (takeW 48)) := ⟨_, rfl⟩
  rw [← hs4'] at hb8
  have HS4 := hidX hs4'
  have HYS := hidX hys
  have HB9 := hidX (show MB w9 pb g W c s4' (RM (.string (mkS yn.text)) (.int .i64 ys.num) (.slice none 0 0) (.slice none 0 0) (.slice none 0 0) (.int .i64 0)) from by simpa [RM] using hb8.setR (j := 1) hw9)
  have m9 : MkO (some pb) w8 w9 := by rw [hw9]; exact MkO.set _
  have M9 := hidX ((M7.out.trans hm8).trans m9)
  have s8 := hm8.rest.size
  have s9 := m9.rest.size
  have HRB9 := hidX ((m9.block w.heap.size (by omega) (fun e => by injection e; omega)).trans ((hm8.block w.heap.size (by omega) (fun e => by injection e; omega)).trans HRB7.out))
  clear hw9 hm8 hb8 m9 c5 z5 hys hs4' HTS HB7 M7 HRB7
  have HR9 := hidX (show RpAt w w9 pb g w.heap.size W c (mkS yn.text) ys.num s4' none 0 [] from ⟨M9.out, HB9.out, NRow.nil _ _ _, HRB9.out⟩)
  obtain ⟨nmT, hnmT⟩ : ∃ n, n = mkS yn.text := ⟨_, rfl⟩
  obtain ⟨slN, hslN⟩ : ∃ n, n = ys.num := ⟨_, rfl⟩
  rw [← hnmT, ← hslN] at HR9
  have HNM := hidX hnmT
  have HSL := hidX hslN
  clear M9 HB9 HRB9 hnmT hslN
  go_cut [] (fun wx => ∃ sx pa pc MP, RpAt w wx pb g w.heap.size W c nmT slN sx pa pc MP ∧ onS s4' (pTo 6) = preL (MP.map Prod.fst) (andP (onS sx (oneM 6 toT)) fun _ l => .ok ([], l)))
  case first =>
    go_wp2_with fail
    go_loopw [] (fun wr => ∃ (sx : Ps) (pa : Option Addr) (pc : Nat) (MP : List (Pt × Value)), MP.length ≤ 6 ∧ RpAt w wr pb g w.heap.size W c nmT slN sx pa pc MP ∧ onS s4' (pTo 6) = preL (MP.map Prod.fst) (onS sx (pTo (6 - MP.length)))) (fun wr => 6 - lenQ pb 6 wr)
    case atStart => exact ⟨s4', none, 0, [], by simp, HR9.out, by unfold preL; cases onS s4' (pTo 6) <;> rfl⟩
    case round =>
      obtain ⟨sx, pa, pc, MP, hML, hrp, hpl⟩ := hrel
      have RP := hidX hrp
      have PL := hidX hpl
      have c6 : wr.cell? ⟨pb, 6, none⟩ = some (.slice pa MP.length pc) := hrp.mb.cellR (j := 2) rfl
      have HML : Hid (lenQ pb 6 wr = MP.length) := show _ = _ from by unfold lenQ; rw [c6]; rfl
      have HLK := hidX (look_any wr pb g W c sx _ hrp.mb)
      have hpr := hrp.mb.lt
      obtain ⟨K, hK⟩ : ∃ K, K = lookK sx := ⟨_, rfl⟩
      unfold LkPost at HLK
      rw [← hK] at HLK
      clear hrp hpl HR9
      by_cases hk : K = 1
      · have HKK : Hid (lookK sx = 1) := show _ = _ from by rw [← hK]; exact hk
        have e1 : (K == 1) = true := by simp [hk]
        clear hK hk
        by_cases h6 : MP.length = 6
        · have HF := hidX (fun u (hu : MB u pb g W c (lookS sx) (RM (.string nmT) (.int .i64 slN) (.slice pa MP.length pc) (.slice none 0 0) (.slice none 0 0) (.int .i64 0))) => fail_any u pb g W c (lookS sx) _ 4 (by decide) hu)
          have HE : Hid (onS s4' (pTo 6) = preL (MP.map Prod.fst) (andP (onS (failS 4 (lookS sx)) (oneM 6 toT)) fun _ l => .ok ([], l))) := show _ = _ from by rw [PL.out, h6, show 6 - 6 = 0 from rfl, pTo_full RP.out.mb HKK.out]
          have hl6 : (6 : Int) ≤ (MP.length : Int) := by omega
          clear h6
          go_wp2_with (first | (go_at_call 19; refine HLK.out.mono ?_; rintro e w10 ⟨rfl, hm10, hb10⟩; have c7 : w10.cell? ⟨pb, 6, none⟩ = some (.slice pa MP.length pc) := hb10.cellR (j := 2) rfl; have hp10 := hb10.lt) | (go_at_call 20; refine (HF.out _ hb10).mono ?_; rintro e w11 ⟨rfl, hm11, hb11⟩) | fail)
          go_meet
          exact ⟨_, pa, pc, MP, (RP.out.mko hm10 hb10 hpb (by omega)).mko hm11 hb11 hpb (by omega), HE.out⟩
        · have hl6 : ¬ (6 : Int) ≤ (MP.length : Int) := by omega
          have HPT := hidX (fun u (hu : MB u pb g W c (lookS sx) (RM (.string nmT) (.int .i64 slN) (.slice pa MP.length pc) (.slice none 0 0) (.slice none 0 0) (.int .i64 0))) => mpattern_any u pb g W c (lookS sx) _ hu)
          have HMO := hidX (fun v hv => pTo_more (n := 6 - (MP.length + 1)) RP.out.mb HKK.out v hv (MP.map Prod.fst))
          go_upto_region 10 with (first | (go_at_call 19; refine HLK.out.mono ?_; rintro e w10 ⟨rfl, hm10, hb10⟩; have c7 : w10.cell? ⟨pb, 6, none⟩ = some (.slice pa MP.length pc) := hb10.cellR (j := 2) rfl; have hp10 := hb10.lt) | fail)
          have S10 := hidX (RP.out.mko hm10 hb10 hpb (by omega))
          have s10 := hm10.rest.size
          clear hm10 hb10 HLK c6
          refine wp_region_noPanic ?_
          refine wp_region_held_drew (S := (fun _ => True)) (by kernel_rfl) ?_ (fun hHeld => ?_)
          · (try dsimp only)
            all_goals trivial
          refine tk 0 hHeld ?_
          (try simp only [pA, pZ, pS])
          refine tk 1 hHeld ?_
          (try simp only [pA, pZ, pS])
          refine tk 2 hHeld ?_
          (try simp only [pA, pZ, pS])
          refine tk 3 hHeld ?_
          (try simp only [pA, pZ, pS])
          refine tk 4 hHeld ?_
          (try simp only [pA, pZ, pS])
          refine tk 6 hHeld ?_
          (try simp only [pA, pZ, pS])
          refine wpAnyH_ready (rs := [5, 7]) (by kernel_rfl) (by simp) ?_
          refine AllReadyH.cons (o := ?o29) ?ho29 (fun K hK => ?step29) (AllReadyH.cons (o := ?o30) ?ho30 (fun K hK => ?step30) AllReadyH.nil)
          case ho29 => (simp only [List.getElem?_toArray, List.getElem?_cons_succ, List.getElem?_cons_zero]; rfl)
          case ho30 => (simp only [List.getElem?_toArray, List.getElem?_cons_succ, List.getElem?_cons_zero]; rfl)
          case step29 =>
            go_simp
            refine hK.out _ _ ?hS31 (fun hHeld' => ?rest31)
            case hS31 => ((try dsimp only); all_goals trivial)
            clear hK K
            (try simp only [pA, pZ, pS])
            clear hHeld
            have hHeld := hHeld'
            clear hHeld'
            refine wpAnyH_ready (rs := [7]) (by kernel_rfl) (by simp) ?_
            refine AllReadyH.cons (o := ?o32) ?ho32 (fun K hK => ?step32) AllReadyH.nil
            case ho32 => (simp only [List.getElem?_toArray, List.getElem?_cons_succ, List.getElem?_cons_zero]; rfl)
            go_simp
            (go_at_call 36; refine (HPT.out _ (S10.out.below ((Below.refl _ _).drew)).mb).mono ?_; rintro e w12 ⟨hm12, ⟨v, ⟨va, vc, rfl, ho12⟩, hv12⟩, hb12⟩; unfold ptP; have s12 := hm12.rest.size; simp at s12; have g6 : w12.cell? ⟨pb, 6, none⟩ = some (.slice pa MP.length pc) := hb12.cellR (j := 2) rfl)
            refine hK.out _ _ ?hS33 (fun hHeld' => ?rest33)
            case hS33 => ((try dsimp only); all_goals trivial)
            clear hK K
            (try simp only [pA, pZ, pS])
            clear hHeld
            have hHeld := hHeld'
            clear hHeld'
            refine wpAnyH_ready (rs := [8]) (by kernel_rfl) (by simp) ?_
            refine AllReadyH.cons (o := ?o34) ?ho34 (fun K hK => ?step34) AllReadyH.nil
            case ho34 => (simp only [List.getElem?_toArray, List.getElem?_cons_succ, List.getElem?_cons_zero]; rfl)
            go_simp
            have HA12 := hidX (fun o' => (Below.refl _ _).alloc (Nat.le_refl _) o' : ∀ o', Below w12.heap.size w12 (w12.alloc o')); have g6a : ∀ o', (w12.alloc o').cell? ⟨pb, 6, none⟩ = some (.slice pa MP.length pc) := fun o' => cell_below (HA12.out o') g6
            refine hK.out _ _ ?hS35 (fun hHeld' => ?rest35)
            case hS35 => ((try dsimp only); all_goals trivial)
            clear hK K
            (try simp only [pA, pZ, pS])
            clear hHeld
            have hHeld := hHeld'
            clear hHeld'
            have S12 := hidX ((S10.out.below ((Below.refl _ _).drew)).mko hm12 hb12 hpb (by omega))
            refine wpAnyH_ready (rs := [9]) (by kernel_rfl) (by simp) ?_
            refine AllReadyH.cons (o := ?o36) ?ho36 (fun K hK => ?step36) AllReadyH.nil
            case ho36 => (simp only [List.getElem?_toArray, List.getElem?_cons_succ, List.getElem?_cons_zero]; rfl)
            (refine step_append_any (by rfl) (.tmp 47) (.tmp 50) 42 (by rfl) w.heap.size 80 _ 3 48 Tryz.underlying42 infoPF1 (by rfl) (by omega) _ MP.length _ (by rfl) (S12.out.below (HA12.out _)).pts.row (some ⟨_, 0, none⟩) 1 1 (by rfl) (ptP v (.slice va v.terms.length vc)) (by rfl) (fun e => by cases e) (news_new _ _ _ _ (by simp)) (ptP_one _ _ _ _) (by unfold maxLen; omega) (by omega) (by have := S12.out.mo.rest.size; simp; omega) ?_; intro a13 c13 w13 ho13 hg13 hl13)
            refine hK.out _ _ ?hS37 (fun hHeld' => ?rest37)
            case hS37 => ((try dsimp only); all_goals trivial)
            clear hK K
            (try simp only [pA, pZ, pS])
            clear hHeld
            have hHeld := hHeld'
            clear hHeld'
            have hrow : ∀ k, (Value.slice pa MP.length pc).ownBlock = some k → w.heap.size ≤ k := fun k hk => (S12.out.pts.rlt k hk).1
            have SA := hidX (fun o' => S12.out.below (HA12.out o'))
            have N13 := hidX (NRow.more (S10.out.below ((Below.refl _ _).drew)).pts (SA.out _).pts ho12 (Nat.le_refl _) (by have := S10.out.mo.rest.size; simpa using this) ⟨va, vc, rfl⟩ (own_bel ho12 (HA12.out _)) hg13.out ho13.out (by decide))
            have P13 := hidX ((SA.out _).mb.blocks (hg13.out.block pb (SA.out _).mb.lt (fun e => by have := hrow pb e.symm; omega)) (hg13.out.block g (SA.out _).mb.glt (fun e => by have := hrow g e.symm; omega)))
            have R13 := hidX (box_grown (SA.out _).rq hg13.out (SA.out _).pts.rty (by decide))
            have M13 := hidX ((SA.out _).mo.grown hg13.out hrow)
            have f6 : w13.cell? ⟨pb, 6, none⟩ = some (.slice pa MP.length pc) := P13.out.cellR (j := 2) rfl
            have z6 := P13.out.frozR 6
            have hp13 := P13.out.lt
            refine tk 10 hHeld ?_
            (try simp only [pA, pZ, pS])
            refine tk 11 hHeld ?_
            (try simp only [pA, pZ, pS])
            refine tk 12 hHeld ?_
            (try simp only [pA, pZ, pS])
            refine wpAnyH_ready (rs := [13]) (by kernel_rfl) (by simp) ?_
            refine AllReadyH.cons (o := ?o38) ?ho38 (fun K hK => ?step38) AllReadyH.nil
            case ho38 => (simp only [List.getElem?_toArray, List.getElem?_cons_succ, List.getElem?_cons_zero]; rfl)
            go_simp
            refine hK.out _ _ ?hS39 (fun hHeld' => ?rest39)
            case hS39 => ((try dsimp only); all_goals trivial)
            clear hK K
            (try dsimp only)
            clear hHeld
            have hHeld := hHeld'
            clear hHeld'
            refine wpAnyH_done (by kernel_rfl) ?_ _
            refine NoPanic.normal ?_
            clear hHeld
            refine lift_eq ?_
            intro w14 hw14
            have B14 := P13.out.setR (j := 2) hw14
            have m14 : MkO (some pb) w13 w14 := by rw [hw14]; exact MkO.set _
            have S14 := hidX (show RpAt w w14 pb g w.heap.size W c nmT slN (stS (onS (lookS sx) patM)) a13 c13 (MP ++ [(v, .slice va v.terms.length vc)]) from ⟨M13.out.trans m14, by simpa [RM] using B14, N13.out.mko m14 hpb, (m14.block w.heap.size (lt_of_block' R13.out) (fun e => by injection e; omega)).trans R13.out⟩)
            have HL14 : Hid (lenQ pb 6 w14 = MP.length + 1) := show _ = _ from by unfold lenQ; rw [show w14.cell? ⟨pb, 6, none⟩ = some _ from S14.out.mb.cellR (j := 2) rfl]; simp [sliceLen]
            have PL14 : onS s4' (pTo 6) = preL ((MP ++ [(v, Value.slice va v.terms.length vc)]).map Prod.fst) (onS (stS (onS (lookS sx) patM)) (pTo (6 - (MP ++ [(v, Value.slice va v.terms.length vc)]).length))) := by
              rw [PL.out, show 6 - MP.length = (6 - (MP.length + 1)) + 1 by omega, HMO.out v hv12]
              simp
            clear hw14 m14 B14 f6 z6
            go_wp2_with fail
            go_roundw
            case rel => exact ⟨_, a13, c13, MP ++ [(v, .slice va v.terms.length vc)], by simp; omega, S14.out, PL14⟩
            case measure =>
              change 6 - lenQ pb 6 w14 < 6 - lenQ pb 6 wr
              rw [HL14.out, HML.out]
              omega
          case step30 =>
            go_simp
            (go_at_call 36; refine (HPT.out _ (S10.out.below ((Below.refl _ _).drew)).mb).mono ?_; rintro e w12 ⟨hm12, ⟨v, ⟨va, vc, rfl, ho12⟩, hv12⟩, hb12⟩; unfold ptP; have s12 := hm12.rest.size; simp at s12; have g6 : w12.cell? ⟨pb, 6, none⟩ = some (.slice pa MP.length pc) := hb12.cellR (j := 2) rfl)
            refine hK.out _ _ ?hS40 (fun hHeld' => ?rest40)
            case hS40 => ((try dsimp only); all_goals trivial)
            clear hK K
            (try simp only [pA, pZ, pS])
            clear hHeld
            have hHeld := hHeld'
            clear hHeld'
            refine wpAnyH_ready (rs := [5, 8]) (by kernel_rfl) (by simp) ?_
            refine AllReadyH.cons (o := ?o41) ?ho41 (fun K hK => ?step41) (AllReadyH.cons (o := ?o42) ?ho42 (fun K hK => ?step42) AllReadyH.nil)
            case ho41 => (simp only [List.getElem?_toArray, List.getElem?_cons_succ, List.getElem?_cons_zero]; rfl)
            case ho42 => (simp only [List.getElem?_toArray, List.getElem?_cons_succ, List.getElem?_cons_zero]; rfl)
            case step41 =>
              go_simp
              refine hK.out _ _ ?hS43 (fun hHeld' => ?rest43)
              case hS43 => ((try dsimp only); all_goals trivial)
              clear hK K
              (try simp only [pA, pZ, pS])
              clear hHeld
              have hHeld := hHeld'
              clear hHeld'
              refine wpAnyH_ready (rs := [8]) (by kernel_rfl) (by simp) ?_
              refine AllReadyH.cons (o := ?o44) ?ho44 (fun K hK => ?step44) AllReadyH.nil
              case ho44 => (simp only [List.getElem?_toArray, List.getElem?_cons_succ, List.getElem?_cons_zero]; rfl)
              go_simp
              have HA12 := hidX (fun o' => (Below.refl _ _).alloc (Nat.le_refl _) o' : ∀ o', Below w12.heap.size w12 (w12.alloc o')); have g6a : ∀ o', (w12.alloc o').cell? ⟨pb, 6, none⟩ = some (.slice pa MP.length pc) := fun o' => cell_below (HA12.out o') g6
              refine hK.out _ _ ?hS45 (fun hHeld' => ?rest45)
              case hS45 => ((try dsimp only); all_goals trivial)
              clear hK K
              (try simp only [pA, pZ, pS])
              clear hHeld
              have hHeld := hHeld'
              clear hHeld'
              have S12 := hidX ((S10.out.below ((Below.refl _ _).drew)).mko hm12 hb12 hpb (by omega))
              refine wpAnyH_ready (rs := [9]) (by kernel_rfl) (by simp) ?_
              refine AllReadyH.cons (o := ?o46) ?ho46 (fun K hK => ?step46) AllReadyH.nil
              case ho46 => (simp only [List.getElem?_toArray, List.getElem?_cons_succ, List.getElem?_cons_zero]; rfl)
              (refine step_append_any (by rfl) (.tmp 47) (.tmp 50) 42 (by rfl) w.heap.size 80 _ 3 48 Tryz.underlying42 infoPF1 (by rfl) (by omega) _ MP.length _ (by rfl) (S12.out.below (HA12.out _)).pts.row (some ⟨_, 0, none⟩) 1 1 (by rfl) (ptP v (.slice va v.terms.length vc)) (by rfl) (fun e => by cases e) (news_new _ _ _ _ (by simp)) (ptP_one _ _ _ _) (by unfold maxLen; omega) (by omega) (by have := S12.out.mo.rest.size; simp; omega) ?_; intro a13 c13 w13 ho13 hg13 hl13)
              refine hK.out _ _ ?hS47 (fun hHeld' => ?rest47)
              case hS47 => ((try dsimp only); all_goals trivial)
              clear hK K
              (try simp only [pA, pZ, pS])
              clear hHeld
              have hHeld := hHeld'
              clear hHeld'
              have hrow : ∀ k, (Value.slice pa MP.length pc).ownBlock = some k → w.heap.size ≤ k := fun k hk => (S12.out.pts.rlt k hk).1
              have SA := hidX (fun o' => S12.out.below (HA12.out o'))
              have N13 := hidX (NRow.more (S10.out.below ((Below.refl _ _).drew)).pts (SA.out _).pts ho12 (Nat.le_refl _) (by have := S10.out.mo.rest.size; simpa using this) ⟨va, vc, rfl⟩ (own_bel ho12 (HA12.out _)) hg13.out ho13.out (by decide))
              have P13 := hidX ((SA.out _).mb.blocks (hg13.out.block pb (SA.out _).mb.lt (fun e => by have := hrow pb e.symm; omega)) (hg13.out.block g (SA.out _).mb.glt (fun e => by have := hrow g e.symm; omega)))
              have R13 := hidX (box_grown (SA.out _).rq hg13.out (SA.out _).pts.rty (by decide))
              have M13 := hidX ((SA.out _).mo.grown hg13.out hrow)
              have f6 : w13.cell? ⟨pb, 6, none⟩ = some (.slice pa MP.length pc) := P13.out.cellR (j := 2) rfl
              have z6 := P13.out.frozR 6
              have hp13 := P13.out.lt
              refine tk 10 hHeld ?_
              (try simp only [pA, pZ, pS])
              refine tk 11 hHeld ?_
              (try simp only [pA, pZ, pS])
              refine tk 12 hHeld ?_
              (try simp only [pA, pZ, pS])
              refine wpAnyH_ready (rs := [13]) (by kernel_rfl) (by simp) ?_
              refine AllReadyH.cons (o := ?o48) ?ho48 (fun K hK => ?step48) AllReadyH.nil
              case ho48 => (simp only [List.getElem?_toArray, List.getElem?_cons_succ, List.getElem?_cons_zero]; rfl)
              go_simp
              refine hK.out _ _ ?hS49 (fun hHeld' => ?rest49)
              case hS49 => ((try dsimp only); all_goals trivial)
              clear hK K
              (try dsimp only)
              clear hHeld
              have hHeld := hHeld'
              clear hHeld'
              refine wpAnyH_done (by kernel_rfl) ?_ _
              refine NoPanic.normal ?_
              clear hHeld
              refine lift_eq ?_
              intro w14 hw14
              have B14 := P13.out.setR (j := 2) hw14
              have m14 : MkO (some pb) w13 w14 := by rw [hw14]; exact MkO.set _
              have S14 := hidX (show RpAt w w14 pb g w.heap.size W c nmT slN (stS (onS (lookS sx) patM)) a13 c13 (MP ++ [(v, .slice va v.terms.length vc)]) from ⟨M13.out.trans m14, by simpa [RM] using B14, N13.out.mko m14 hpb, (m14.block w.heap.size (lt_of_block' R13.out) (fun e => by injection e; omega)).trans R13.out⟩)
              have HL14 : Hid (lenQ pb 6 w14 = MP.length + 1) := show _ = _ from by unfold lenQ; rw [show w14.cell? ⟨pb, 6, none⟩ = some _ from S14.out.mb.cellR (j := 2) rfl]; simp [sliceLen]
              have PL14 : onS s4' (pTo 6) = preL ((MP ++ [(v, Value.slice va v.terms.length vc)]).map Prod.fst) (onS (stS (onS (lookS sx) patM)) (pTo (6 - (MP ++ [(v, Value.slice va v.terms.length vc)]).length))) := by
                rw [PL.out, show 6 - MP.length = (6 - (MP.length + 1)) + 1 by omega, HMO.out v hv12]
                simp
              clear hw14 m14 B14 f6 z6
              go_wp2_with fail
              go_roundw
              case rel => exact ⟨_, a13, c13, MP ++ [(v, .slice va v.terms.length vc)], by simp; omega, S14.out, PL14⟩
              case measure =>
                change 6 - lenQ pb 6 w14 < 6 - lenQ pb 6 wr
                rw [HL14.out, HML.out]
                omega
            case step42 =>
              go_simp
              have HA12 := hidX (fun o' => (Below.refl _ _).alloc (Nat.le_refl _) o' : ∀ o', Below w12.heap.size w12 (w12.alloc o')); have g6a : ∀ o', (w12.alloc o').cell? ⟨pb, 6, none⟩ = some (.slice pa MP.length pc) := fun o' => cell_below (HA12.out o') g6
              refine hK.out _ _ ?hS50 (fun hHeld' => ?rest50)
              case hS50 => ((try dsimp only); all_goals trivial)
              clear hK K
              (try simp only [pA, pZ, pS])
              clear hHeld
              have hHeld := hHeld'
              clear hHeld'
              refine wpAnyH_ready (rs := [5]) (by kernel_rfl) (by simp) ?_
              refine AllReadyH.cons (o := ?o51) ?ho51 (fun K hK => ?step51) AllReadyH.nil
              case ho51 => (simp only [List.getElem?_toArray, List.getElem?_cons_succ, List.getElem?_cons_zero]; rfl)
              go_simp
              refine hK.out _ _ ?hS52 (fun hHeld' => ?rest52)
              case hS52 => ((try dsimp only); all_goals trivial)
              clear hK K
              (try simp only [pA, pZ, pS])
              clear hHeld
              have hHeld := hHeld'
              clear hHeld'
              have S12 := hidX ((S10.out.below ((Below.refl _ _).drew)).mko hm12 hb12 hpb (by omega))
              refine wpAnyH_ready (rs := [9]) (by kernel_rfl) (by simp) ?_
              refine AllReadyH.cons (o := ?o53) ?ho53 (fun K hK => ?step53) AllReadyH.nil
              case ho53 => (simp only [List.getElem?_toArray, List.getElem?_cons_succ, List.getElem?_cons_zero]; rfl)
              (refine step_append_any (by rfl) (.tmp 47) (.tmp 50) 42 (by rfl) w.heap.size 80 _ 3 48 Tryz.underlying42 infoPF1 (by rfl) (by omega) _ MP.length _ (by rfl) (S12.out.below (HA12.out _)).pts.row (some ⟨_, 0, none⟩) 1 1 (by rfl) (ptP v (.slice va v.terms.length vc)) (by rfl) (fun e => by cases e) (news_new _ _ _ _ (by simp)) (ptP_one _ _ _ _) (by unfold maxLen; omega) (by omega) (by have := S12.out.mo.rest.size; simp; omega) ?_; intro a13 c13 w13 ho13 hg13 hl13)
              refine hK.out _ _ ?hS54 (fun hHeld' => ?rest54)
              case hS54 => ((try dsimp only); all_goals trivial)
              clear hK K
              (try simp only [pA, pZ, pS])
              clear hHeld
              have hHeld := hHeld'
              clear hHeld'
              have hrow : ∀ k, (Value.slice pa MP.length pc).ownBlock = some k → w.heap.size ≤ k := fun k hk => (S12.out.pts.rlt k hk).1
              have SA := hidX (fun o' => S12.out.below (HA12.out o'))
              have N13 := hidX (NRow.more (S10.out.below ((Below.refl _ _).drew)).pts (SA.out _).pts ho12 (Nat.le_refl _) (by have := S10.out.mo.rest.size; simpa using this) ⟨va, vc, rfl⟩ (own_bel ho12 (HA12.out _)) hg13.out ho13.out (by decide))
              have P13 := hidX ((SA.out _).mb.blocks (hg13.out.block pb (SA.out _).mb.lt (fun e => by have := hrow pb e.symm; omega)) (hg13.out.block g (SA.out _).mb.glt (fun e => by have := hrow g e.symm; omega)))
              have R13 := hidX (box_grown (SA.out _).rq hg13.out (SA.out _).pts.rty (by decide))
              have M13 := hidX ((SA.out _).mo.grown hg13.out hrow)
              have f6 : w13.cell? ⟨pb, 6, none⟩ = some (.slice pa MP.length pc) := P13.out.cellR (j := 2) rfl
              have z6 := P13.out.frozR 6
              have hp13 := P13.out.lt
              refine tk 10 hHeld ?_
              (try simp only [pA, pZ, pS])
              refine tk 11 hHeld ?_
              (try simp only [pA, pZ, pS])
              refine tk 12 hHeld ?_
              (try simp only [pA, pZ, pS])
              refine wpAnyH_ready (rs := [13]) (by kernel_rfl) (by simp) ?_
              refine AllReadyH.cons (o := ?o55) ?ho55 (fun K hK => ?step55) AllReadyH.nil
              case ho55 => (simp only [List.getElem?_toArray, List.getElem?_cons_succ, List.getElem?_cons_zero]; rfl)
              go_simp
              refine hK.out _ _ ?hS56 (fun hHeld' => ?rest56)
              case hS56 => ((try dsimp only); all_goals trivial)
              clear hK K
              (try dsimp only)
              clear hHeld
              have hHeld := hHeld'
              clear hHeld'
              refine wpAnyH_done (by kernel_rfl) ?_ _
              refine NoPanic.normal ?_
              clear hHeld
              refine lift_eq ?_
              intro w14 hw14
              have B14 := P13.out.setR (j := 2) hw14
              have m14 : MkO (some pb) w13 w14 := by rw [hw14]; exact MkO.set _
              have S14 := hidX (show RpAt w w14 pb g w.heap.size W c nmT slN (stS (onS (lookS sx) patM)) a13 c13 (MP ++ [(v, .slice va v.terms.length vc)]) from ⟨M13.out.trans m14, by simpa [RM] using B14, N13.out.mko m14 hpb, (m14.block w.heap.size (lt_of_block' R13.out) (fun e => by injection e; omega)).trans R13.out⟩)
              have HL14 : Hid (lenQ pb 6 w14 = MP.length + 1) := show _ = _ from by unfold lenQ; rw [show w14.cell? ⟨pb, 6, none⟩ = some _ from S14.out.mb.cellR (j := 2) rfl]; simp [sliceLen]
              have PL14 : onS s4' (pTo 6) = preL ((MP ++ [(v, Value.slice va v.terms.length vc)]).map Prod.fst) (onS (stS (onS (lookS sx) patM)) (pTo (6 - (MP ++ [(v, Value.slice va v.terms.length vc)]).length))) := by
                rw [PL.out, show 6 - MP.length = (6 - (MP.length + 1)) + 1 by omega, HMO.out v hv12]
                simp
              clear hw14 m14 B14 f6 z6
              go_wp2_with fail
              go_roundw
              case rel => exact ⟨_, a13, c13, MP ++ [(v, .slice va v.terms.length vc)], by simp; omega, S14.out, PL14⟩
              case measure =>
                change 6 - lenQ pb 6 w14 < 6 - lenQ pb 6 wr
                rw [HL14.out, HML.out]
                omega
      · have HE : Hid (onS s4' (pTo 6) = preL (MP.map Prod.fst) (andP (onS (lookS sx) (oneM 6 toT)) fun _ l => .ok ([], l))) := show _ = _ from by rw [PL.out, pTo_end RP.out.mb (by rw [← hK]; exact hk)]
        have e1 : (K == 1) = false := by simp [hk]
        clear hK hk
        go_wp2_with (first | (go_at_call 19; refine HLK.out.mono ?_; rintro e w10 ⟨rfl, hm10, hb10⟩) | fail)
        go_meet
        exact ⟨_, pa, pc, MP, RP.out.mko hm10 hb10 hpb (by omega), HE.out⟩
  case rest =>
    obtain ⟨sx, pa, pc, MP, hrp, hpl⟩ := hcut
    obtain ⟨w10, rfl⟩ : ∃ v, v = wc := ⟨wc, rfl⟩
    have RP := hidX hrp
    have PL := hidX hpl
    have HAL := hidX (fun o => (Below.refl _ _).alloc (Nat.le_refl _) o : ∀ o, Below w10.heap.size w10 (w10.alloc o))
    have hp10 := hrp.mb.lt
    have hg10 := hrp.mb.glt
    have hw10 := hrp.mo.rest.size
    have HON := hidX (mone_any (w10.alloc (.cells #[.string ⟨#[61, 62]⟩] 9)) pb g w10.heap.size 1 W c sx _ 6 toT (by decide) (by decide) (toT_new _) (by omega) (by simp) (by decide) (hrp.mb.below (HAL.out _)))
    clear hrp hpl HR9
    go_upto_block 2 with (first | (go_at_call 35; refine HON.out.mono ?_; rintro e w11 ⟨hm11, ⟨t11, he11, _⟩, hb11⟩; obtain rfl : e = .returned (.string (mkS t11)) := he11) | fail)
    have R11 := hidX ((RP.out.below (HAL.out _)).mko hm11 hb11 hpb (by omega))
    have A11 := hidX (show RaAt w w11 pb g w.heap.size W c nmT slN pa pc MP (stS (onS sx (oneM 6 toT))) ([], 0) none 0 0 none 0 [] from ⟨R11.out.mo, ⟨R11.out.mb, fun _ _ => rfl, World.ownsRow_nil _ _ _ _, hpb, hgl, R11.out.mo.rest.size⟩, R11.out.pts, NRow.nil _ _ _, R11.out.rq, fun _ _ => by simp⟩)
    clear hm11 hb11 HON HAL R11 RP
    obtain ⟨s5, hs5⟩ : ∃ s5, s5 = stS (onS sx (oneM 6 toT)) := ⟨_, rfl⟩
    rw [← hs5] at A11
    have HS5 := hidX hs5
    clear hs5
    go_cut [] (fun wx => ∃ sy es ea ec bg aa ac MA, RaAt w wx pb g w.heap.size W c nmT slN pa pc MP sy es ea ec bg aa ac MA ∧ onS s5 (aTo 8 ([], 0)) = preE (MA.map Prod.fst) (andP (onS sy (takeW 41)) fun _ l => .ok (([], es), l)))
    case first =>
      go_wp2_with fail
      go_loopw [] (fun wr => ∃ (sy : Ps) (es : ES) (ea : Option Addr) (ec : Nat) (bg : Int) (aa : Option Addr) (ac : Nat) (MA : List (Ac × Value)), MA.length ≤ 8 ∧ RaAt w wr pb g w.heap.size W c nmT slN pa pc MP sy es ea ec bg aa ac MA ∧ onS s5 (aTo 8 ([], 0)) = preE (MA.map Prod.fst) (onS sy (aTo (8 - MA.length) es))) (fun wr => 8 - lenQ pb 8 wr)
      case atStart => exact ⟨s5, ([], 0), none, 0, 0, none, 0, [], by simp, A11.out, by unfold preE; cases onS s5 (aTo 8 ([], 0)) <;> rfl⟩
      case round =>
        obtain ⟨sy, es, ea, ec, bg, aa, ac, MA, hML, hra, hpl⟩ := hrel
        have RA := hidX hra
        have PA := hidX hpl
        have c8 : wr.cell? ⟨pb, 8, none⟩ = some (.slice aa MA.length ac) := hra.st.mb.cellR (j := 4) rfl
        have HML : Hid (lenQ pb 8 wr = MA.length) := show _ = _ from by unfold lenQ; rw [c8]; rfl
        have HLK := hidX (look_any wr pb g W c sy _ hra.st.mb)
        have hpr := hra.st.mb.lt
        obtain ⟨K, hK⟩ : ∃ K, K = lookK sy := ⟨_, rfl⟩
        unfold LkPost at HLK
        rw [← hK] at HLK
        clear hra hpl A11
        by_cases hk : K = 1
        · have HKK : Hid (lookK sy = 1) := show _ = _ from by rw [← hK]; exact hk
          have e1 : (K == 1) = true := by simp [hk]
          clear hK hk
          by_cases h8 : MA.length = 8
          · have HF := hidX (fun u (hu : MB u pb g W c (lookS sy) (RM (.string nmT) (.int .i64 slN) (.slice pa MP.length pc) (.slice ea es.1.length ec) (.slice aa MA.length ac) (.int .i64 bg))) => fail_any u pb g W c (lookS sy) _ 4 (by decide) hu)
            have HE : Hid (onS s5 (aTo 8 ([], 0)) = preE (MA.map Prod.fst) (andP (onS (failS 4 (lookS sy)) (takeW 41)) fun _ l => .ok (([], es), l))) := show _ = _ from by rw [PA.out, h8, show 8 - 8 = 0 from rfl, aTo_full RA.out.st.mb HKK.out]
            have hl8 : (8 : Int) ≤ (MA.length : Int) := by omega
            clear h8
            go_wp2_with (first | (go_at_call 19; refine HLK.out.mono ?_; rintro e w12 ⟨rfl, hm12, hb12⟩; have c9 : w12.cell? ⟨pb, 8, none⟩ = some (.slice aa MA.length ac) := hb12.cellR (j := 4) rfl; have hp12 := hb12.lt) | (go_at_call 20; refine (HF.out _ hb12).mono ?_; rintro e w13 ⟨rfl, hm13, hb13⟩) | fail)
            go_meet
            exact ⟨_, es, ea, ec, bg, aa, ac, MA, (RA.out.mko hm12 hb12 look_stays (by omega)).mko hm13 hb13 (fun l e => by cases hl : lookS sy with | error f => rw [hl] at e; cases e | ok l' => exact ⟨l', rfl⟩) (by omega), HE.out⟩
          · have hl8 : ¬ (8 : Int) ≤ (MA.length : Int) := by omega
            have HAC := hidX (fun u (hu : MX u w.heap.size pb g W c (lookS sy) (.string nmT) (.int .i64 slN) (.slice pa MP.length pc) (.slice aa MA.length ac) es ea ec bg) => maction_any u w.heap.size pb g W c (lookS sy) _ _ _ _ es ea ec bg hu (fun l e => by obtain ⟨l', e'⟩ := look_stays l e; exact RA.out.hk l' e'))
            have HMO := hidX (fun v es1 hv => aTo_more (n := 8 - (MA.length + 1)) (es := es) RA.out.st.mb HKK.out v es1 hv (MA.map Prod.fst))
            have HHK := hidX (fun (v : Ac) (es' : ES) => actM_inv (s := lookS sy) (es := es) (v := v) (es' := es') (fun l e => by obtain ⟨l', e'⟩ := look_stays l e; exact RA.out.hk l' e'))
            have HE8 : Hid (8 - MA.length = (8 - (MA.length + 1)) + 1) := show _ = _ from by omega
            go_upto_region 15 with (first | (go_at_call 19; refine HLK.out.mono ?_; rintro e w12 ⟨rfl, hm12, hb12⟩; have c9 : w12.cell? ⟨pb, 8, none⟩ = some (.slice aa MA.length ac) := hb12.cellR (j := 4) rfl; have hp12 := hb12.lt) | fail)
            have S12 := hidX (RA.out.mko hm12 hb12 look_stays (by omega))
            have s12 := hm12.rest.size
            clear hm12 hb12 HLK c8 c9
            go_upto_region 16 with (first | (go_at_call 37; refine (HAC.out _ S12.out.st).mono ?_; rintro e w13 ⟨hm13, v, es2, ea2, ec2, bg2, ⟨va, vc, rfl, ho13⟩, hx13, hr13, hv13⟩; unfold acL) | fail)
            refine lift_alloc ?_
            intro w14 hW14 hq14
            have S13 := hidX (S12.out.mkx hm13 hx13 (by omega) (HHK.out v es2 hv13))
            have S14 := hidX (S13.out.below hW14)
            have OV := hidX (own_bel ho13 hW14)
            have OV0 := hidX ho13
            have HV := hidX hv13
            have s13 := hm13.rest.size
            have s14 : w13.heap.size < w14.heap.size := lt_of_block' hq14
            have d8 : w14.cell? ⟨pb, 8, none⟩ = some (.slice aa MA.length ac) := S14.out.st.mb.cellR (j := 4) rfl
            have g0 := cell_of (L := [_, _, _, _]) hq14 (j := 0) rfl
            have g1 := cell_of (L := [_, _, _, _]) hq14 (j := 1) rfl
            have g2 := cell_of (L := [_, _, _, _]) hq14 (j := 2) rfl
            have g3 := cell_of (L := [_, _, _, _]) hq14 (j := 3) rfl
            have hp14 := S14.out.st.mb.lt
            have s14w : w.heap.size ≤ w14.heap.size := S14.out.mo.rest.size
            clear hm13 hx13 hr13 hv13 ho13 hW14 hq14 S13 HAC HHK
            refine wp_region_noPanic ?_
            refine wp_region_held_drew (S := (fun _ => True)) (by kernel_rfl) ?_ (fun hHeld => ?_)
            · (try dsimp only)
              all_goals trivial
            refine tk 0 hHeld ?_
            (try simp only [pA, pZ, pS])
            refine tk 1 hHeld ?_
            (try simp only [pA, pZ, pS])
            refine tk 2 hHeld ?_
            (try simp only [pA, pZ, pS])
            refine tk 3 hHeld ?_
            (try simp only [pA, pZ, pS])
            refine tk 4 hHeld ?_
            (try simp only [pA, pZ, pS])
            refine wpAnyH_ready (rs := [5, 6]) (by kernel_rfl) (by simp) ?_
            refine AllReadyH.cons (o := ?o1) ?ho1 (fun K hK => ?step1) (AllReadyH.cons (o := ?o2) ?ho2 (fun K hK => ?step2) AllReadyH.nil)
            case ho1 => (simp only [List.getElem?_toArray, List.getElem?_cons_succ, List.getElem?_cons_zero]; rfl)
            case ho2 => (simp only [List.getElem?_toArray, List.getElem?_cons_succ, List.getElem?_cons_zero]; rfl)
            case step1 =>
              go_simp
              refine hK.out _ _ ?hS3 (fun hHeld' => ?rest3)
              case hS3 => ((try dsimp only); all_goals trivial)
              clear hK K
              (try simp only [pA, pZ, pS])
              clear hHeld
              have hHeld := hHeld'
              clear hHeld'
              refine wpAnyH_ready (rs := [6]) (by kernel_rfl) (by simp) ?_
              refine AllReadyH.cons (o := ?o4) ?ho4 (fun K hK => ?step4) AllReadyH.nil
              case ho4 => (simp only [List.getElem?_toArray, List.getElem?_cons_succ, List.getElem?_cons_zero]; rfl)
              go_simp
              refine hK.out _ _ ?hS5 (fun hHeld' => ?rest5)
              case hS5 => ((try dsimp only); all_goals trivial)
              clear hK K
              (try simp only [pA, pZ, pS])
              clear hHeld
              have hHeld := hHeld'
              clear hHeld'
              refine wpAnyH_ready (rs := [7]) (by kernel_rfl) (by simp) ?_
              refine AllReadyH.cons (o := ?o6) ?ho6 (fun K hK => ?step6) AllReadyH.nil
              case ho6 => (simp only [List.getElem?_toArray, List.getElem?_cons_succ, List.getElem?_cons_zero]; rfl)
              go_simp
              have HA7 := hidX (fun o' => (Below.refl _ _).alloc (Nat.le_refl _) o' : ∀ o', Below w14.drew.heap.size w14.drew (w14.drew.alloc o')); have d7a : ∀ o', (w14.drew.alloc o').cell? ⟨pb, 8, none⟩ = some (.slice aa MA.length ac) := fun o' => cell_below (HA7.out o') d8; have d7b : ∀ o', (w14.alloc o').drew.cell? ⟨pb, 8, none⟩ = some (.slice aa MA.length ac) := d7a; have d7c : ∀ o', (w14.alloc o').cell? ⟨pb, 8, none⟩ = some (.slice aa MA.length ac) := d7a
              refine hK.out _ _ ?hS7 (fun hHeld' => ?rest7)
              case hS7 => ((try dsimp only); all_goals trivial)
              clear hK K
              (try simp only [pA, pZ, pS])
              clear hHeld
              have hHeld := hHeld'
              clear hHeld'
              have S15 := hidX (S14.out.below ((Below.refl _ _).drew))
              refine wpAnyH_ready (rs := [8]) (by kernel_rfl) (by simp) ?_
              refine AllReadyH.cons (o := ?o8) ?ho8 (fun K hK => ?step8) AllReadyH.nil
              case ho8 => (simp only [List.getElem?_toArray, List.getElem?_cons_succ, List.getElem?_cons_zero]; rfl)
              (refine step_append_any (by rfl) (.tmp 77) (.tmp 79) 44 (by rfl) w.heap.size 84 _ 4 56 Tryz.underlying44 infoAF1 (by rfl) (by omega) _ MA.length _ (by rfl) (S15.out.below (HA7.out _)).acs.row (some ⟨_, 0, none⟩) 1 1 (by rfl) (acL v (.slice va v.args.length vc)) (by rfl) (fun e => by cases e) (news_new _ _ _ _ (by simp)) (acL_one _ _ _ _) (by unfold maxLen; omega) (by omega) (by simp; omega) ?_; intro a8 c8 u8 ho8 hg8 hl8x)
              refine hK.out _ _ ?hS9 (fun hHeld' => ?rest9)
              case hS9 => ((try dsimp only); all_goals trivial)
              clear hK K
              (try simp only [pA, pZ, pS])
              clear hHeld
              have hHeld := hHeld'
              clear hHeld'
              have hrow : ∀ k, (Value.slice aa MA.length ac).ownBlock = some k → w.heap.size ≤ k := fun k hk => (S15.out.acs.rlt k hk).1
              have SA := hidX (fun o' => S15.out.below (HA7.out o'))
              have N16 := hidX (NRow.more S12.out.acs (SA.out _).acs OV0.out (Nat.le_refl _) (by have := S12.out.mo.rest.size; omega) ⟨va, vc, rfl⟩ (own_bel (own_bel OV.out ((Below.refl _ _).drew)) (HA7.out _)) hg8.out ho8.out (by decide))
              have P16 := hidX ((SA.out _).st.mb.blocks (hg8.out.block pb (SA.out _).st.mb.lt (fun e => by have := hrow pb e.symm; omega)) (hg8.out.block g (SA.out _).st.mb.glt (fun e => by have := hrow g e.symm; omega)))
              have E16 := hidX (own_grown (SA.out _).st.ow hg8.out (SA.out _).acs.rty (by decide))
              have T16 := hidX ((SA.out _).pts.grown hg8.out (SA.out _).acs.rty (by decide) (by decide))
              have R16 := hidX (box_grown (SA.out _).rq hg8.out (SA.out _).acs.rty (by decide))
              have M16 := hidX ((SA.out _).mo.grown hg8.out hrow)
              have f8 : u8.cell? ⟨pb, 8, none⟩ = some (.slice aa MA.length ac) := P16.out.cellR (j := 4) rfl
              have z8 := P16.out.frozR 8
              have hp16 := P16.out.lt
              refine tk 9 hHeld ?_
              (try simp only [pA, pZ, pS])
              refine tk 10 hHeld ?_
              (try simp only [pA, pZ, pS])
              refine tk 11 hHeld ?_
              (try simp only [pA, pZ, pS])
              refine wpAnyH_ready (rs := [12]) (by kernel_rfl) (by simp) ?_
              refine AllReadyH.cons (o := ?o10) ?ho10 (fun K hK => ?step10) AllReadyH.nil
              case ho10 => (simp only [List.getElem?_toArray, List.getElem?_cons_succ, List.getElem?_cons_zero]; rfl)
              go_simp
              refine hK.out _ _ ?hS11 (fun hHeld' => ?rest11)
              case hS11 => ((try dsimp only); all_goals trivial)
              clear hK K
              (try dsimp only)
              clear hHeld
              have hHeld := hHeld'
              clear hHeld'
              refine wpAnyH_done (by kernel_rfl) ?_ _
              refine NoPanic.normal ?_
              clear hHeld
              refine lift_eq ?_
              intro w17 hw17
              have B17 := P16.out.setR (j := 4) hw17
              have m17 : MkO (some pb) u8 w17 := by rw [hw17]; exact MkO.set _
              have S17 := hidX (show RaAt w w17 pb g w.heap.size W c nmT slN pa pc MP (stS (onS (lookS sy) (actM es))) es2 ea2 ec2 bg2 a8 c8 (MA ++ [(v, .slice va v.args.length vc)]) from ⟨M16.out.trans m17, ⟨by simpa [RM] using B17, S14.out.st.hb, own_mko E16.out m17 hpb, hpb, hgl, (M16.out.trans m17).rest.size⟩, T16.out.mko m17 hpb, N16.out.mko m17 hpb, (m17.block w.heap.size (lt_of_block' R16.out) (fun e => by injection e; omega)).trans R16.out, S14.out.hk⟩)
              have HL17 : Hid (lenQ pb 8 w17 = MA.length + 1) := show _ = _ from by unfold lenQ; rw [show w17.cell? ⟨pb, 8, none⟩ = some _ from S17.out.st.mb.cellR (j := 4) rfl]; simp [sliceLen]
              have PL17 : onS s5 (aTo 8 ([], 0)) = preE ((MA ++ [(v, Value.slice va v.args.length vc)]).map Prod.fst) (onS (stS (onS (lookS sy) (actM es))) (aTo (8 - (MA ++ [(v, Value.slice va v.args.length vc)]).length) es2)) := by
                rw [PA.out, HE8.out, HMO.out v es2 HV.out]
                simp
              clear hw17 m17 B17 f8 z8 d8 g0 g1 g2 g3
              go_wp2_with fail
              go_roundw
              case rel => exact ⟨_, es2, ea2, ec2, bg2, a8, c8, MA ++ [(v, .slice va v.args.length vc)], by simp; omega, S17.out, PL17⟩
              case measure =>
                change 8 - lenQ pb 8 w17 < 8 - lenQ pb 8 wr
                rw [HL17.out, HML.out]
                omega
            case step2 =>
              go_simp
              refine hK.out _ _ ?hS12 (fun hHeld' => ?rest12)
              case hS12 => ((try dsimp only); all_goals trivial)
              clear hK K
              (try simp only [pA, pZ, pS])
              clear hHeld
              have hHeld := hHeld'
              clear hHeld'
              refine wpAnyH_ready (rs := [5, 7]) (by kernel_rfl) (by simp) ?_
              refine AllReadyH.cons (o := ?o13) ?ho13 (fun K hK => ?step13) (AllReadyH.cons (o := ?o14) ?ho14 (fun K hK => ?step14) AllReadyH.nil)
              case ho13 => (simp only [List.getElem?_toArray, List.getElem?_cons_succ, List.getElem?_cons_zero]; rfl)
              case ho14 => (simp only [List.getElem?_toArray, List.getElem?_cons_succ, List.getElem?_cons_zero]; rfl)
              case step13 =>
                go_simp
                refine hK.out _ _ ?hS15 (fun hHeld' => ?rest15)
                case hS15 => ((try dsimp only); all_goals trivial)
                clear hK K
                (try simp only [pA, pZ, pS])
                clear hHeld
                have hHeld := hHeld'
                clear hHeld'
                refine wpAnyH_ready (rs := [7]) (by kernel_rfl) (by simp) ?_
                refine AllReadyH.cons (o := ?o16) ?ho16 (fun K hK => ?step16) AllReadyH.nil
                case ho16 => (simp only [List.getElem?_toArray, List.getElem?_cons_succ, List.getElem?_cons_zero]; rfl)
                go_simp
                have HA7 := hidX (fun o' => (Below.refl _ _).alloc (Nat.le_refl _) o' : ∀ o', Below w14.drew.heap.size w14.drew (w14.drew.alloc o')); have d7a : ∀ o', (w14.drew.alloc o').cell? ⟨pb, 8, none⟩ = some (.slice aa MA.length ac) := fun o' => cell_below (HA7.out o') d8; have d7b : ∀ o', (w14.alloc o').drew.cell? ⟨pb, 8, none⟩ = some (.slice aa MA.length ac) := d7a; have d7c : ∀ o', (w14.alloc o').cell? ⟨pb, 8, none⟩ = some (.slice aa MA.length ac) := d7a
                refine hK.out _ _ ?hS17 (fun hHeld' => ?rest17)
                case hS17 => ((try dsimp only); all_goals trivial)
                clear hK K
                (try simp only [pA, pZ, pS])
                clear hHeld
                have hHeld := hHeld'
                clear hHeld'
                have S15 := hidX (S14.out.below ((Below.refl _ _).drew))
                refine wpAnyH_ready (rs := [8]) (by kernel_rfl) (by simp) ?_
                refine AllReadyH.cons (o := ?o18) ?ho18 (fun K hK => ?step18) AllReadyH.nil
                case ho18 => (simp only [List.getElem?_toArray, List.getElem?_cons_succ, List.getElem?_cons_zero]; rfl)
                (refine step_append_any (by rfl) (.tmp 77) (.tmp 79) 44 (by rfl) w.heap.size 84 _ 4 56 Tryz.underlying44 infoAF1 (by rfl) (by omega) _ MA.length _ (by rfl) (S15.out.below (HA7.out _)).acs.row (some ⟨_, 0, none⟩) 1 1 (by rfl) (acL v (.slice va v.args.length vc)) (by rfl) (fun e => by cases e) (news_new _ _ _ _ (by simp)) (acL_one _ _ _ _) (by unfold maxLen; omega) (by omega) (by simp; omega) ?_; intro a8 c8 u8 ho8 hg8 hl8x)
                refine hK.out _ _ ?hS19 (fun hHeld' => ?rest19)
                case hS19 => ((try dsimp only); all_goals trivial)
                clear hK K
                (try simp only [pA, pZ, pS])
                clear hHeld
                have hHeld := hHeld'
                clear hHeld'
                have hrow : ∀ k, (Value.slice aa MA.length ac).ownBlock = some k → w.heap.size ≤ k := fun k hk => (S15.out.acs.rlt k hk).1
                have SA := hidX (fun o' => S15.out.below (HA7.out o'))
                have N16 := hidX (NRow.more S12.out.acs (SA.out _).acs OV0.out (Nat.le_refl _) (by have := S12.out.mo.rest.size; omega) ⟨va, vc, rfl⟩ (own_bel (own_bel OV.out ((Below.refl _ _).drew)) (HA7.out _)) hg8.out ho8.out (by decide))
                have P16 := hidX ((SA.out _).st.mb.blocks (hg8.out.block pb (SA.out _).st.mb.lt (fun e => by have := hrow pb e.symm; omega)) (hg8.out.block g (SA.out _).st.mb.glt (fun e => by have := hrow g e.symm; omega)))
                have E16 := hidX (own_grown (SA.out _).st.ow hg8.out (SA.out _).acs.rty (by decide))
                have T16 := hidX ((SA.out _).pts.grown hg8.out (SA.out _).acs.rty (by decide) (by decide))
                have R16 := hidX (box_grown (SA.out _).rq hg8.out (SA.out _).acs.rty (by decide))
                have M16 := hidX ((SA.out _).mo.grown hg8.out hrow)
                have f8 : u8.cell? ⟨pb, 8, none⟩ = some (.slice aa MA.length ac) := P16.out.cellR (j := 4) rfl
                have z8 := P16.out.frozR 8
                have hp16 := P16.out.lt
                refine tk 9 hHeld ?_
                (try simp only [pA, pZ, pS])
                refine tk 10 hHeld ?_
                (try simp only [pA, pZ, pS])
                refine tk 11 hHeld ?_
                (try simp only [pA, pZ, pS])
                refine wpAnyH_ready (rs := [12]) (by kernel_rfl) (by simp) ?_
                refine AllReadyH.cons (o := ?o20) ?ho20 (fun K hK => ?step20) AllReadyH.nil
                case ho20 => (simp only [List.getElem?_toArray, List.getElem?_cons_succ, List.getElem?_cons_zero]; rfl)
                go_simp
                refine hK.out _ _ ?hS21 (fun hHeld' => ?rest21)
                case hS21 => ((try dsimp only); all_goals trivial)
                clear hK K
                (try dsimp only)
                clear hHeld
                have hHeld := hHeld'
                clear hHeld'
                refine wpAnyH_done (by kernel_rfl) ?_ _
                refine NoPanic.normal ?_
                clear hHeld
                refine lift_eq ?_
                intro w17 hw17
                have B17 := P16.out.setR (j := 4) hw17
                have m17 : MkO (some pb) u8 w17 := by rw [hw17]; exact MkO.set _
                have S17 := hidX (show RaAt w w17 pb g w.heap.size W c nmT slN pa pc MP (stS (onS (lookS sy) (actM es))) es2 ea2 ec2 bg2 a8 c8 (MA ++ [(v, .slice va v.args.length vc)]) from ⟨M16.out.trans m17, ⟨by simpa [RM] using B17, S14.out.st.hb, own_mko E16.out m17 hpb, hpb, hgl, (M16.out.trans m17).rest.size⟩, T16.out.mko m17 hpb, N16.out.mko m17 hpb, (m17.block w.heap.size (lt_of_block' R16.out) (fun e => by injection e; omega)).trans R16.out, S14.out.hk⟩)
                have HL17 : Hid (lenQ pb 8 w17 = MA.length + 1) := show _ = _ from by unfold lenQ; rw [show w17.cell? ⟨pb, 8, none⟩ = some _ from S17.out.st.mb.cellR (j := 4) rfl]; simp [sliceLen]
                have PL17 : onS s5 (aTo 8 ([], 0)) = preE ((MA ++ [(v, Value.slice va v.args.length vc)]).map Prod.fst) (onS (stS (onS (lookS sy) (actM es))) (aTo (8 - (MA ++ [(v, Value.slice va v.args.length vc)]).length) es2)) := by
                  rw [PA.out, HE8.out, HMO.out v es2 HV.out]
                  simp
                clear hw17 m17 B17 f8 z8 d8 g0 g1 g2 g3
                go_wp2_with fail
                go_roundw
                case rel => exact ⟨_, es2, ea2, ec2, bg2, a8, c8, MA ++ [(v, .slice va v.args.length vc)], by simp; omega, S17.out, PL17⟩
                case measure =>
                  change 8 - lenQ pb 8 w17 < 8 - lenQ pb 8 wr
                  rw [HL17.out, HML.out]
                  omega
              case step14 =>
                go_simp
                have HA7 := hidX (fun o' => (Below.refl _ _).alloc (Nat.le_refl _) o' : ∀ o', Below w14.drew.heap.size w14.drew (w14.drew.alloc o')); have d7a : ∀ o', (w14.drew.alloc o').cell? ⟨pb, 8, none⟩ = some (.slice aa MA.length ac) := fun o' => cell_below (HA7.out o') d8; have d7b : ∀ o', (w14.alloc o').drew.cell? ⟨pb, 8, none⟩ = some (.slice aa MA.length ac) := d7a; have d7c : ∀ o', (w14.alloc o').cell? ⟨pb, 8, none⟩ = some (.slice aa MA.length ac) := d7a
                refine hK.out _ _ ?hS22 (fun hHeld' => ?rest22)
                case hS22 => ((try dsimp only); all_goals trivial)
                clear hK K
                (try simp only [pA, pZ, pS])
                clear hHeld
                have hHeld := hHeld'
                clear hHeld'
                refine wpAnyH_ready (rs := [5]) (by kernel_rfl) (by simp) ?_
                refine AllReadyH.cons (o := ?o23) ?ho23 (fun K hK => ?step23) AllReadyH.nil
                case ho23 => (simp only [List.getElem?_toArray, List.getElem?_cons_succ, List.getElem?_cons_zero]; rfl)
                go_simp
                refine hK.out _ _ ?hS24 (fun hHeld' => ?rest24)
                case hS24 => ((try dsimp only); all_goals trivial)
                clear hK K
                (try simp only [pA, pZ, pS])
                clear hHeld
                have hHeld := hHeld'
                clear hHeld'
                have S15 := hidX (S14.out.below ((Below.refl _ _).drew))
                refine wpAnyH_ready (rs := [8]) (by kernel_rfl) (by simp) ?_
                refine AllReadyH.cons (o := ?o25) ?ho25 (fun K hK => ?step25) AllReadyH.nil
                case ho25 => (simp only [List.getElem?_toArray, List.getElem?_cons_succ, List.getElem?_cons_zero]; rfl)
                (refine step_append_any (by rfl) (.tmp 77) (.tmp 79) 44 (by rfl) w.heap.size 84 _ 4 56 Tryz.underlying44 infoAF1 (by rfl) (by omega) _ MA.length _ (by rfl) (S15.out.below (HA7.out _)).acs.row (some ⟨_, 0, none⟩) 1 1 (by rfl) (acL v (.slice va v.args.length vc)) (by rfl) (fun e => by cases e) (news_new _ _ _ _ (by simp)) (acL_one _ _ _ _) (by unfold maxLen; omega) (by omega) (by simp; omega) ?_; intro a8 c8 u8 ho8 hg8 hl8x)
                refine hK.out _ _ ?hS26 (fun hHeld' => ?rest26)
                case hS26 => ((try dsimp only); all_goals trivial)
                clear hK K
                (try simp only [pA, pZ, pS])
                clear hHeld
                have hHeld := hHeld'
                clear hHeld'
                have hrow : ∀ k, (Value.slice aa MA.length ac).ownBlock = some k → w.heap.size ≤ k := fun k hk => (S15.out.acs.rlt k hk).1
                have SA := hidX (fun o' => S15.out.below (HA7.out o'))
                have N16 := hidX (NRow.more S12.out.acs (SA.out _).acs OV0.out (Nat.le_refl _) (by have := S12.out.mo.rest.size; omega) ⟨va, vc, rfl⟩ (own_bel (own_bel OV.out ((Below.refl _ _).drew)) (HA7.out _)) hg8.out ho8.out (by decide))
                have P16 := hidX ((SA.out _).st.mb.blocks (hg8.out.block pb (SA.out _).st.mb.lt (fun e => by have := hrow pb e.symm; omega)) (hg8.out.block g (SA.out _).st.mb.glt (fun e => by have := hrow g e.symm; omega)))
                have E16 := hidX (own_grown (SA.out _).st.ow hg8.out (SA.out _).acs.rty (by decide))
                have T16 := hidX ((SA.out _).pts.grown hg8.out (SA.out _).acs.rty (by decide) (by decide))
                have R16 := hidX (box_grown (SA.out _).rq hg8.out (SA.out _).acs.rty (by decide))
                have M16 := hidX ((SA.out _).mo.grown hg8.out hrow)
                have f8 : u8.cell? ⟨pb, 8, none⟩ = some (.slice aa MA.length ac) := P16.out.cellR (j := 4) rfl
                have z8 := P16.out.frozR 8
                have hp16 := P16.out.lt
                refine tk 9 hHeld ?_
                (try simp only [pA, pZ, pS])
                refine tk 10 hHeld ?_
                (try simp only [pA, pZ, pS])
                refine tk 11 hHeld ?_
                (try simp only [pA, pZ, pS])
                refine wpAnyH_ready (rs := [12]) (by kernel_rfl) (by simp) ?_
                refine AllReadyH.cons (o := ?o27) ?ho27 (fun K hK => ?step27) AllReadyH.nil
                case ho27 => (simp only [List.getElem?_toArray, List.getElem?_cons_succ, List.getElem?_cons_zero]; rfl)
                go_simp
                refine hK.out _ _ ?hS28 (fun hHeld' => ?rest28)
                case hS28 => ((try dsimp only); all_goals trivial)
                clear hK K
                (try dsimp only)
                clear hHeld
                have hHeld := hHeld'
                clear hHeld'
                refine wpAnyH_done (by kernel_rfl) ?_ _
                refine NoPanic.normal ?_
                clear hHeld
                refine lift_eq ?_
                intro w17 hw17
                have B17 := P16.out.setR (j := 4) hw17
                have m17 : MkO (some pb) u8 w17 := by rw [hw17]; exact MkO.set _
                have S17 := hidX (show RaAt w w17 pb g w.heap.size W c nmT slN pa pc MP (stS (onS (lookS sy) (actM es))) es2 ea2 ec2 bg2 a8 c8 (MA ++ [(v, .slice va v.args.length vc)]) from ⟨M16.out.trans m17, ⟨by simpa [RM] using B17, S14.out.st.hb, own_mko E16.out m17 hpb, hpb, hgl, (M16.out.trans m17).rest.size⟩, T16.out.mko m17 hpb, N16.out.mko m17 hpb, (m17.block w.heap.size (lt_of_block' R16.out) (fun e => by injection e; omega)).trans R16.out, S14.out.hk⟩)
                have HL17 : Hid (lenQ pb 8 w17 = MA.length + 1) := show _ = _ from by unfold lenQ; rw [show w17.cell? ⟨pb, 8, none⟩ = some _ from S17.out.st.mb.cellR (j := 4) rfl]; simp [sliceLen]
                have PL17 : onS s5 (aTo 8 ([], 0)) = preE ((MA ++ [(v, Value.slice va v.args.length vc)]).map Prod.fst) (onS (stS (onS (lookS sy) (actM es))) (aTo (8 - (MA ++ [(v, Value.slice va v.args.length vc)]).length) es2)) := by
                  rw [PA.out, HE8.out, HMO.out v es2 HV.out]
                  simp
                clear hw17 m17 B17 f8 z8 d8 g0 g1 g2 g3
                go_wp2_with fail
                go_roundw
                case rel => exact ⟨_, es2, ea2, ec2, bg2, a8, c8, MA ++ [(v, .slice va v.args.length vc)], by simp; omega, S17.out, PL17⟩
                case measure =>
                  change 8 - lenQ pb 8 w17 < 8 - lenQ pb 8 wr
                  rw [HL17.out, HML.out]
                  omega
        · have HE : Hid (onS s5 (aTo 8 ([], 0)) = preE (MA.map Prod.fst) (andP (onS (lookS sy) (takeW 41)) fun _ l => .ok (([], es), l))) := show _ = _ from by rw [PA.out, aTo_end RA.out.st.mb (by rw [← hK]; exact hk)]
          have e1 : (K == 1) = false := by simp [hk]
          clear hK hk
          go_wp2_with (first | (go_at_call 19; refine HLK.out.mono ?_; rintro e w12 ⟨rfl, hm12, hb12⟩) | fail)
          go_meet
          exact ⟨_, es, ea, ec, bg, aa, ac, MA, RA.out.mko hm12 hb12 look_stays (by omega), HE.out⟩
    case rest =>
      obtain ⟨sy, es, ea, ec, bg, aa, ac, MA, hra, hpa⟩ := hcut
      obtain ⟨w12, rfl⟩ : ∃ v, v = wc := ⟨wc, rfl⟩
      have RA := hidX hra
      have PA := hidX hpa
      have HTK := hidX (mtake_any w12 pb g W c sy _ 2 41 rel41 (by decide) (by decide) hra.st.mb)
      have hrl : w.heap.size < w12.heap.size := lt_of_block' hra.rq
      have hh := rule_head HM.out.gs HS1.out HS2.out HS3.out HYN.out HS4.out HYS.out
      rw [← HNM.out, ← HSL.out] at hh
      have HFIN := hidX (rule_end hh PL.out HS5.out PA.out)
      clear hra hpa A11 hh
      go_upto_region 18 with (first | (go_at_call 34; refine HTK.out.mono ?_; rintro e w13 ⟨hm13, ⟨y13, he13, _⟩, hb13⟩; obtain rfl : e = .returned (wdA y13) := he13; unfold wdA) | fail)
      have R13 := hidX (RA.out.mko hm13 hb13 st_ok (by omega))
      have d4 : w13.cell? ⟨pb, 4, none⟩ = some (.string nmT) := hb13.cellR (j := 0) rfl
      have d5 : w13.cell? ⟨pb, 5, none⟩ = some (.int .i64 slN) := hb13.cellR (j := 1) rfl
      have d6 : w13.cell? ⟨pb, 6, none⟩ = some (.slice pa MP.length pc) := hb13.cellR (j := 2) rfl
      have d7 : w13.cell? ⟨pb, 7, none⟩ = some (.slice ea es.1.length ec) := hb13.cellR (j := 3) rfl
      have d8 : w13.cell? ⟨pb, 8, none⟩ = some (.slice aa MA.length ac) := hb13.cellR (j := 4) rfl
      have hp13 := hb13.lt
      have hg13 := hb13.glt
      have hrq := R13.out.rq
      clear hm13 hb13 HTK
      go_wp2_with (first | (refine wpList_store_blk (by rfl) 46 (.tmp 2) (.tmp 89) (by rfl) w.heap.size (ruL nmT slN (.slice pa MP.length pc) (.slice ea es.1.length ec) (.slice aa MA.length ac)) (by rfl) (by rfl) _ 46 hrq (by rfl) infoRuP (ruL_one _ _ _ _ _ _ _ _ _ _ _) ?_; intro w14 hb14 ht14) | fail)
      have hld := run_loadVar_mid (P := Tryz.prog) w14 w.heap.size 0 46 (ruL nmT slN (.slice pa MP.length pc) (.slice ea es.1.length ec) (.slice aa MA.length ac)) _ (range_blk hb14.out) Tryz.underlying46 rfl infoRuP
      (try go_frame)
      refine bodyPost_ret (v := .agg (ruL nmT slN (.slice pa MP.length pc) (.slice ea es.1.length ec) (.slice aa MA.length ac)).toArray) (by simp [results, Tryz.results21, asAddr, hld]) rfl ?_
      refine ⟨R13.out.mo.turn ht14.out (Nat.le_refl _), ⟨⟨nmT, slN, MP.map Prod.fst, es.1, MA.map Prod.fst⟩, pa, pc, MP, ea, ec, aa, ac, MA⟩, .string nmT, .int .i64 slN, .slice pa MP.length pc, .slice ea es.1.length ec, .slice aa MA.length ac, .int .i64 bg, rfl, ⟨R13.out.pts.turned ht14.out hrq (by decide) (by decide), own_turn R13.out.st.ow ht14.out hrq (by decide), R13.out.acs.turned ht14.out hrq (by decide) (by decide), rfl, rfl⟩, ?_, ?_⟩
      · have hmb := R13.out.st.mb.turned ht14.out (by omega) (by omega)
        rcases HFIN.out with ⟨f, h1, h2⟩ | ⟨y, l, h1, h2⟩
        · rw [h2] at hmb
          rw [h1]
          exact hmb
        · rw [h2] at hmb
          rw [h1]
          exact hmb
      · intro y l e
        rcases HFIN.out with ⟨f, h1, h2⟩ | ⟨y', l', h1, h2⟩
        · rw [h1] at e
          cases e
        · rw [h1] at e
          injection e with e
          injection e with e _
          exact e.symm
end Go.Proofs.YtdhpoagjmiligaaGreatDoor

namespace Go.Proofs.YtdhpoagjmiligaaGreatDoor
open Go.RowKit
attribute [local go_sem ↓] Go.wp_at_zero Go.wp_at_succ

theorem rel0 : ∀ x, WdOk x → (x.kind = 0 ↔ pkW x = 0) := fun _ h => (pk_rel h).2.2.2.2.2
theorem ruM_not {l r : List Wd} {x : Wd} (h : nextW l = .ok (x, r)) (hx : pkW x ≠ 40) : ruM l = .error (3, x.pos) := by
  unfold ruM
  rw [takeW_not h hx]
  rfl
/-- What is done ahead of a rule: the limit. -/
def limR (n : Nat) (s : Ps) : Ps := if lookK s = 1 ∧ 16 ≤ n then failS 4 (lookS s) else lookS s
/-- One more rule. -/
theorem rules_more {w : World} {pb g : Nat} {W : List Wd} {c : Nat} {s : Ps} {R : List Value} {n : Nat} (hM : MB w pb g W c s R) (hs : lookK s ≠ 0) (he : codeS s = 0) (hn : n ≤ 16) (v : Ru) (hv : ∀ y l, onS (limR n s) ruM = .ok (y, l) → y = v) (M : List Ru) :
    preL M (onS s (pMany 0 pRule (16 - n))) = preL (M ++ [v]) (onS (stS (onS (limR n s) ruM)) (pMany 0 pRule (16 - (n + 1)))) ∧ (n + 1 ≤ 16 ∨ ∃ f, stS (onS (limR n s) ruM) = .error f) := by
  cases s with
  | error f =>
    exact absurd he hM.code_err
  | ok l =>
    obtain ⟨x, r, rfl, hx, _⟩ := hM.head
    cases hr : nextW (x :: r) with
    | error f =>
      have hL : limR n (.ok (x :: r)) = .error f := by
        unfold limR
        rw [if_neg (fun e => by rw [(look_err hr).1] at e; exact absurd e.1 (by decide)), (look_err hr).2]
      rw [hL]
      refine ⟨?_, .inr ⟨f, rfl⟩⟩
      simp only [onS]
      rw [pMany_err hr]
      rfl
    | ok p =>
      obtain ⟨y, r'⟩ := p
      obtain ⟨rfl, _⟩ := nextW_head hr
      rw [(look_ok hr).1] at hs
      have hs' : pkW y ≠ 0 := fun e => hs ((rel0 y hx).2 e)
      unfold limR at hv ⊢
      rw [(look_ok hr).1, (look_ok hr).2] at hv ⊢
      by_cases hl : y.kind = 1 ∧ 16 ≤ n
      · rw [if_pos hl] at hv ⊢
        refine ⟨?_, .inr ⟨(4, y.pos), rfl⟩⟩
        rw [show 16 - n = 0 by omega]
        simp only [onS, pMany, hr]
        rw [if_neg hs', if_pos ((rel40 y hx).1 hl.1)]
        rfl
      · rw [if_neg hl] at hv ⊢
        simp only [onS] at hv ⊢
        by_cases h1 : y.kind = 1
        · have hn' : n < 16 := by
            apply Classical.byContradiction
            intro hc
            exact hl ⟨h1, by omega⟩
          refine ⟨?_, .inl (by omega)⟩
          obtain ⟨m, hm⟩ : ∃ m, 16 - n = m + 1 := ⟨16 - (n + 1), by omega⟩
          rw [hm, show 16 - (n + 1) = m by omega]
          have ht : takeW 40 (y :: r) = .ok (y, r') := by simp only [takeW, hr, if_pos ((rel40 y hx).1 h1)]
          have hru : ruM (y :: r) = pRule r' := by unfold ruM; rw [ht, andP_ok]
          rw [hru] at hv ⊢
          cases hc : pRule r' with
          | error f =>
            rw [pMany_bad hr hs' ht hc]
            rfl
          | ok q =>
            obtain ⟨v', l2⟩ := q
            have := hv v' l2 hc
            subst this
            simp only [stS]
            exact pMany_step hr hs' ht hc
        · have h40 : pkW y ≠ 40 := fun e => h1 ((rel40 y hx).2 e)
          have hc : ruM (y :: r) = .error (3, y.pos) := ruM_not hr h40
          rw [hc]
          refine ⟨?_, .inr ⟨_, rfl⟩⟩
          cases hk : 16 - n with
          | zero =>
            simp only [pMany, hr]
            rw [if_neg hs', if_neg h40]
            rfl
          | succ m =>
            simp only [pMany, hr]
            rw [if_neg hs', takeW_not hr h40]
            rfl
theorem rules_end {w : World} {pb g : Nat} {W : List Wd} {c : Nat} {s : Ps} {R : List Value} {n : Nat} (hM : MB w pb g W c s R) (h0 : codeS s = 0) (hs : lookK s = 0) (M : List Ru) : ∃ l, preL M (onS s (pMany 0 pRule n)) = .ok (M, l) ∧ lookS s = .ok l := by
  cases s with
  | error f => exact absurd h0 hM.code_err
  | ok l =>
    obtain ⟨x, r, rfl, hx, _⟩ := hM.head
    cases hr : nextW (x :: r) with
    | error f => exact absurd ((look_err hr).1.symm.trans hs) (by decide)
    | ok p =>
      obtain ⟨y, r'⟩ := p
      obtain ⟨rfl, _⟩ := nextW_head hr
      rw [(look_ok hr).1] at hs
      refine ⟨y :: r, ?_, (look_ok hr).2⟩
      simp only [onS]
      rw [pMany_end hr ((rel0 y hx).1 hs)]
      simp [preL]
/-- In the loop over rules. -/
structure RrAt (w3 wr : World) (pb g rb : Nat) (W : List Wd) (c : Nat) (s : Ps) (la : Option Addr) (lc : Nat) (M : List RX) (nm sl pv ev av bv : Value) : Prop where
  mo : MkO (some pb) w3 wr
  mb : MB wr pb g W c s (RM nm sl pv ev av bv)
  rq : wr.heap[rb]? = some (.cells (csL 0 0 (.slice none 0 0)).toArray 25 (0, 0))
  co : RRow wr w3.heap.size la lc M
  le : M.length ≤ 16 ∨ ∃ f, s = .error f
  lt : M.length ≤ 17
  pl : pRules W = preL (M.map RX.ru) (onS s (pMany 0 pRule (16 - M.length)))
set_option maxRecDepth 100000 in
set_option maxHeartbeats 6400000 in
theorem mParseRules_any (src : Bs) (a : Option Addr) (c : Nat) (w : World) (hv : BysAt w a src) (hcap : src.length ≤ c) (hsm : src.length ≤ 1048576) : Calls Tryz.prog 5 #[.slice a src.length c] w (PrPost w (prR src)) := by
  have HV := hidX hv
  go_enter Tryz.func5, Tryz.ntmps5
  go_upto_region 1 with fail
  refine lift_alloc ?_
  intro w1 hW1 hq1
  have hrb : w.heap.size < w1.heap.size := lt_of_block' hq1
  by_cases hl : 20000 < src.length
  · have HR : Hid (prR src = .error (4, 0)) := show _ = _ from by unfold prR; rw [if_pos hl]
    have hl' : (20000 : Int) < (src.length : Int) := by omega
    have HW1 := hidX hW1
    clear hl hW1
    go_wp2_with (first | (refine wpList_store_blk (by rfl) 25 (.tmp 2) (.tmp 8) (by rfl) w.heap.size (csL 4 0 (.slice none 0 0)) (by rfl) (by rfl) _ 25 hq1 (by rfl) infoPd (csL_one _ _ _ _ _) ?_; intro w4 hb4 ht4) | fail)
    have hld := run_loadVar_mid (P := Tryz.prog) w4 w.heap.size 0 25 (csL 4 0 (.slice none 0 0)) _ (range_blk hb4.out) Tryz.underlying25 rfl infoPd
    (try go_frame)
    refine bodyPost_ret (v := .agg (csL 4 0 (.slice none 0 0)).toArray) (by simp [results, Tryz.results5, asAddr, hld]) rfl ⟨HW1.out.trans (ht4.out.below (Nat.le_refl _)), 4, 0, none, 0, [], rfl, RRow.nil _ _, ?_⟩
    rw [HR.out]
    exact ⟨rfl, rfl, rfl⟩
  · have HR : Hid (prR src = pRules (wordsOf src)) := show _ = _ from by unfold prR; rw [if_neg hl]
    have hl' : ¬ (20000 : Int) < (src.length : Int) := by omega
    have HWO := hidX (wordsAt_ok src 0 (Nat.zero_le _))
    have HWS := hidX (l2Words_any src a c w1 (HV.out.below hW1) (by omega) hcap)
    have HQ1 := hidX hq1
    have HW1 := hidX hW1
    have HWL := hidX (wordsOf_len src)
    obtain ⟨W, hWW⟩ : ∃ W, W = wordsOf src := ⟨_, rfl⟩
    replace HWO : Hid ((∀ x ∈ W, WdOk x ∧ x.text.length ≤ src.length) ∧ WsOk W) := by rw [hWW]; exact HWO
    rw [← hWW] at HWS HR HWL
    clear hl hW1 hq1 hWW
    go_upto_region 4 with (first | (go_at_call 18; refine HWS.out.mono ?_; rintro e w2 ⟨⟨wa, cw, rfl, how⟩, hb2⟩) | fail)
    refine lift_alloc ?_
    intro w3 hW3 hq3
    obtain ⟨g, rfl, hg1, hg2, hwd, hcw⟩ := WdsAt.owns how HWO.out.2.ne
    have hp3 : w2.heap.size < w3.heap.size := lt_of_block' hq3
    have hs2 := hb2.size
    have HM3 := hidX (show MB w3 w2.heap.size g W cw (.ok W) (RM (.string ⟨#[]⟩) (.int .i64 0) (.slice none 0 0) (.slice none 0 0) (.slice none 0 0) (.int .i64 0)) from ⟨⟨0, 0, 0, hq3, List.length_pos_iff.2 HWO.out.2.ne, rfl, rfl, by simp⟩, hwd.block (hW3.block g hg2), by omega, fun x hx => ⟨(HWO.out.1 x hx).1, by have := (HWO.out.1 x hx).2; omega⟩, HWO.out.2, hcw, by have := HWL.out; omega⟩)
    have HRQ3 := hidX ((hW3.block w.heap.size (by omega)).trans ((hb2.block w.heap.size hrb).trans HQ1.out))
    have BL3 := hidX (HW1.out.trans ((hb2.mono (Nat.le_of_lt hrb)).trans (hW3.mono (by omega))) : Below w.heap.size w w3)
    have HP3 := hidX (show RrAt w3 w3 w2.heap.size g w.heap.size W cw (.ok W) none 0 [] (.string ⟨#[]⟩) (.int .i64 0) (.slice none 0 0) (.slice none 0 0) (.slice none 0 0) (.int .i64 0) from ⟨MkO.refl _ _, HM3.out, HRQ3.out, RRow.nil _ _, .inl (by simp), by simp, by
      show pRules W = preL [] (pRules W)
      unfold preL
      cases pRules W <;> rfl⟩)
    have hpb : w2.heap.size < w3.heap.size := hp3
    have hwp : w.heap.size < w2.heap.size := by omega
    clear hW3 hq3 hwd hcw how hb2 HWS HQ1 HW1 HM3 HRQ3 hv hl' HV
    go_wp2_with fail
    go_loopw [4] (fun v wr => ∃ la lc M s nm sl pv ev av bv, v = .slice la M.length lc ∧ RrAt w3 wr w2.heap.size g w.heap.size W cw s la lc M nm sl pv ev av bv) (fun v _ => 18 - sliceLen v)
    case atStart => exact ⟨none, 0, [], _, _, _, _, _, _, _, rfl, HP3.out⟩
    case round =>
      obtain ⟨la, lc, M, s, nm, sl, pv, ev, av, bv, rfl, hpr⟩ := hrel
      have PR := hidX hpr
      have hMl := hpr.lt
      have c2 := hpr.mb.code
      have hpr' := hpr.mo.rest.size
      clear hpr HP3
      cases s with
      | error f =>
        have hne := PR.out.mb.code_err
        have hne' : (f.1 == 0) = false := by simpa using hne
        have hne2 : (f.1 != 0) = true := by simpa using hne
        have HRE : Hid (prR src = .error f) := show _ = _ from by rw [HR.out, PR.out.pl]; rfl
        obtain ⟨k, cd, pos, hq, hk, e1, e2, _⟩ := PR.out.mb.st
        subst e1
        subst e2
        have d2 := cell_of hq (j := 2) rfl
        have d3 := cell_of hq (j := 3) rfl
        have b0 := cell_of PR.out.rq (j := 0) rfl
        have b1 := cell_of PR.out.rq (j := 1) rfl
        have b2 := cell_of PR.out.rq (j := 2) rfl
        have z0 := froz_of PR.out.rq 0
        have z1 := froz_of PR.out.rq 1
        have z2 := froz_of PR.out.rq 2
        have hpl := PR.out.mb.lt
        have hrl : w.heap.size < wr.heap.size := lt_of_block' PR.out.rq
        clear c2 hq
        go_upto_region 10 with fail
        go_region
        refine lift_set3 PR.out.rq (by rfl) ?_
        intro w4 hb4 ht4
        clear d2 d3 b0 b1 b2 z0 z1 z2
        have hld := run_loadVar_mid (P := Tryz.prog) w4 w.heap.size 0 25 (csL f.1 f.2 (.slice none 0 0)) _ (range_blk hb4) Tryz.underlying25 rfl infoPd
        go_wp2_with fail
        (try go_frame)
        refine bodyPost_ret (v := .agg (csL f.1 f.2 (.slice none 0 0)).toArray) (by simp [results, Tryz.results5, asAddr, hld]) rfl ⟨(BL3.out.trans (PR.out.mo.below (by omega) (fun g e => by injection e; omega))).trans (ht4.below (Nat.le_refl _)), f.1, f.2, none, 0, [], rfl, RRow.nil _ _, ?_⟩
        rw [HRE.out]
        exact ⟨rfl, rfl, rfl⟩
      | ok l =>
        simp only [codeS] at c2
        have hM2 : M.length ≤ 16 := PR.out.le.elim id (fun e => by obtain ⟨f, e⟩ := e; cases e)
        have HLK := hidX (look_any wr w2.heap.size g W cw (.ok l) (RM nm sl pv ev av bv) PR.out.mb)
        unfold LkPost at HLK
        have HLT := hidX (look_twice (.ok l))
        have HK2 := hidX (fun u (hu : MB u w2.heap.size g W cw (lookS (.ok l)) (RM nm sl pv ev av bv)) => look_any u w2.heap.size g W cw (lookS (.ok l)) (RM nm sl pv ev av bv) hu)
        unfold LkPost at HK2
        rw [HLT.out.1, HLT.out.2] at HK2
        have HMO := hidX (fun v hv => rules_more (n := M.length) PR.out.mb · rfl hM2 v hv (M.map RX.ru))
        have HCE := hidX (fun h => rules_end (n := 16 - M.length) PR.out.mb rfl h (M.map RX.ru))
        have HLM : Hid (limR M.length (.ok l) = if lookK (.ok l) = 1 ∧ 16 ≤ M.length then failS 4 (lookS (.ok l)) else lookS (.ok l)) := show _ = _ from rfl
        obtain ⟨K, hK⟩ : ∃ K, K = lookK (.ok l) := ⟨_, rfl⟩
        rw [← hK] at HLK HK2 HMO HCE HLM
        have hpl := PR.out.mb.lt
        have hrl : w.heap.size < wr.heap.size := lt_of_block' PR.out.rq
        clear hK HLT
        by_cases h0 : K = 0
        · subst h0
          obtain ⟨l', hce, hls⟩ := HCE.out rfl
          have HRE : Hid (prR src = .ok (M.map RX.ru, l')) := show _ = _ from by rw [HR.out, PR.out.pl]; exact hce
          have HLS := hidX hls
          clear hce hls HK2 HMO HCE HLM
          go_upto_region 11 with (first | (go_at_call 19; refine HLK.out.mono ?_; rintro e w4 ⟨rfl, hm4, hb4⟩; have c24 := hb4.code; rw [lookS_code HLS.out] at c24) | fail)
          have hs4 := hm4.rest.size
          have hrq := (hm4.block w.heap.size hrl (fun e => by injection e; omega)).trans PR.out.rq
          have CO4 := hidX (PR.out.co.mko hm4 hpb)
          have M4 := hidX (PR.out.mo.trans hm4)
          clear hm4 hb4 c24 c2
          go_wp2_with (first | (refine wpList_store_blk (by rfl) 25 (.tmp 2) (.tmp 53) (by rfl) w.heap.size (csL 0 0 (.slice la M.length lc)) (by rfl) (by rfl) _ 25 hrq (by rfl) infoPd (csL_one _ _ _ _ _) ?_; intro w5 hb5 ht5) | fail)
          have hld := run_loadVar_mid (P := Tryz.prog) w5 w.heap.size 0 25 (csL 0 0 (.slice la M.length lc)) _ (range_blk hb5.out) Tryz.underlying25 rfl infoPd
          (try go_frame)
          refine bodyPost_ret (v := .agg (csL 0 0 (.slice la M.length lc)).toArray) (by simp [results, Tryz.results5, asAddr, hld]) rfl ⟨(BL3.out.trans (M4.out.below (by omega) (fun g e => by injection e; omega))).trans (ht5.out.below (Nat.le_refl _)), 0, 0, la, lc, M, rfl, (CO4.out.turned ht5.out hrq (by decide) (by decide) (by decide) (by decide) (by decide) (by decide)).base BL3.out.size, ?_⟩
          rw [HRE.out]
          exact ⟨rfl, rfl, rfl⟩
        · have h0' : (K != 0) = true := by simpa using h0
          by_cases h1 : K = 1
          · subst h1
            by_cases hl2 : 16 ≤ M.length
            · have hl3 : (16 : Int) ≤ (M.length : Int) := by omega
              have HF := hidX (fun u (hu : MB u w2.heap.size g W cw (lookS (.ok l)) (RM nm sl pv ev av bv)) => fail_any u w2.heap.size g W cw (lookS (.ok l)) (RM nm sl pv ev av bv) 4 (by decide) hu)
              rw [if_pos ⟨rfl, hl2⟩] at HLM
              clear hl2
              go_upto_region 6 with (first | (go_at_call 19; refine HLK.out.mono ?_; rintro e w4 ⟨rfl, hm4, hb4⟩) | fail)
              have hs4 := hm4.rest.size
              clear c2
              go_upto_region 8 with (first | (go_at_call 19; refine (HK2.out _ hb4).mono ?_; rintro e w5 ⟨rfl, hm5, hb5⟩) | (go_at_call 20; refine (HF.out _ hb5).mono ?_; rintro e w6 ⟨rfl, hm6, hb6⟩) | fail)
              have hs5 := hm5.rest.size
              have MR := hidX (show MkO (some w2.heap.size) wr w6 from by first | exact (hm4.trans hm5).trans hm6 | exact hm4.trans hm5)
              have hs6 : wr.heap.size ≤ w6.heap.size := MR.out.rest.size
              have M6 := hidX (PR.out.mo.trans MR.out)
              have CO6 := hidX (PR.out.co.mko MR.out hpb)
              have HRQ6 := hidX ((MR.out.block w.heap.size hrl (fun e => by injection e; omega)).trans PR.out.rq)
              have HB6 := hidX (show MB w6 w2.heap.size g W cw (limR M.length (.ok l)) (RM nm sl pv ev av bv) from by rw [HLM.out]; first | exact hb6 | exact hb5)
              have HCM := hidX (fun u (hu : MB u w2.heap.size g W cw (limR M.length (.ok l)) (RM nm sl pv ev av bv)) => mrule_any u w2.heap.size g W cw (limR M.length (.ok l)) nm sl pv ev av bv hu)
              clear HLM hm4 hb4 hb5 hm5 HLK HK2
              go_wp2_with (first | (go_at_call 21; refine (HCM.out _ HB6.out).mono ?_; rintro e w7 ⟨hm7, xr, nm7, sl7, pv7, ev7, av7, bv7, rfl, ho7, hb7, hv7⟩; unfold RX.cells ruL; have M7 := hidX (M6.out.trans hm7); have CO7 := hidX (CO6.out.mko hm7 hpb); have hs7 := hm7.rest.size; have HA7 := hidX (fun o' => (Below.refl _ _).alloc (Nat.le_refl _) o' : ∀ o', Below w7.heap.size w7 (w7.alloc o')); have OA := hidX (fun o' => CO7.out.mko (MkO.of_below (HA7.out o')) hpb)) | (at_builtin; refine wpList_append_any (by rfl) (.tmp 33) (.tmp 36) 23 (by rfl) w3.heap.size 46 _ 5 96 Tryz.underlying23 infoRF (by rfl) (by omega) _ M.length _ (by rfl) (OA.out _).row (some ⟨_, 0, none⟩) 1 1 (by rfl) xr.cells (by rfl) (fun e => by cases e) (news_new _ _ _ _ (by simp)) xr.cells_one (by unfold maxLen; omega) (by omega) (by simp; omega) ?_; intro a8 c8 w8 ho8 hg8 hl8) | fail)
              have hrow : ∀ k, (Value.slice la M.length lc).ownBlock = some k → w3.heap.size ≤ k := fun k hk => (CO7.out.row.lt k hk).1
              have TY := hidX (fun o' g hg => own_type (OA.out o').row (k := g) hg)
              have NX := hidX (ho7.base (show w3.heap.size ≤ _ by omega))
              have M8 := hidX ((M7.out.trans (MkO.of_below (HA7.out _))).grown hg8.out hrow)
              have HBA := hidX (fun o' => hb7.below (HA7.out o'))
              have HB8 := hidX ((HBA.out _).blocks (hg8.out.block w2.heap.size (HBA.out _).lt (fun e => by have := hrow _ e.symm; omega)) (hg8.out.block g (HBA.out _).glt (fun e => by have := hrow _ e.symm; omega)))
              have HRA := hidX (fun o' => ((HA7.out o').block w.heap.size (by omega)).trans ((hm7.block w.heap.size (by omega) (fun e => by injection e; omega)).trans HRQ6.out))
              have HR8 := hidX (box_grown (HRA.out _) hg8.out (TY.out _) (by decide))
              have C8 := hidX (show RRow w8 w3.heap.size a8 c8 (M ++ [xr]) from ⟨by simpa using ho8.out, fun x hx => by
                rcases List.mem_append.1 hx with hx | hx
                · exact ((OA.out _).all x hx).grown hg8.out (TY.out _)
                · simp at hx
                  subst hx
                  exact (NX.out.mko (MkO.of_below (HA7.out _)) hpb).grown hg8.out (TY.out _), CO6.out.newer (Nat.le_refl _) ho7⟩)
              have PR9 := hidX (show RrAt w3 w8 w2.heap.size g w.heap.size W cw (stS (onS (limR M.length (.ok l)) ruM)) a8 c8 (M ++ [xr]) nm7 sl7 pv7 ev7 av7 bv7 from ⟨M8.out, HB8.out, HR8.out, C8.out, by
                have := (HMO.out h0 xr.ru hv7).2
                simpa using this, by simp; omega, by
                rw [PR.out.pl, (HMO.out h0 xr.ru hv7).1]
                simp⟩)
              go_roundw
              case rel => exact ⟨a8, c8, _, _, nm7, sl7, pv7, ev7, av7, bv7, by simp, PR9.out⟩
              case measure => (simp [sliceLen]; omega)
            · have hl3 : (M.length : Int) < 16 := by omega
              rw [if_neg (fun e => hl2 e.2)] at HLM
              clear hl2
              go_upto_region 6 with (first | (go_at_call 19; refine HLK.out.mono ?_; rintro e w4 ⟨rfl, hm4, hb4⟩) | fail)
              have hs4 := hm4.rest.size
              clear c2
              go_upto_region 8 with (first | (go_at_call 19; refine (HK2.out _ hb4).mono ?_; rintro e w5 ⟨rfl, hm5, hb5⟩) | fail)
              have hs5 := hm5.rest.size
              have MR := hidX (show MkO (some w2.heap.size) wr w5 from by first | exact (hm4.trans hm5).trans hm6 | exact hm4.trans hm5)
              have hs6 : wr.heap.size ≤ w5.heap.size := MR.out.rest.size
              have M6 := hidX (PR.out.mo.trans MR.out)
              have CO6 := hidX (PR.out.co.mko MR.out hpb)
              have HRQ6 := hidX ((MR.out.block w.heap.size hrl (fun e => by injection e; omega)).trans PR.out.rq)
              have HB6 := hidX (show MB w5 w2.heap.size g W cw (limR M.length (.ok l)) (RM nm sl pv ev av bv) from by rw [HLM.out]; first | exact hb6 | exact hb5)
              have HCM := hidX (fun u (hu : MB u w2.heap.size g W cw (limR M.length (.ok l)) (RM nm sl pv ev av bv)) => mrule_any u w2.heap.size g W cw (limR M.length (.ok l)) nm sl pv ev av bv hu)
              clear HLM hm4 hb4 hb5 hm5 HLK HK2
              go_wp2_with (first | (go_at_call 21; refine (HCM.out _ HB6.out).mono ?_; rintro e w7 ⟨hm7, xr, nm7, sl7, pv7, ev7, av7, bv7, rfl, ho7, hb7, hv7⟩; unfold RX.cells ruL; have M7 := hidX (M6.out.trans hm7); have CO7 := hidX (CO6.out.mko hm7 hpb); have hs7 := hm7.rest.size; have HA7 := hidX (fun o' => (Below.refl _ _).alloc (Nat.le_refl _) o' : ∀ o', Below w7.heap.size w7 (w7.alloc o')); have OA := hidX (fun o' => CO7.out.mko (MkO.of_below (HA7.out o')) hpb)) | (at_builtin; refine wpList_append_any (by rfl) (.tmp 33) (.tmp 36) 23 (by rfl) w3.heap.size 46 _ 5 96 Tryz.underlying23 infoRF (by rfl) (by omega) _ M.length _ (by rfl) (OA.out _).row (some ⟨_, 0, none⟩) 1 1 (by rfl) xr.cells (by rfl) (fun e => by cases e) (news_new _ _ _ _ (by simp)) xr.cells_one (by unfold maxLen; omega) (by omega) (by simp; omega) ?_; intro a8 c8 w8 ho8 hg8 hl8) | fail)
              have hrow : ∀ k, (Value.slice la M.length lc).ownBlock = some k → w3.heap.size ≤ k := fun k hk => (CO7.out.row.lt k hk).1
              have TY := hidX (fun o' g hg => own_type (OA.out o').row (k := g) hg)
              have NX := hidX (ho7.base (show w3.heap.size ≤ _ by omega))
              have M8 := hidX ((M7.out.trans (MkO.of_below (HA7.out _))).grown hg8.out hrow)
              have HBA := hidX (fun o' => hb7.below (HA7.out o'))
              have HB8 := hidX ((HBA.out _).blocks (hg8.out.block w2.heap.size (HBA.out _).lt (fun e => by have := hrow _ e.symm; omega)) (hg8.out.block g (HBA.out _).glt (fun e => by have := hrow _ e.symm; omega)))
              have HRA := hidX (fun o' => ((HA7.out o').block w.heap.size (by omega)).trans ((hm7.block w.heap.size (by omega) (fun e => by injection e; omega)).trans HRQ6.out))
              have HR8 := hidX (box_grown (HRA.out _) hg8.out (TY.out _) (by decide))
              have C8 := hidX (show RRow w8 w3.heap.size a8 c8 (M ++ [xr]) from ⟨by simpa using ho8.out, fun x hx => by
                rcases List.mem_append.1 hx with hx | hx
                · exact ((OA.out _).all x hx).grown hg8.out (TY.out _)
                · simp at hx
                  subst hx
                  exact (NX.out.mko (MkO.of_below (HA7.out _)) hpb).grown hg8.out (TY.out _), CO6.out.newer (Nat.le_refl _) ho7⟩)
              have PR9 := hidX (show RrAt w3 w8 w2.heap.size g w.heap.size W cw (stS (onS (limR M.length (.ok l)) ruM)) a8 c8 (M ++ [xr]) nm7 sl7 pv7 ev7 av7 bv7 from ⟨M8.out, HB8.out, HR8.out, C8.out, by
                have := (HMO.out h0 xr.ru hv7).2
                simpa using this, by simp; omega, by
                rw [PR.out.pl, (HMO.out h0 xr.ru hv7).1]
                simp⟩)
              go_roundw
              case rel => exact ⟨a8, c8, _, _, nm7, sl7, pv7, ev7, av7, bv7, by simp, PR9.out⟩
              case measure => (simp [sliceLen]; omega)
          · have h1' : (K == 1) = false := by simpa using h1
            rw [if_neg (fun e => h1 e.1)] at HLM
            clear h1
            go_upto_region 6 with (first | (go_at_call 19; refine HLK.out.mono ?_; rintro e w4 ⟨rfl, hm4, hb4⟩) | fail)
            have hs4 := hm4.rest.size
            clear c2
            go_upto_region 8 with (first | (go_at_call 19; refine (HK2.out _ hb4).mono ?_; rintro e w5 ⟨rfl, hm5, hb5⟩) | fail)
            have hs5 := hm5.rest.size
            have MR := hidX (show MkO (some w2.heap.size) wr w5 from by first | exact (hm4.trans hm5).trans hm6 | exact hm4.trans hm5)
            have hs6 : wr.heap.size ≤ w5.heap.size := MR.out.rest.size
            have M6 := hidX (PR.out.mo.trans MR.out)
            have CO6 := hidX (PR.out.co.mko MR.out hpb)
            have HRQ6 := hidX ((MR.out.block w.heap.size hrl (fun e => by injection e; omega)).trans PR.out.rq)
            have HB6 := hidX (show MB w5 w2.heap.size g W cw (limR M.length (.ok l)) (RM nm sl pv ev av bv) from by rw [HLM.out]; first | exact hb6 | exact hb5)
            have HCM := hidX (fun u (hu : MB u w2.heap.size g W cw (limR M.length (.ok l)) (RM nm sl pv ev av bv)) => mrule_any u w2.heap.size g W cw (limR M.length (.ok l)) nm sl pv ev av bv hu)
            clear HLM hm4 hb4 hb5 hm5 HLK HK2
            go_wp2_with (first | (go_at_call 21; refine (HCM.out _ HB6.out).mono ?_; rintro e w7 ⟨hm7, xr, nm7, sl7, pv7, ev7, av7, bv7, rfl, ho7, hb7, hv7⟩; unfold RX.cells ruL; have M7 := hidX (M6.out.trans hm7); have CO7 := hidX (CO6.out.mko hm7 hpb); have hs7 := hm7.rest.size; have HA7 := hidX (fun o' => (Below.refl _ _).alloc (Nat.le_refl _) o' : ∀ o', Below w7.heap.size w7 (w7.alloc o')); have OA := hidX (fun o' => CO7.out.mko (MkO.of_below (HA7.out o')) hpb)) | (at_builtin; refine wpList_append_any (by rfl) (.tmp 33) (.tmp 36) 23 (by rfl) w3.heap.size 46 _ 5 96 Tryz.underlying23 infoRF (by rfl) (by omega) _ M.length _ (by rfl) (OA.out _).row (some ⟨_, 0, none⟩) 1 1 (by rfl) xr.cells (by rfl) (fun e => by cases e) (news_new _ _ _ _ (by simp)) xr.cells_one (by unfold maxLen; omega) (by omega) (by simp; omega) ?_; intro a8 c8 w8 ho8 hg8 hl8) | fail)
            have hrow : ∀ k, (Value.slice la M.length lc).ownBlock = some k → w3.heap.size ≤ k := fun k hk => (CO7.out.row.lt k hk).1
            have TY := hidX (fun o' g hg => own_type (OA.out o').row (k := g) hg)
            have NX := hidX (ho7.base (show w3.heap.size ≤ _ by omega))
            have M8 := hidX ((M7.out.trans (MkO.of_below (HA7.out _))).grown hg8.out hrow)
            have HBA := hidX (fun o' => hb7.below (HA7.out o'))
            have HB8 := hidX ((HBA.out _).blocks (hg8.out.block w2.heap.size (HBA.out _).lt (fun e => by have := hrow _ e.symm; omega)) (hg8.out.block g (HBA.out _).glt (fun e => by have := hrow _ e.symm; omega)))
            have HRA := hidX (fun o' => ((HA7.out o').block w.heap.size (by omega)).trans ((hm7.block w.heap.size (by omega) (fun e => by injection e; omega)).trans HRQ6.out))
            have HR8 := hidX (box_grown (HRA.out _) hg8.out (TY.out _) (by decide))
            have C8 := hidX (show RRow w8 w3.heap.size a8 c8 (M ++ [xr]) from ⟨by simpa using ho8.out, fun x hx => by
              rcases List.mem_append.1 hx with hx | hx
              · exact ((OA.out _).all x hx).grown hg8.out (TY.out _)
              · simp at hx
                subst hx
                exact (NX.out.mko (MkO.of_below (HA7.out _)) hpb).grown hg8.out (TY.out _), CO6.out.newer (Nat.le_refl _) ho7⟩)
            have PR9 := hidX (show RrAt w3 w8 w2.heap.size g w.heap.size W cw (stS (onS (limR M.length (.ok l)) ruM)) a8 c8 (M ++ [xr]) nm7 sl7 pv7 ev7 av7 bv7 from ⟨M8.out, HB8.out, HR8.out, C8.out, by
              have := (HMO.out h0 xr.ru hv7).2
              simpa using this, by simp; omega, by
              rw [PR.out.pl, (HMO.out h0 xr.ru hv7).1]
              simp⟩)
            go_roundw
            case rel => exact ⟨a8, c8, _, _, nm7, sl7, pv7, ev7, av7, bv7, by simp, PR9.out⟩
            case measure => (simp [sliceLen]; omega)
end Go.Proofs.YtdhpoagjmiligaaGreatDoor

namespace Go.Proofs.YtdhpoagjmiligaaGreatDoor
open Go.RowKit
attribute [local go_sem ↓] Go.wp_at_zero Go.wp_at_succ

def rCr (r : Px (List Ru)) : Int := match r with
  | .error f => f.1
  | .ok _ => 0
def rPr (r : Px (List Ru)) : Int := match r with
  | .error f => (f.2 : Int)
  | .ok _ => 0
def rLr (r : Px (List Ru)) : List Ru := match r with
  | .error _ => []
  | .ok (vs, _) => vs
def RrPost (w : World) (C P : Int) (L : List Ru) (e : Ending) (w' : World) : Prop := Below w.heap.size w w' ∧ ∃ (la : Option Addr) (lc : Nat) (M : List RX), e = .returned (.agg #[.int .i64 C, .int .i64 P, .slice la M.length lc]) ∧ RRow w' w.heap.size la lc M ∧ M.map RX.ru = L
theorem PrPost.out {w w' : World} {r : Px (List Ru)} {e : Ending} (h : PrPost w r e w') : RrPost w (rCr r) (rPr r) (rLr r) e w' := by
  obtain ⟨hb, code, pos, la, lc, M, he, hc, hm⟩ := h
  refine ⟨hb, la, lc, M, ?_, hc, ?_⟩
  · cases r with
    | error f => rw [he, hm.1, hm.2.1]; rfl
    | ok q => rw [he, hm.1, hm.2.1]; rfl
  · cases r with
    | error f => rw [hm.2.2]; rfl
    | ok q => exact hm.2.2
theorem prL_le (src : Bs) : (rLr (prR src)).length ≤ 16 ∧ ∀ x ∈ rLr (prR src), RuB x := by
  cases h : prR src with
  | error f => simp [rLr]
  | ok q => exact prR_le h
/-- Rules in blocks below a bound. -/
structure RoIn (w : World) (L : Nat) (a : Option Addr) (c : Nat) (M : List RX) : Prop where
  co : RRow w 0 a c M
  le : L ≤ w.heap.size
  rb : ∀ g, (Value.slice a M.length c).ownBlock = some g → g < L
  vb : ∀ x ∈ M, ∀ g, InX x g → g < L
theorem RRow.low {w : World} {B : Nat} {a : Option Addr} {c : Nat} {M : List RX} (h : RRow w B a c M) : RoIn w w.heap.size a c M :=
  ⟨⟨owns_base h.row (Nat.zero_le _), fun x hx => (h.all x hx).base (Nat.zero_le _), h.pair⟩, Nat.le_refl _, fun g hg => (h.row.lt g hg).2, fun x hx _ hg => ((h.all x hx).blk hg).2⟩
theorem RoIn.keep {w w' : World} {L B : Nat} {a : Option Addr} {c : Nat} {M : List RX} (h : RoIn w L a c M) (hb : Below B w w') (hL : L ≤ B) : RoIn w' L a c M :=
  ⟨⟨owns_of_block h.co.row fun g hg => hb.block g (Nat.lt_of_lt_of_le (h.rb g hg) hL), fun x hx => (h.co.all x hx).keep fun g hg => hb.block g (Nat.lt_of_lt_of_le (h.vb x hx g hg) hL), h.co.pair⟩, Nat.le_trans h.le hb.size, h.rb, h.vb⟩
theorem RRow.keepO {w w' : World} {B : Nat} {b : Option Nat} {a : Option Addr} {c : Nat} {M : List RX} (h : RRow w B a c M) (hm : MkO b w w') (hb : ∀ g, b = some g → g < B) : RRow w' B a c M :=
  ⟨owns_of_block h.row fun g hg => hm.block g (h.row.lt g hg).2 (fun e => by have h1 := (h.row.lt g hg).1; have h2 := hb g e; omega), fun x hx => (h.all x hx).keep fun g hg => hm.block g ((h.all x hx).blk hg).2 (fun e => by have h1 := ((h.all x hx).blk hg).1; have h2 := hb g e; omega), h.pair⟩
/-- A block of theirs. -/
def InRs (v : Value) (M : List RX) (g : Nat) : Prop := v.ownBlock = some g ∨ ∃ x ∈ M, InX x g
theorem RRow.inR {w : World} {B : Nat} {a : Option Addr} {c : Nat} {M : List RX} (h : RRow w B a c M) : ∀ g, InRs (.slice a M.length c) M g → B ≤ g := by
  rintro g (e | ⟨x, hx, e⟩)
  · exact (h.row.lt g e).1
  · exact ((h.all x hx).blk e).1
theorem RuB.lq {x : Ru} (h : RuB x) : Ru.lq 1048576 x := ⟨trivial, ⟨by have := h.p; omega, fun y hy => ⟨trivial, by have := h.pt y hy; omega, fun _ _ => trivial⟩⟩, ⟨by have := h.e; omega, fun _ _ => trivial⟩, ⟨by have := h.a; omega, fun y hy => ⟨trivial, by have := h.ai y hy; omega⟩⟩⟩
theorem RuB.sz {x : Ru} (h : RuB x) : RuSz x := ⟨by have := h.p; omega, fun y hy => by have := h.pt y hy; omega, by have := h.e; omega, by have := h.a; omega, fun y hy => by have := h.ai y hy; omega⟩
theorem RuB.rx {w : World} {B : Nat} {x : RX} (h : RuB x.ru) (ho : ROwn w B x) : RxLe x :=
  ⟨by have := h.p; rw [← ho.mp, List.length_map] at this; omega, fun y hy => by have := h.pt y.1 (by rw [← ho.mp]; exact List.mem_map_of_mem hy); omega, by have := h.e; omega, by have := h.a; rw [← ho.ma, List.length_map] at this; omega, fun y hy => by have := h.ai y.1 (by rw [← ho.ma]; exact List.mem_map_of_mem hy); omega⟩
theorem RuB.marks {x : Ru} (h : RuB x) : szR x ≤ 1000 := by
  have h1 := gSum_bound (sz := szP) (N := 38) x.pats (fun y hy => by
    have := h.pt y hy
    unfold szP
    rw [gSum_const]
    omega)
  have h2 := gSum_bound (sz := szA) (N := 9) x.acts (fun y hy => by
    have := h.ai y hy
    unfold szA
    omega)
  have h3 := h.p
  have h4 := h.e
  have h5 := h.a
  unfold szR
  rw [gSum_const]
  omega
theorem EnvAt.laterR {w w' : World} (h : EnvAt w w.heap.size) (hb : Below w.heap.size w w') : EnvAt w' w'.heap.size :=
  ⟨(h.keep hb).err, (h.keep hb).tests, Nat.lt_of_lt_of_le h.g1 hb.size, Nat.lt_of_lt_of_le h.g2 hb.size⟩
theorem ErrT.laterR {w w' : World} (h : ErrT w) (hb : Below w.heap.size w w') : ErrT w' := (World.cell?_of_block (w := w) (hb.block 0 (lt_cellX h))).trans h
/-- What the law asks of the program's own variables. -/
structure VarsR (w : World) : Prop where
  env : EnvAt w w.heap.size
  err : ErrT w
def csVr (C P : Int) (a : Option Addr) (n c : Nat) : List Value := [.int .i64 C, .int .i64 P, .slice a n c]
/-- What the law holds while it goes on. -/
structure LrS (w u : World) (n L2 B4 b2 b4 : Nat) (C P : Int) (a2 : Option Addr) (c2 : Nat) (M2 : List RX) (a4 : Option Addr) (c4 : Nat) (M4 : List RX) (xs : List Value) : Prop where
  bl : Below w.heap.size w u
  o2 : RoIn u L2 a2 c2 M2
  q2 : u.heap[b2]? = some (.cells (csVr C P a2 M2.length c2).toArray 25 (0, 0))
  g4 : RRow u B4 a4 c4 M4
  q4 : u.heap[b4]? = some (.cells (csVr C P a4 M4.length c4).toArray 25 (0, 0))
  x3 : u.ownsRow L2 5 1 (.slice (some ⟨L2, 0, none⟩) n n) n xs
theorem LrS.below {w u u' : World} {n L2 B4 b2 b4 : Nat} {C P : Int} {a2 : Option Addr} {c2 : Nat} {M2 : List RX} {a4 : Option Addr} {c4 : Nat} {M4 : List RX} {xs : List Value} (h : LrS w u n L2 B4 b2 b4 C P a2 c2 M2 a4 c4 M4 xs) (hb : Below u.heap.size u u') : LrS w u' n L2 B4 b2 b4 C P a2 c2 M2 a4 c4 M4 xs :=
  ⟨h.bl.trans (hb.mono h.bl.size), h.o2.keep hb h.o2.le, (hb.block b2 (lt_of_block' h.q2)).trans h.q2, h.g4.below hb, (hb.block b4 (lt_of_block' h.q4)).trans h.q4, own_bel h.x3 hb⟩
theorem LrS.markX {w u u' : World} {n L2 B4 b2 b4 : Nat} {C P : Int} {a2 : Option Addr} {c2 : Nat} {M2 : List RX} {a4 : Option Addr} {c4 : Nat} {M4 : List RX} {xs ys : List Value} (h : LrS w u n L2 B4 b2 b4 C P a2 c2 M2 a4 c4 M4 xs) (hm : MkO (Value.slice (some ⟨L2, 0, none⟩) n n).ownBlock u u') (hx : u'.ownsRow L2 5 1 (.slice (some ⟨L2, 0, none⟩) n n) n ys) (hw : w.heap.size ≤ L2) (hb2 : b2 < L2) (hB4 : L2 < B4) (hb4 : B4 ≤ b4) : LrS w u' n L2 B4 b2 b4 C P a2 c2 M2 a4 c4 M4 ys := by
  have e : ∀ g, (Value.slice (some ⟨L2, 0, none⟩) n n).ownBlock = some g → g = L2 := fun g hg => by injection hg with hg; exact hg.symm
  have hlow : Below L2 u u' := hm.below (h.o2.le) (fun g hg => by rw [e g hg]; exact Nat.le_refl _)
  exact ⟨h.bl.trans (hlow.mono hw), h.o2.keep hlow (Nat.le_refl _), (hlow.block b2 hb2).trans h.q2, h.g4.keepO hm (fun g hg => by rw [e g hg]; exact hB4), (hm.block b4 (lt_of_block' h.q4) (fun hg => by have := e b4 hg; omega)).trans h.q4, hx⟩
theorem LrS.cells {w u : World} {n L2 B4 b2 b4 : Nat} {C P : Int} {a2 : Option Addr} {c2 : Nat} {M2 : List RX} {a4 : Option Addr} {c4 : Nat} {M4 : List RX} {xs : List Value} (h : LrS w u n L2 B4 b2 b4 C P a2 c2 M2 a4 c4 M4 xs) : (u.cell? ⟨b2, 0, none⟩ = some (.int .i64 C) ∧ u.cell? ⟨b2, 1, none⟩ = some (.int .i64 P) ∧ u.cell? ⟨b2, 2, none⟩ = some (.slice a2 M2.length c2)) ∧ u.cell? ⟨b4, 0, none⟩ = some (.int .i64 C) ∧ u.cell? ⟨b4, 1, none⟩ = some (.int .i64 P) ∧ u.cell? ⟨b4, 2, none⟩ = some (.slice a4 M4.length c4) :=
  ⟨⟨cell_of h.q2 (j := 0) rfl, cell_of h.q2 (j := 1) rfl, cell_of h.q2 (j := 2) rfl⟩, cell_of h.q4 (j := 0) rfl, cell_of h.q4 (j := 1) rfl, cell_of h.q4 (j := 2) rfl⟩
set_option maxRecDepth 100000 in
set_option maxHeartbeats 3200000 in
theorem law_pr (src : Bs) (a : Option Addr) (c : Nat) (w : World) (hv : BysAt w a src) (hV : VarsR w) :
    Calls Tryz.prog 3 #[.slice a src.length c] w fun e w' => e = .returned (.bool true) ∧ Below w.heap.size w w' := by
  by_cases hbig : 1048576 < src.length
  · have h1 : (1048576 : Int) < (src.length : Int) := by omega
    go_enter Tryz.func3, Tryz.ntmps3
    go_wp2_with fail
    go_ret
    exact ⟨rfl, Below.refl _ _⟩
  · have h1 : ¬ (1048576 : Int) < (src.length : Int) := by omega
    have hsl : src.length ≤ 1048576 := by omega
    have HV := hidX hv
    have HVV := hidX hV
    have TB := hidX (fun w' (h : Below w.heap.size w w') => toByteS_any a c src w' (HV.out.below h) hsl)
    have SM := hidX (fun w' g B (h : w'.ownsRow B 5 1 (.slice (some ⟨g, 0, none⟩) src.length src.length) src.length (byV src)) => (mParseRules_any src (some ⟨g, 0, none⟩) src.length w' (BysAt.owns h) (Nat.le_refl _) hsl).mono fun e w'' hp => PrPost.out hp)
    have IM := hidX (fun w' g B (h : w'.ownsRow B 5 1 (.slice (some ⟨g, 0, none⟩) src.length src.length) src.length (byV src)) (hb : Below w.heap.size w w') => (iParseRules_any src (some ⟨g, 0, none⟩) src.length w' (BysAt.owns h) (Nat.le_refl _) (fun b o e => by injection e with e; injection e with e1 _; rw [← e1]; exact (h.lt g rfl).2) (HVV.out.env.laterR hb) (HVV.out.err.laterR hb)).mono fun e w'' hp => PrPost.out hp)
    obtain ⟨hL1, hL2⟩ := prL_le src
    generalize rCr (prR src) = C at SM IM
    generalize rPr (prR src) = P at SM IM
    generalize rLr (prR src) = L at SM IM hL1 hL2
    have HL2 := hidX hL2
    clear hv hV hL2 hbig
    go_enter Tryz.func3, Tryz.ntmps3
    go_upto_region 4 with (first | (go_at_call 6; refine (TB.out w (Below.refl _ _)).mono ?_; rintro e w1 ⟨rfl, o1, hb1⟩) | (go_at_call 5; refine (SM.out w1 _ _ o1).mono ?_; rintro e w2 ⟨hb2, a2, c2, M2, rfl, co2, e2⟩) | fail)
    refine lift_alloc ?_
    intro w2b hW2 hq2
    have hB1 : Below w.heap.size w w1 := hb1
    have hB2 : Below w.heap.size w w2 := hB1.trans (hb2.mono hB1.size)
    have hB2b : Below w.heap.size w w2b := hB2.trans (hW2.mono hB2.size)
    have s2 : w2.heap.size < w2b.heap.size := lt_of_block' hq2
    have O2 := hidX (co2.below hW2).low
    have Q2 := hidX (show w2b.heap[w2.heap.size]? = some (.cells (csVr C P a2 M2.length c2).toArray 25 (0, 0)) from hq2)
    have E2 := hidX e2
    have hsz2 := hB2.size
    clear co2 o1 SM e2 hW2 hq2 hb1 hb2 hB1
    go_upto_region 6 with (first | (go_at_call 6; refine (TB.out w2b hB2b).mono ?_; rintro e w3 ⟨rfl, o3, hb3⟩) | (go_at_call 7; refine (IM.out w3 _ _ o3 (hB2b.trans (hb3.mono hB2b.size))).mono ?_; rintro e w4 ⟨hb4, a4, c4, M4, rfl, co4, e4⟩) | fail)
    refine lift_alloc ?_
    intro w4b hW4 hq4
    have hB3 : Below w.heap.size w w3 := hB2b.trans (hb3.mono hB2b.size)
    have hB4 : Below w.heap.size w w4 := hB3.trans (hb4.mono hB3.size)
    have s23 : w2b.heap.size < w3.heap.size := (o3.lt _ rfl).2
    have s34 := hb4.size
    have s4 : w4.heap.size < w4b.heap.size := lt_of_block' hq4
    have E4 := hidX e4
    have hM4 : M4.length ≤ 16 := by rw [← List.length_map RX.ru, e4]; exact hL1
    have HS4 : Hid (∀ x ∈ M4, RuB x.ru) := fun x hx => HL2.out x.ru (by rw [← E4.out]; exact List.mem_map_of_mem hx)
    have IC4 := hidX (fun g (hg : InRs (.slice a4 M4.length c4) M4 g) => (show g < w4.heap.size from by
      rcases hg with e | ⟨x, hx, e⟩
      · exact (co4.row.lt g e).2
      · exact ((co4.all x hx).blk e).2))
    have S4 := hidX (show LrS w w4b src.length w2b.heap.size w3.heap.size w2.heap.size w4.heap.size C P a2 c2 M2 a4 c4 M4 (byV src) from ⟨hB4.trans (hW4.mono hB4.size), ((O2.out.keep hb3 (Nat.le_refl _)).keep hb4 (by omega)).keep hW4 (by omega), (hW4.block _ (by omega)).trans ((hb4.block _ (by omega)).trans ((hb3.block _ s2).trans Q2.out)), co4.below hW4, hq4, own_bel (own_bel o3 hb4) hW4⟩)
    have EQ := hidX (fun u B (h2 : RoIn u w2b.heap.size a2 c2 M2) (aa : Option Addr) (cc : Nat) (MM : List RX) (h4 : RRow u B aa cc MM) (ee : MM.map RX.ru = L) => (show Calls Tryz.prog 8 #[.agg #[.int .i64 C, .int .i64 P, .slice aa MM.length cc], .agg #[.int .i64 C, .int .i64 P, .slice a2 M2.length c2]] u fun e w' => e = .returned (.bool true) ∧ Below u.heap.size u w' from by
      have q := eqParsed_sameq C P aa a2 cc c2 L u (by rw [← ee]; exact h4.at) (by rw [← E2.out]; exact h2.co.at) ⟨by omega, fun x hx => (HL2.out x hx).lq⟩
      have l1 : L.length = MM.length := by rw [← ee, List.length_map]
      have l2 : L.length = M2.length := by rw [← E2.out, List.length_map]
      rw [show (Value.slice aa MM.length cc) = .slice aa L.length cc by rw [l1], show (Value.slice a2 M2.length c2) = .slice a2 L.length c2 by rw [l2]]
      exact q))
    clear co4 e4 o3 O2 Q2 hW4 hq4 hb3 hb4 hB3 hB4 hB2b hB2
    obtain ⟨⟨z0, z1, z2⟩, y0, y1, y2⟩ := S4.out.cells
    go_upto_region 8 with (first | (go_at_call 8; refine (EQ.out _ _ S4.out.o2 _ _ _ S4.out.g4 E4.out).mono ?_; rintro e w5 ⟨rfl, hb5⟩) | fail)
    have S5 := hidX (S4.out.below hb5)
    clear z0 z1 z2 y0 y1 y2 S4 hb5
    go_upto_region 11 with (first | (go_at_call 6; refine (TB.out w5 S5.out.bl).mono ?_; rintro e w6 ⟨rfl, o6, hb6⟩) | (go_at_call 9; refine (eqByteS_same _ _ _ _ src w6 (BysAt.owns (S5.out.below hb6).x3) (BysAt.owns o6) (by omega)).mono ?_; rintro e w7 ⟨rfl, hb7⟩) | fail)
    have S7 := hidX ((S5.out.below hb6).below hb7)
    clear S5 hb6 hb7 o6
    go_upto_region 12 with (first | (go_at_call 10; refine (markByteS_mk _ _ _ _ _ w7 S7.out.x3 (byV_len src) (by omega)).mono ?_; rintro e w8 ⟨rfl, o8, hm8⟩) | fail)
    have S8 := hidX (S7.out.markX hm8 o8 (by omega) s2 s23 s34)
    clear S7 hm8 o8
    obtain ⟨⟨z0, z1, z2⟩, y0, y1, y2⟩ := S8.out.cells
    have b1 : ¬ (1 + (src.length : Int)) < 0 := by omega
    go_upto_region 15 with (first | (go_at_call 8; refine (EQ.out _ _ S8.out.o2 _ _ _ S8.out.g4 E4.out).mono ?_; rintro e w9 ⟨rfl, hb9⟩) | fail)
    have S9 := hidX (S8.out.below hb9)
    clear z0 z1 z2 y0 y1 y2 S8 hb9 b1
    obtain ⟨⟨z0, z1, z2⟩, y0, y1, y2⟩ := S9.out.cells
    have hme : gSum szRX M4 ≤ 16000 := by
      have := gSum_bound (sz := szRX) (N := 1000) M4 (fun x hx => (HS4.out x hx).marks)
      omega
    have hsm : gSum szRX M4 = gSum szR (M4.map RX.ru) := (gSum_map (sz := szRX) (sz' := szR) (f := RX.ru) (fun _ => rfl) M4).symm
    have hml : (M4.map RX.ru).length = M4.length := List.length_map _
    have HMA := hidX (markParsed_mk C P a4 c4 M4 w3.heap.size 1 w9 S9.out.g4 (by omega) (fun x hx => (HS4.out x hx).rx (S9.out.g4.all x hx)) (by omega) (by omega))
    have HHE := hidX (fun u (hu : RusAt none u a4 (gMk mkR szR 1 (M4.map RX.ru))) => heldParsed_mk C P a4 c4 (M4.map RX.ru) 1 u hu (by omega) (fun x hx => by
      obtain ⟨y, hy, rfl⟩ := List.mem_map.1 hx
      exact (HS4.out y hy).sz) (by omega) (by omega))
    rw [← hsm, hml] at HHE
    obtain ⟨E, hE⟩ : ∃ E : Int, E = 1 + (gSum szRX M4 : Int) := ⟨_, rfl⟩
    have hmg : 1 ≤ E := by omega
    rw [← hE] at HMA HHE
    clear hE hme hsm hml z0 z1 z2
    go_upto_region 17 with (first | (go_at_call 11; refine HMA.out.mono ?_; rintro e w10 ⟨rfl, co10, hm10⟩) | fail)
    have hlow : Below w3.heap.size w9 w10 := hm10.below (by have h1 := S9.out.g4.below (Below.refl _ _); have h2 := lt_of_block' S9.out.q4; omega) S9.out.g4.inR
    have O10 := hidX (S9.out.o2.keep hlow (by omega))
    have Q10 := hidX ((hlow.block w2.heap.size (by omega)).trans S9.out.q2)
    have Z10 := hidX ((hm10.block w4.heap.size (lt_of_block' S9.out.q4) (fun hg => by have := IC4.out _ hg; omega)).trans S9.out.q4)
    have B10 := hidX (S9.out.bl.trans (hlow.mono (by omega)))
    have C10 := hidX (show RusAt none w10 a4 (gMk mkR szR 1 (M4.map RX.ru)) from by
      have := co10.at
      rwa [gMk_map (f := RX.ru) (mk := mkRX) (sz := szRX) (mk' := mkR) (sz' := szR) (fun _ _ => rfl) (fun _ => rfl)] at this)
    clear S9 hm10 co10 HMA y0 y1 y2 hlow
    have y0 := cell_of Z10.out (j := 0) rfl
    have y1 := cell_of Z10.out (j := 1) rfl
    have y2 := cell_of Z10.out (j := 2) rfl
    have b2 : ¬ E < 0 := by omega
    go_upto_region 22 with (first | (go_at_call 12; refine (HHE.out w10 C10.out).mono ?_; rintro e w11 ⟨rfl, hb11⟩) | fail)
    have B11 := hidX (B10.out.trans (hb11.mono B10.out.size))
    have O11 := hidX (O10.out.keep hb11 O10.out.le)
    have Q11 := hidX ((hb11.block w2.heap.size (lt_of_block' Q10.out)).trans Q10.out)
    clear y0 y1 y2 B10 O10 Q10 Z10 C10 hb11 HHE b2 hmg
    go_upto_region 23 with (first | (go_at_call 6; refine (TB.out w11 B11.out).mono ?_; rintro e w12 ⟨rfl, o12, hb12⟩) | (go_at_call 7; refine (IM.out w12 _ _ o12 (B11.out.trans (hb12.mono B11.out.size))).mono ?_; rintro e w13 ⟨hb13, a13, c13, M13, rfl, co13, e13⟩) | fail)
    refine lift_alloc ?_
    intro w14 hW14 hq14
    have hB12 := B11.out.trans (hb12.mono B11.out.size)
    have hB13 := hB12.trans (hb13.mono hB12.size)
    have B14 := hidX (hB13.trans (hW14.mono hB13.size))
    have O14 := hidX (((O11.out.keep hb12 O11.out.le).keep hb13 (Nat.le_trans O11.out.le hb12.size)).keep hW14 (Nat.le_trans (Nat.le_trans O11.out.le hb12.size) hb13.size))
    have l11 := lt_of_block' Q11.out
    have s12 := hb12.size
    have s13 := hb13.size
    have q14 := (hW14.block w2.heap.size (by omega)).trans ((hb13.block w2.heap.size (by omega)).trans ((hb12.block w2.heap.size l11).trans Q11.out))
    have G14 := hidX (co13.below hW14)
    have E13 := hidX e13
    have z0 := cell_of q14 (j := 0) rfl
    have z1 := cell_of q14 (j := 1) rfl
    have z2 := cell_of q14 (j := 2) rfl
    have y0 := cell_of (L := csVr C P a13 M13.length c13) hq14 (j := 0) rfl
    have y1 := cell_of (L := csVr C P a13 M13.length c13) hq14 (j := 1) rfl
    have y2 := cell_of (L := csVr C P a13 M13.length c13) hq14 (j := 2) rfl
    clear hW14 hq14 hb12 hb13 hB12 hB13 co13 o12 e13 O11 Q11 B11 q14
    go_wp2_with (first | (go_at_call 8; refine (EQ.out _ _ O14.out _ _ _ G14.out E13.out).mono ?_; rintro e w15 ⟨rfl, hb15⟩) | fail)
    go_ret
    exact ⟨rfl, B14.out.trans (hb15.mono B14.out.size)⟩
end Go.Proofs.YtdhpoagjmiligaaGreatDoor
