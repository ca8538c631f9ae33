/-
  OUR OWN TEXT. Pr1, Pt1, Pr2, Pt4, Pt5, Pt2, Pt3, one behind the other.
-/
import Derived.Test.YtgkoiojelckblaaGreatDoorSx20m
import Derived.Test.YtgkoiojelckblaaGreatDoorKbd
import Derived.Test.YtgkoiojelckblaaGreatDoorKag
import Derived.Test.YtgkoiojelckblaaGreatDoorHwm
import Derived.Deep.CutBlock
import Derived.Deep.DeepCutAuto
namespace Go.Proofs.YtgkoiojelckblaaGreatDoor

def zVr : V := (0, 0, mkS [])
/-- A test's inside, behind its '('. -/
def pTest (l : List Wd) : Px Tm := andP (takeW 61 l) fun o l1 => andP (nextW l1) fun x l2 =>
  if pkW x = 48 ∨ pkW x = 97 then andP (takeW 41 l2) fun _ l3 => .ok (⟨3, (testIx (ptW o) : Int), mkS [], wVal (pkW x) x.num (ptW x)⟩, l3)
  else if pkW x = 63 then andP (takeW 41 l2) fun _ l3 => .ok (⟨3, (testIx (ptW o) : Int), mkS (ptW x), zVr⟩, l3)
  else .error (3, x.pos)
def pTerm (l : List Wd) : Px Tm := andP (nextW l) fun x l1 =>
  if pkW x = 95 then .ok (⟨0, 0, mkS [], zVr⟩, l1)
  else if pkW x = 48 ∨ pkW x = 97 then .ok (⟨1, 0, mkS [], wVal (pkW x) x.num (ptW x)⟩, l1)
  else if pkW x = 63 then .ok (⟨2, 0, mkS (ptW x), zVr⟩, l1)
  else if pkW x = 40 then pTest l1
  else .error (3, x.pos)
/-- A pattern, behind its '('. -/
def pPat (l : List Wd) : Px Pt := andP (takeW 97 l) fun x l1 =>
  if ptW x = notT then andP (pClass l1) fun c l2 => andP (pList pTerm 6 l2) fun ts l3 => .ok (⟨true, mkS c, ts⟩, l3)
  else andP (pList pTerm 6 l1) fun ts l3 => .ok (⟨false, mkS (ptW x), ts⟩, l3)
/-- The exprs that have ended, and how many have begun. -/
abbrev ES := List Ex × Nat
/-- An expr; f: how many may still stand in one another. -/
def pExpr : Nat → ES → List Wd → Px (Int × ES)
  | f, s, l => match boundW (s.2 : Int) 60 l with
    | .error e => .error e
    | .ok _ => match nextW l with
      | .error e => .error e
      | .ok (x, l1) =>
        if pkW x = 48 ∨ pkW x = 97 then .ok (((s.1.length : Int), (s.1 ++ [⟨0, 0, mkS [], wVal (pkW x) x.num (ptW x), 0, 0⟩], s.2 + 1)), l1)
        else if pkW x = 63 then .ok (((s.1.length : Int), (s.1 ++ [⟨1, 0, mkS (ptW x), zVr, 0, 0⟩], s.2 + 1)), l1)
        else if pkW x = 40 then match f with
          | 0 => .error (4, x.pos)
          | f + 1 => match takeW 43 l1 with
            | .error e => .error e
            | .ok (o, l2) => match pExpr f (s.1, s.2 + 1) l2 with
              | .error e => .error e
              | .ok ((i, s1), l3) => match pExpr f s1 l3 with
                | .error e => .error e
                | .ok ((j, s2), l4) => match takeW 41 l4 with
                  | .error e => .error e
                  | .ok (_, l5) => .ok (((s2.1.length : Int), (s2.1 ++ [⟨2, (((ptW o).headD 0).toNat : Int), mkS [], zVr, i, j⟩], s2.2)), l5)
        else .error (3, x.pos)
/-- A list up to its ')' that carries a state; n: how many may still come. -/
def pListE {σ α : Type} (rd : σ → List Wd → Px (α × σ)) : Nat → σ → List Wd → Px (List α × σ)
  | 0, s, l => match nextW l with
    | .error f => .error f
    | .ok (x, r) => if pkW x = 41 then .ok (([], s), r) else if pkW x = 0 then .error (3, x.pos) else .error (4, x.pos)
  | n + 1, s, l => match nextW l with
    | .error f => .error f
    | .ok (x, r) => if pkW x = 41 then .ok (([], s), r) else match rd s l with
      | .error f => .error f
      | .ok ((v, s1), l1) => match pListE rd n s1 l1 with
        | .error f => .error f
        | .ok ((vs, s2), l2) => .ok ((v :: vs, s2), l2)
/-- Forms in brackets up to a word of kind k; n: how many may still come. -/
def pMany {α : Type} (k : Int) (rd : List Wd → Px α) : Nat → List Wd → Px (List α)
  | 0, l => match nextW l with
    | .error f => .error f
    | .ok (x, _) => if pkW x = k then .ok ([], l) else if pkW x = 40 then .error (4, x.pos) else .error (3, x.pos)
  | n + 1, l => match nextW l with
    | .error f => .error f
    | .ok (x, _) => if pkW x = k then .ok ([], l) else match takeW 40 l with
      | .error f => .error f
      | .ok (_, l1) => match rd l1 with
        | .error f => .error f
        | .ok (v, l2) => match pMany k rd n l2 with
          | .error f => .error f
          | .ok (vs, l3) => .ok (v :: vs, l3)
def pManyS {σ α : Type} (k : Int) (rd : σ → List Wd → Px (α × σ)) : Nat → σ → List Wd → Px (List α × σ)
  | 0, s, l => match nextW l with
    | .error f => .error f
    | .ok (x, _) => if pkW x = k then .ok (([], s), l) else if pkW x = 40 then .error (4, x.pos) else .error (3, x.pos)
  | n + 1, s, l => match nextW l with
    | .error f => .error f
    | .ok (x, _) => if pkW x = k then .ok (([], s), l) else match takeW 40 l with
      | .error f => .error f
      | .ok (_, l1) => match rd s l1 with
        | .error f => .error f
        | .ok ((v, s1), l2) => match pManyS k rd n s1 l2 with
          | .error f => .error f
          | .ok ((vs, s2), l3) => .ok ((v :: vs, s2), l3)
def refOf (n : Int) : Int := if n < -1000000 ∨ 1000000 < n then 0 else n
def pRef (l : List Wd) : Px Int := andP (takeW 48 l) fun x l1 => .ok (refOf x.num, l1)
def aHalt (s : ES) (l : List Wd) : Px (Ac × ES) := andP (takeW 41 l) fun _ l2 => .ok ((⟨4, 0, mkS [], []⟩, s), l2)
def aDrop (s : ES) (l : List Wd) : Px (Ac × ES) := andP (pRef l) fun k l1 => andP (takeW 41 l1) fun _ l2 => .ok ((⟨2, k, mkS [], []⟩, s), l2)
def aMod (s : ES) (l : List Wd) : Px (Ac × ES) := andP (pRef l) fun k l1 => andP (pListE (pExpr 20) 6 s l1) fun p l2 => .ok ((⟨3, k, mkS [], p.1⟩, p.2), l2)
def aAdd (s : ES) (l : List Wd) : Px (Ac × ES) := andP (pClass l) fun c l1 => andP (pListE (pExpr 20) 6 s l1) fun p l2 => .ok ((⟨1, 0, mkS c, p.1⟩, p.2), l2)
/-- An action, behind its '('. -/
def pAct (s : ES) (l : List Wd) : Px (Ac × ES) := andP (takeW 97 l) fun x l1 =>
  if ptW x = haltT then aHalt s l1 else if ptW x = modT then aMod s l1 else if ptW x = dropT then aDrop s l1 else if ptW x = addT then aAdd s l1 else .error (3, x.pos)
def ruleT : Bs := [114, 117, 108, 101]
/-- A rule, behind its '('. -/
def pRule (l : List Wd) : Px Ru := andP (takeW 97 l) fun x l1 => if ptW x = ruleT then
    andP (takeW 97 l1) fun nm l2 => andP (takeW 48 l2) fun sl l3 => andP (pMany 62 pPat 6 l3) fun ps l4 => andP (takeW 62 l4) fun _ l5 =>
      andP (pManyS 41 pAct 8 ([], 0) l5) fun q l6 => andP (takeW 41 l6) fun _ l7 => .ok (⟨mkS (ptW nm), sl.num, ps, q.2.1, q.1⟩, l7)
  else .error (3, x.pos)
def pRules (l : List Wd) : Px (List Ru) := pMany 0 pRule 16 l
end Go.Proofs.YtgkoiojelckblaaGreatDoor

namespace Go.Proofs.YtgkoiojelckblaaGreatDoor
open Go.RowKit
attribute [local go_sem ↓] Go.wp_at_zero Go.wp_at_succ

theorem infoTmP : (Tryz.prog.info? 49).map (·.size) = some 6 := by kernel_rfl
def Rtm (x : Tm) (e : Ending) (_ : World) : Prop := e = .returned (.agg (tmC x).toArray)
theorem lift_set3o {P : World → Prop} {w : World} {b o : Nat} {t : TypeId} {cs : Array Value} {v0 v1 v2 : Value} (hq : w.heap[b]? = some (.cells cs t (0, 0))) (hs : o + 3 ≤ cs.size) (h : ∀ wt, wt.heap[b]? = some (.cells (cs.toList.take o ++ ([v0, v1, v2] ++ cs.toList.drop (o + 3))).toArray t (0, 0)) → Turned w wt b → P wt) : P (((w.setCell ⟨b, o, none⟩ v0).setCell ⟨b, o + 1, none⟩ v1).setCell ⟨b, o + 2, none⟩ v2) :=
  h _ (heap_setCells_splice hq (o := o) [v0, v1, v2] (by simp; omega)) (Turned.setCells [v0, v1, v2] o w b)
theorem andP_okX {α β : Type} {x : α} {l : List Wd} {k : α → List Wd → Px β} : andP (.ok (x, l)) k = k x l := rfl
set_option maxRecDepth 100000 in
set_option maxHeartbeats 3200000 in
theorem ptest_any (w : World) (pb : Nat) (src : Bs) (a : Option Addr) (c : Nat) (l : List Wd) (R : List Value) (h : PSt w pb src a c l R) : Calls Tryz.prog 162 #[.pointer (some ⟨pb, 0, none⟩)] w (PPost w pb src a c R Rtm (pTest l)) := by
  have hwf2 := wfield2
  have HP := hidX h
  have hpb := h.lt
  clear h
  go_enter Tryz.func162, Tryz.ntmps162
  go_upto_region 1 with fail
  refine lift_alloc ?_
  intro w1 hW1 hq1
  have HTK := hidX (take_any w1 pb src a c l R 61 (HP.out.below hW1))
  have M1 := hidX (MkO.of_below hW1 : MkO (some pb) w w1)
  have hrb : w.heap.size < w1.heap.size := lt_of_block' hq1
  have HQ1 := hidX hq1
  clear hW1 hq1
  cases hr : takeW 61 l with
  | error f =>
    have HT : Hid (pTest l = .error f) := show _ = _ from by unfold pTest; rw [hr]; rfl
    rw [hr] at HTK
    go_wp2_with (first | (go_at_call 62; refine HTK.out.mono ?_; rintro e w2 ⟨hm2, rfl⟩; unfold fltE) | fail)
    exact ⟨rfl, PPost.err HT.out (M1.out.trans hm2)⟩
  | ok p =>
    obtain ⟨o, l1⟩ := p
    rw [hr] at HTK
    go_upto_region 2 with (first | (go_at_call 62; refine HTK.out.mono ?_; rintro e w2 ⟨hm2, hw2, hp2⟩; replace hw2 : e = .returned (pwA o) := hw2; subst hw2; unfold pwA) | (go_at_call 218; refine (testOf_any (ptW o) w2 hp2.env.tests).mono ?_; rintro e w3 ⟨rfl, rfl⟩) | fail)
    refine lift_alloc ?_
    intro w4 hW4 hq4
    obtain ⟨ix, hix⟩ : ∃ ix : Int, ix = (testIx (ptW o) : Int) := ⟨_, rfl⟩
    rw [← hix] at hq4
    have HIX := hidX hix
    have HPN := hidX (pnext_any w4 pb src a c l1 R (hp2.below hW4))
    have s2 := hm2.rest.size
    have s4 : w3.heap.size < w4.heap.size := lt_of_block' hq4
    have M4 := hidX ((M1.out.trans hm2).trans (MkO.of_below hW4))
    have HQ4 := hidX hq4
    have HRB4 := hidX ((hW4.block w.heap.size (by omega)).trans ((hm2.block w.heap.size hrb (fun e => by injection e; omega)).trans HQ1.out))
    have HTO := hidX hr
    clear hW4 hq4 hm2 hp2 HTK HQ1 M1 hix hr
    cases hn : nextW l1 with
    | error f =>
      have HT : Hid (pTest l = .error f) := show _ = _ from by unfold pTest; rw [HTO.out, andP_okX, hn]; rfl
      rw [hn] at HPN
      go_wp2_with (first | (go_at_call 105; refine HPN.out.mono ?_; rintro e w5 ⟨hm5, rfl⟩; unfold fltE) | fail)
      exact ⟨rfl, PPost.err HT.out (M4.out.trans hm5)⟩
    | ok p =>
      obtain ⟨x, l2⟩ := p
      rw [hn] at HPN
      go_upto_region 3 with (first | (go_at_call 105; refine HPN.out.mono ?_; rintro e w5 ⟨hm5, hw5, hp5⟩; replace hw5 : e = .returned (pwA x) := hw5; subst hw5; unfold pwA) | fail)
      refine lift_alloc ?_
      intro w6 hW6 hq6
      obtain ⟨L, X, HLX, hLl, hq6, y0⟩ := wd_box hq6
      have s5 := hm5.rest.size
      have s6 : w5.heap.size < w6.heap.size := lt_of_block' hq6
      have M6 := hidX ((M4.out.trans hm5).trans (MkO.of_below hW6))
      have P6 := hidX (hp5.below hW6)
      have HTB6 := hidX ((hW6.block w3.heap.size (by omega)).trans ((hm5.block w3.heap.size s4 (fun e => by injection e; omega)).trans HQ4.out))
      have HRB6 := hidX ((hW6.block w.heap.size (by omega)).trans ((hm5.block w.heap.size (by omega) (fun e => by injection e; omega)).trans HRB4.out))
      have y2 := (wd_text HLX hq6).1
      clear hW6 hm5 hp5 HPN HQ4 HRB4 M4
      have HXK := hidX HLX.out.1
      by_cases hk : X = 48 ∨ X = 97
      · have HT : Hid (pTest l = andP (takeW 41 l2) fun _ l3 => .ok (⟨3, ix, mkS [], wVal (pkW x) x.num (ptW x)⟩, l3)) := show _ = _ from by
          unfold pTest
          rw [HTO.out, andP_okX, hn, andP_okX, if_pos (by rw [← HXK.out]; exact hk), ← HIX.out]
        obtain ⟨v, hv⟩ : ∃ v, v = wVal (pkW x) x.num (ptW x) := ⟨_, rfl⟩
        have HVL := hidX (value_L HLX)
        rw [← hv] at HT HVL
        have hor : (X == 48) = true ∨ ((X == 48) = false ∧ (X == 97) = true) := by
          rcases hk with h | h
          · exact .inl (by simp [h])
          · exact .inr ⟨by simp [h], by simp [h]⟩
        clear hk hv hn
        rcases hor with e1 | ⟨e1, e2⟩
        · go_upto_region 10 with (first | (refine wpList_load_blk (by rfl) 146 (.tmp 4) (by rfl) w5.heap.size L (by rfl) 146 (0, 0) hq6 _ Tryz.underlying146 rfl hLl.1 ?_) | (go_at_call 106; refine (HVL.out _).mono ?_; intro e w7 hv7; obtain ⟨he7, hb7⟩ := hv7; replace he7 : e = .returned (.agg #[.int .i64 v.kind, .int .i64 v.num, .string v.sym]) := he7; subst he7; have hq7 := (hb7.block w3.heap.size (by omega)).trans HTB6.out; have d3 := cell_of (L := [_, _, _, _, _, _]) hq7 (j := 3) rfl; have d4 := cell_of (L := [_, _, _, _, _, _]) hq7 (j := 4) rfl; have d5 := cell_of (L := [_, _, _, _, _, _]) hq7 (j := 5) rfl; have f3 := froz_of hq7 3; have f4 := froz_of hq7 4; have f5 := froz_of hq7 5) | fail)
          have M7 := hidX (M6.out.trans (MkO.of_below hb7))
          have P7 := hidX (P6.out.below hb7)
          have s7 := hb7.size
          have HRB7 := hidX ((hb7.block w.heap.size (by omega)).trans HRB6.out)
          refine lift_set3o hq7 (by simp) ?_
          intro w8 hb8 ht8
          replace hb8 : w8.heap[w3.heap.size]? = some (.cells (tmC ⟨3, ix, mkS [], v⟩).toArray 49 (0, 0)) := hb8
          clear d3 d4 d5 f3 f4 f5 hq7 hb7 y0 y2
          have HB8 := hidX hb8
          have M8 := hidX (M7.out.turn ht8 (by omega))
          have P8 := hidX (P7.out.turned ht8 (by omega))
          have s8 := ht8.size
          have s8' : w7.heap.size ≤ w8.heap.size := Nat.le_of_eq s8.symm
          have HRB8 := hidX ((ht8.block w.heap.size (by omega)).trans HRB7.out)
          have HTK := hidX (take_any w8 pb src a c l2 R 41 P8.out)
          clear hb8 ht8 s8 HRB7 P7 M7
          cases hc : takeW 41 l2 with
          | error f =>
            have HTE : Hid (pTest l = .error f) := show _ = _ from by rw [HT.out, hc]; rfl
            rw [hc] at HTK
            clear hc
            go_wp2_with (first | (go_at_call 62; refine HTK.out.mono ?_; rintro e w9 ⟨hm9, rfl⟩; unfold fltE) | fail)
            exact ⟨rfl, PPost.err HTE.out (M8.out.trans hm9)⟩
          | ok q =>
            obtain ⟨y, l3⟩ := q
            have HTE : Hid (pTest l = .ok (⟨3, ix, mkS [], v⟩, l3)) := show _ = _ from by rw [HT.out, hc]; rfl
            rw [hc] at HTK
            clear hc
            go_upto_region 11 with (first | (go_at_call 62; refine HTK.out.mono ?_; rintro e w9 ⟨hm9, hw9, hp9⟩; replace hw9 : e = .returned (pwA y) := hw9; subst hw9; unfold pwA) | fail)
            have s9 := hm9.rest.size
            have hq9 := (hm9.block w3.heap.size (by omega) (fun e => by injection e; omega)).trans HB8.out
            have hr9 := (hm9.block w.heap.size (by omega) (fun e => by injection e; omega)).trans HRB8.out
            have M9 := hidX (M8.out.trans hm9)
            have P9 := hidX hp9
            clear hm9 hp9 HTK
            go_wp2_with (first | (refine wpList_load_blk (by rfl) 49 (.tmp 3) (by rfl) w3.heap.size (tmC ⟨3, ix, mkS [], v⟩) (by rfl) 49 (0, 0) hq9 _ Tryz.underlying49 rfl infoTmP ?_) | (refine wpList_store_blk (by rfl) 49 (.tmp 2) (.tmp 32) (by rfl) w.heap.size (tmC ⟨3, ix, mkS [], v⟩) (by rfl) (by rfl) _ 49 hr9 (by rfl) infoTmP (tmC_one _) ?_; intro w10 hb10 ht10) | fail)
            have hld := run_loadVar_mid (P := Tryz.prog) w10 w.heap.size 0 49 (tmC ⟨3, ix, mkS [], v⟩) _ (range_blk hb10.out) Tryz.underlying49 rfl infoTmP
            (try go_frame)
            exact bodyPost_ret (v := .agg (tmC ⟨3, ix, mkS [], v⟩).toArray) (by simp [results, Tryz.results162, asAddr, hld]) rfl (PPost.good HTE.out (M9.out.turn ht10.out (Nat.le_refl _)) rfl (P9.out.turned ht10.out (by omega)))
        · go_upto_region 10 with (first | (refine wpList_load_blk (by rfl) 146 (.tmp 4) (by rfl) w5.heap.size L (by rfl) 146 (0, 0) hq6 _ Tryz.underlying146 rfl hLl.1 ?_) | (go_at_call 106; refine (HVL.out _).mono ?_; intro e w7 hv7; obtain ⟨he7, hb7⟩ := hv7; replace he7 : e = .returned (.agg #[.int .i64 v.kind, .int .i64 v.num, .string v.sym]) := he7; subst he7; have hq7 := (hb7.block w3.heap.size (by omega)).trans HTB6.out; have d3 := cell_of (L := [_, _, _, _, _, _]) hq7 (j := 3) rfl; have d4 := cell_of (L := [_, _, _, _, _, _]) hq7 (j := 4) rfl; have d5 := cell_of (L := [_, _, _, _, _, _]) hq7 (j := 5) rfl; have f3 := froz_of hq7 3; have f4 := froz_of hq7 4; have f5 := froz_of hq7 5) | fail)
          have M7 := hidX (M6.out.trans (MkO.of_below hb7))
          have P7 := hidX (P6.out.below hb7)
          have s7 := hb7.size
          have HRB7 := hidX ((hb7.block w.heap.size (by omega)).trans HRB6.out)
          refine lift_set3o hq7 (by simp) ?_
          intro w8 hb8 ht8
          replace hb8 : w8.heap[w3.heap.size]? = some (.cells (tmC ⟨3, ix, mkS [], v⟩).toArray 49 (0, 0)) := hb8
          clear d3 d4 d5 f3 f4 f5 hq7 hb7 y0 y2
          have HB8 := hidX hb8
          have M8 := hidX (M7.out.turn ht8 (by omega))
          have P8 := hidX (P7.out.turned ht8 (by omega))
          have s8 := ht8.size
          have s8' : w7.heap.size ≤ w8.heap.size := Nat.le_of_eq s8.symm
          have HRB8 := hidX ((ht8.block w.heap.size (by omega)).trans HRB7.out)
          have HTK := hidX (take_any w8 pb src a c l2 R 41 P8.out)
          clear hb8 ht8 s8 HRB7 P7 M7
          cases hc : takeW 41 l2 with
          | error f =>
            have HTE : Hid (pTest l = .error f) := show _ = _ from by rw [HT.out, hc]; rfl
            rw [hc] at HTK
            clear hc
            go_wp2_with (first | (go_at_call 62; refine HTK.out.mono ?_; rintro e w9 ⟨hm9, rfl⟩; unfold fltE) | fail)
            exact ⟨rfl, PPost.err HTE.out (M8.out.trans hm9)⟩
          | ok q =>
            obtain ⟨y, l3⟩ := q
            have HTE : Hid (pTest l = .ok (⟨3, ix, mkS [], v⟩, l3)) := show _ = _ from by rw [HT.out, hc]; rfl
            rw [hc] at HTK
            clear hc
            go_upto_region 11 with (first | (go_at_call 62; refine HTK.out.mono ?_; rintro e w9 ⟨hm9, hw9, hp9⟩; replace hw9 : e = .returned (pwA y) := hw9; subst hw9; unfold pwA) | fail)
            have s9 := hm9.rest.size
            have hq9 := (hm9.block w3.heap.size (by omega) (fun e => by injection e; omega)).trans HB8.out
            have hr9 := (hm9.block w.heap.size (by omega) (fun e => by injection e; omega)).trans HRB8.out
            have M9 := hidX (M8.out.trans hm9)
            have P9 := hidX hp9
            clear hm9 hp9 HTK
            go_wp2_with (first | (refine wpList_load_blk (by rfl) 49 (.tmp 3) (by rfl) w3.heap.size (tmC ⟨3, ix, mkS [], v⟩) (by rfl) 49 (0, 0) hq9 _ Tryz.underlying49 rfl infoTmP ?_) | (refine wpList_store_blk (by rfl) 49 (.tmp 2) (.tmp 32) (by rfl) w.heap.size (tmC ⟨3, ix, mkS [], v⟩) (by rfl) (by rfl) _ 49 hr9 (by rfl) infoTmP (tmC_one _) ?_; intro w10 hb10 ht10) | fail)
            have hld := run_loadVar_mid (P := Tryz.prog) w10 w.heap.size 0 49 (tmC ⟨3, ix, mkS [], v⟩) _ (range_blk hb10.out) Tryz.underlying49 rfl infoTmP
            (try go_frame)
            exact bodyPost_ret (v := .agg (tmC ⟨3, ix, mkS [], v⟩).toArray) (by simp [results, Tryz.results162, asAddr, hld]) rfl (PPost.good HTE.out (M9.out.turn ht10.out (Nat.le_refl _)) rfl (P9.out.turned ht10.out (by omega)))
      · have HK := hidX hk
        by_cases h63 : X = 63
        · have HT : Hid (pTest l = andP (takeW 41 l2) fun _ l3 => .ok (⟨3, ix, mkS (ptW x), zVr⟩, l3)) := show _ = _ from by
            unfold pTest
            rw [HTO.out, andP_okX, hn, andP_okX, if_neg (by rw [← HXK.out]; exact hk), if_pos (by rw [← HXK.out]; exact h63), ← HIX.out]
          have e1 : (X == 48) = false := by simp; omega
          have e2 : (X == 97) = false := by simp; omega
          have e3 : (X == 63) = true := by simp [h63]
          have b2 := cell_of (L := [_, _, _, _, _, _]) HTB6.out (j := 2) rfl
          have f2 := froz_of HTB6.out 2
          clear hk h63 hn
          go_upto_region 10 with (first | (refine wpList_load_blk (by rfl) 146 (.tmp 4) (by rfl) w5.heap.size L (by rfl) 146 (0, 0) hq6 _ Tryz.underlying146 rfl hLl.1 ?_) | fail)
          obtain ⟨w7, hw7⟩ : ∃ w7, w7 = w6 := ⟨_, rfl⟩
          rw [← hw7] at M6 P6 HRB6 HTB6 ⊢
          have M7 := hidX M6.out
          have P7 := hidX P6.out
          have HRB7 := hidX HRB6.out
          have s7 : w6.heap.size ≤ w7.heap.size := by rw [hw7]; exact Nat.le_refl _
          refine lift_setW HTB6.out ?_
          intro w8 hb8 ht8
          replace hb8 : w8.heap[w3.heap.size]? = some (.cells (tmC ⟨3, ix, mkS (ptW x), zVr⟩).toArray 49 (0, 0)) := hb8
          clear b2 f2 y0 y2
          have HB8 := hidX hb8
          have M8 := hidX (M7.out.turn ht8 (by omega))
          have P8 := hidX (P7.out.turned ht8 (by omega))
          have s8 := ht8.size
          have s8' : w7.heap.size ≤ w8.heap.size := Nat.le_of_eq s8.symm
          have HRB8 := hidX ((ht8.block w.heap.size (by omega)).trans HRB7.out)
          have HTK := hidX (take_any w8 pb src a c l2 R 41 P8.out)
          clear hb8 ht8 s8 HRB7 P7 M7
          cases hc : takeW 41 l2 with
          | error f =>
            have HTE : Hid (pTest l = .error f) := show _ = _ from by rw [HT.out, hc]; rfl
            rw [hc] at HTK
            clear hc
            go_wp2_with (first | (go_at_call 62; refine HTK.out.mono ?_; rintro e w9 ⟨hm9, rfl⟩; unfold fltE) | fail)
            exact ⟨rfl, PPost.err HTE.out (M8.out.trans hm9)⟩
          | ok q =>
            obtain ⟨y, l3⟩ := q
            have HTE : Hid (pTest l = .ok (⟨3, ix, mkS (ptW x), zVr⟩, l3)) := show _ = _ from by rw [HT.out, hc]; rfl
            rw [hc] at HTK
            clear hc
            go_upto_region 11 with (first | (go_at_call 62; refine HTK.out.mono ?_; rintro e w9 ⟨hm9, hw9, hp9⟩; replace hw9 : e = .returned (pwA y) := hw9; subst hw9; unfold pwA) | fail)
            have s9 := hm9.rest.size
            have hq9 := (hm9.block w3.heap.size (by omega) (fun e => by injection e; omega)).trans HB8.out
            have hr9 := (hm9.block w.heap.size (by omega) (fun e => by injection e; omega)).trans HRB8.out
            have M9 := hidX (M8.out.trans hm9)
            have P9 := hidX hp9
            clear hm9 hp9 HTK
            go_wp2_with (first | (refine wpList_load_blk (by rfl) 49 (.tmp 3) (by rfl) w3.heap.size (tmC ⟨3, ix, mkS (ptW x), zVr⟩) (by rfl) 49 (0, 0) hq9 _ Tryz.underlying49 rfl infoTmP ?_) | (refine wpList_store_blk (by rfl) 49 (.tmp 2) (.tmp 32) (by rfl) w.heap.size (tmC ⟨3, ix, mkS (ptW x), zVr⟩) (by rfl) (by rfl) _ 49 hr9 (by rfl) infoTmP (tmC_one _) ?_; intro w10 hb10 ht10) | fail)
            have hld := run_loadVar_mid (P := Tryz.prog) w10 w.heap.size 0 49 (tmC ⟨3, ix, mkS (ptW x), zVr⟩) _ (range_blk hb10.out) Tryz.underlying49 rfl infoTmP
            (try go_frame)
            exact bodyPost_ret (v := .agg (tmC ⟨3, ix, mkS (ptW x), zVr⟩).toArray) (by simp [results, Tryz.results162, asAddr, hld]) rfl (PPost.good HTE.out (M9.out.turn ht10.out (Nat.le_refl _)) rfl (P9.out.turned ht10.out (by omega)))
        · have HT : Hid (pTest l = .error (3, x.pos)) := show _ = _ from by
            unfold pTest
            rw [HTO.out, andP_okX, hn, andP_okX, if_neg (by rw [← HXK.out]; exact hk), if_neg (by rw [← HXK.out]; exact h63)]
          have e1 : (X == 48) = false := by simp; omega
          have e2 : (X == 97) = false := by simp; omega
          have e3 : (X == 63) = false := by simp [h63]
          clear hk h63 hn
          go_wp2_with (first | (refine wpList_load_blk (by rfl) 146 (.tmp 4) (by rfl) w5.heap.size L (by rfl) 146 (0, 0) hq6 _ Tryz.underlying146 rfl hLl.1 ?_) | (go_at_call 70; refine (fault_L HLX 3 _).mono ?_; rintro e w7 ⟨rfl, hb7⟩) | fail)
          exact ⟨rfl, PPost.err HT.out (M6.out.trans (MkO.of_below hb7))⟩
set_option maxRecDepth 100000 in
set_option maxHeartbeats 3200000 in
theorem pterm_any (w : World) (pb : Nat) (src : Bs) (a : Option Addr) (c : Nat) (l : List Wd) (R : List Value) (h : PSt w pb src a c l R) : Calls Tryz.prog 111 #[.pointer (some ⟨pb, 0, none⟩)] w (PPost w pb src a c R Rtm (pTerm l)) := by
  have HP := hidX h
  have hpb := h.lt
  clear h
  go_enter Tryz.func111, Tryz.ntmps111
  go_upto_region 1 with fail
  refine lift_alloc ?_
  intro w1 hW1 hq1
  have HPN := hidX (pnext_any w1 pb src a c l R (HP.out.below hW1))
  have M1 := hidX (MkO.of_below hW1 : MkO (some pb) w w1)
  have hrb : w.heap.size < w1.heap.size := lt_of_block' hq1
  have HQ1 := hidX hq1
  clear hW1 hq1
  cases hn : nextW l with
  | error f =>
    have HT : Hid (pTerm l = .error f) := show _ = _ from by unfold pTerm; rw [hn]; rfl
    rw [hn] at HPN
    go_wp2_with (first | (go_at_call 105; refine HPN.out.mono ?_; rintro e w2 ⟨hm2, rfl⟩; unfold fltE) | fail)
    exact ⟨rfl, PPost.err HT.out (M1.out.trans hm2)⟩
  | ok p =>
    obtain ⟨x, l1⟩ := p
    rw [hn] at HPN
    go_upto_region 2 with (first | (go_at_call 105; refine HPN.out.mono ?_; rintro e w2 ⟨hm2, hw2, hp2⟩; replace hw2 : e = .returned (pwA x) := hw2; subst hw2; unfold pwA) | fail)
    refine lift_alloc ?_
    intro w3 hW3 hq3
    obtain ⟨L, X, HLX, hLl, hq3, y0⟩ := wd_box hq3
    have s2 := hm2.rest.size
    have s3 : w2.heap.size < w3.heap.size := lt_of_block' hq3
    have M3 := hidX ((M1.out.trans hm2).trans (MkO.of_below hW3))
    have P3 := hidX (hp2.below hW3)
    have hr3 := (hW3.block w.heap.size (by omega)).trans ((hm2.block w.heap.size hrb (fun e => by injection e; omega)).trans HQ1.out)
    have y2 := (wd_text HLX hq3).1
    have HXK := hidX HLX.out.1
    have HN : Hid (∀ k : Wd → List Wd → Px Tm, andP (nextW l) k = k x l1) := show ∀ k : Wd → List Wd → Px Tm, _ from fun k => by rw [hn]; rfl
    clear hW3 hm2 hp2 HPN HQ1 M1 hn
    by_cases h95 : X = 95
    · have HT : Hid (pTerm l = .ok (⟨0, 0, mkS [], zVr⟩, l1)) := show _ = _ from by unfold pTerm; rw [HN.out, ← HXK.out, if_pos h95]
      have e1 : (X == 95) = true := by simp [h95]
      clear h95
      go_wp2_with (first | (refine wpList_store_blk (by rfl) 49 (.tmp 2) (.tmp 12) (by rfl) w.heap.size (tmC ⟨0, 0, mkS [], zVr⟩) (by rfl) (by rfl) _ 49 hr3 (by rfl) infoTmP (tmC_one _) ?_; intro w4 hb4 ht4) | fail)
      have hld := run_loadVar_mid (P := Tryz.prog) w4 w.heap.size 0 49 (tmC ⟨0, 0, mkS [], zVr⟩) _ (range_blk hb4.out) Tryz.underlying49 rfl infoTmP
      (try go_frame)
      exact bodyPost_ret (v := .agg (tmC ⟨0, 0, mkS [], zVr⟩).toArray) (by simp [results, Tryz.results111, asAddr, hld]) rfl (PPost.good HT.out (M3.out.turn ht4.out (Nat.le_refl _)) rfl (P3.out.turned ht4.out (by omega)))
    have e0 : (X == 95) = false := by simp [h95]
    by_cases hk : X = 48 ∨ X = 97
    · have HT : Hid (pTerm l = .ok (⟨1, 0, mkS [], wVal (pkW x) x.num (ptW x)⟩, l1)) := show _ = _ from by
        unfold pTerm
        rw [HN.out, if_neg (by rw [← HXK.out]; exact h95), if_pos (by rw [← HXK.out]; exact hk)]
      obtain ⟨v, hv⟩ : ∃ v, v = wVal (pkW x) x.num (ptW x) := ⟨_, rfl⟩
      have HVL := hidX (value_L HLX)
      rw [← hv] at HT HVL
      have hor : (X == 48) = true ∨ ((X == 48) = false ∧ (X == 97) = true) := by
        rcases hk with h | h
        · exact .inl (by simp [h])
        · exact .inr ⟨by simp [h], by simp [h]⟩
      clear hk hv h95
      rcases hor with e1 | ⟨e1, e2⟩
      all_goals
        go_wp2_with (first | (refine wpList_load_blk (by rfl) 146 (.tmp 3) (by rfl) w2.heap.size L (by rfl) 146 (0, 0) hq3 _ Tryz.underlying146 rfl hLl.1 ?_) | (go_at_call 106; refine (HVL.out _).mono ?_; intro e w4 hv4; obtain ⟨he4, hb4⟩ := hv4; replace he4 : e = .returned (.agg #[.int .i64 v.kind, .int .i64 v.num, .string v.sym]) := he4; subst he4; have hr4 := (hb4.block w.heap.size (by omega)).trans hr3) | (refine wpList_store_blk (by rfl) 49 (.tmp 2) (.tmp 18) (by rfl) w.heap.size (tmC ⟨1, 0, mkS [], v⟩) (by rfl) (by rfl) _ 49 hr4 (by rfl) infoTmP (tmC_one _) ?_; intro w5 hb5 ht5) | fail)
        have hld := run_loadVar_mid (P := Tryz.prog) w5 w.heap.size 0 49 (tmC ⟨1, 0, mkS [], v⟩) _ (range_blk hb5.out) Tryz.underlying49 rfl infoTmP
        (try go_frame)
        exact bodyPost_ret (v := .agg (tmC ⟨1, 0, mkS [], v⟩).toArray) (by simp [results, Tryz.results111, asAddr, hld]) rfl (PPost.good HT.out ((M3.out.trans (MkO.of_below hb4)).turn ht5.out (Nat.le_refl _)) rfl ((P3.out.below hb4).turned ht5.out (by omega)))
    have e1 : (X == 48) = false := by simp; omega
    have e2 : (X == 97) = false := by simp; omega
    by_cases h63 : X = 63
    · have HT : Hid (pTerm l = .ok (⟨2, 0, mkS (ptW x), zVr⟩, l1)) := show _ = _ from by
        unfold pTerm
        rw [HN.out, if_neg (by rw [← HXK.out]; exact h95), if_neg (by rw [← HXK.out]; exact hk), if_pos (by rw [← HXK.out]; exact h63)]
      have e3 : (X == 63) = true := by simp [h63]
      clear hk h95 h63
      go_wp2_with (first | (refine wpList_store_blk (by rfl) 49 (.tmp 2) (.tmp 23) (by rfl) w.heap.size (tmC ⟨2, 0, mkS (ptW x), zVr⟩) (by rfl) (by rfl) _ 49 hr3 (by rfl) infoTmP (tmC_one _) ?_; intro w4 hb4 ht4) | fail)
      have hld := run_loadVar_mid (P := Tryz.prog) w4 w.heap.size 0 49 (tmC ⟨2, 0, mkS (ptW x), zVr⟩) _ (range_blk hb4.out) Tryz.underlying49 rfl infoTmP
      (try go_frame)
      exact bodyPost_ret (v := .agg (tmC ⟨2, 0, mkS (ptW x), zVr⟩).toArray) (by simp [results, Tryz.results111, asAddr, hld]) rfl (PPost.good HT.out (M3.out.turn ht4.out (Nat.le_refl _)) rfl (P3.out.turned ht4.out (by omega)))
    have e3 : (X == 63) = false := by simp [h63]
    by_cases h40 : X = 40
    · have HT : Hid (pTerm l = pTest l1) := show _ = _ from by
        unfold pTerm
        rw [HN.out, if_neg (by rw [← HXK.out]; exact h95), if_neg (by rw [← HXK.out]; exact hk), if_neg (by rw [← HXK.out]; exact h63), if_pos (by rw [← HXK.out]; exact h40)]
      have e4 : (X == 40) = true := by simp [h40]
      have HTS := hidX (ptest_any w3 pb src a c l1 R P3.out)
      clear hk h95 h63 h40
      cases hc : pTest l1 with
      | error f =>
        have HTE : Hid (pTerm l = .error f) := show _ = _ from by rw [HT.out, hc]
        rw [hc] at HTS
        go_wp2_with (first | (go_at_call 162; refine HTS.out.mono ?_; rintro e w4 ⟨hm4, rfl⟩; unfold fltE) | fail)
        exact ⟨rfl, PPost.err HTE.out (M3.out.trans hm4)⟩
      | ok q =>
        obtain ⟨tm, l2⟩ := q
        have HTE : Hid (pTerm l = .ok (tm, l2)) := show _ = _ from by rw [HT.out, hc]
        rw [hc] at HTS
        go_wp2_with (first | (go_at_call 162; refine HTS.out.mono ?_; rintro e w4 ⟨hm4, he4, hp4⟩; replace he4 : e = .returned (.agg (tmC tm).toArray) := he4; subst he4; have s4 := hm4.rest.size; have hr4 := (hm4.block w.heap.size (by omega) (fun e => by injection e; omega)).trans hr3) | (refine wpList_store_blk (by rfl) 49 (.tmp 2) (.tmp 27) (by rfl) w.heap.size (tmC tm) (by rfl) (by rfl) _ 49 hr4 (by rfl) infoTmP (tmC_one _) ?_; intro w5 hb5 ht5) | fail)
        have hld := run_loadVar_mid (P := Tryz.prog) w5 w.heap.size 0 49 (tmC tm) _ (range_blk hb5.out) Tryz.underlying49 rfl infoTmP
        (try go_frame)
        exact bodyPost_ret (v := .agg (tmC tm).toArray) (by simp [results, Tryz.results111, asAddr, hld]) rfl (PPost.good HTE.out ((M3.out.trans hm4).turn ht5.out (Nat.le_refl _)) rfl (hp4.turned ht5.out (by omega)))
    · have HT : Hid (pTerm l = .error (3, x.pos)) := show _ = _ from by
        unfold pTerm
        rw [HN.out, if_neg (by rw [← HXK.out]; exact h95), if_neg (by rw [← HXK.out]; exact hk), if_neg (by rw [← HXK.out]; exact h63), if_neg (by rw [← HXK.out]; exact h40)]
      have e4 : (X == 40) = false := by simp [h40]
      clear hk h95 h63 h40
      go_wp2_with (first | (refine wpList_load_blk (by rfl) 146 (.tmp 3) (by rfl) w2.heap.size L (by rfl) 146 (0, 0) hq3 _ Tryz.underlying146 rfl hLl.1 ?_) | (go_at_call 70; refine (fault_L HLX 3 _).mono ?_; rintro e w4 ⟨rfl, hb4⟩) | fail)
      exact ⟨rfl, PPost.err HT.out (M3.out.trans (MkO.of_below hb4))⟩
end Go.Proofs.YtgkoiojelckblaaGreatDoor

namespace Go.Proofs.YtgkoiojelckblaaGreatDoor

/-- An operation, behind its '('. -/
def pOp (f : Nat) (s : ES) (l : List Wd) : Px (Ex × ES) := andP (takeW 43 l) fun o l1 => andP (pExpr f s l1) fun p l2 => andP (pExpr f p.2 l2) fun q l3 => andP (takeW 41 l3) fun _ l4 => .ok ((⟨2, (((ptW o).headD 0).toNat : Int), mkS [], zVr, p.1, q.1⟩, q.2), l4)
theorem pExpr_bad {f : Nat} {s : ES} {l : List Wd} {e : Flt} (h : boundW (s.2 : Int) 60 l = .error e) : pExpr f s l = .error e := by
  unfold pExpr
  rw [h]
theorem pExpr_next {f : Nat} {s : ES} {l : List Wd} {u : Unit × List Wd} {e : Flt} (hb : boundW (s.2 : Int) 60 l = .ok u) (h : nextW l = .error e) : pExpr f s l = .error e := by
  unfold pExpr
  rw [hb, h]
theorem pExpr_const {f : Nat} {s : ES} {l l1 : List Wd} {u : Unit × List Wd} {x : Wd} (hb : boundW (s.2 : Int) 60 l = .ok u) (h : nextW l = .ok (x, l1)) (hk : pkW x = 48 ∨ pkW x = 97) : pExpr f s l = .ok (((s.1.length : Int), (s.1 ++ [⟨0, 0, mkS [], wVal (pkW x) x.num (ptW x), 0, 0⟩], s.2 + 1)), l1) := by
  unfold pExpr
  rw [hb, h]
  simp only
  rw [if_pos hk]
theorem pExpr_var {f : Nat} {s : ES} {l l1 : List Wd} {u : Unit × List Wd} {x : Wd} (hb : boundW (s.2 : Int) 60 l = .ok u) (h : nextW l = .ok (x, l1)) (hk : pkW x = 63) : pExpr f s l = .ok (((s.1.length : Int), (s.1 ++ [⟨1, 0, mkS (ptW x), zVr, 0, 0⟩], s.2 + 1)), l1) := by
  unfold pExpr
  rw [hb, h]
  simp only
  rw [if_neg (by omega), if_pos hk]
theorem pExpr_deep {s : ES} {l l1 : List Wd} {u : Unit × List Wd} {x : Wd} (hb : boundW (s.2 : Int) 60 l = .ok u) (h : nextW l = .ok (x, l1)) (hk : pkW x = 40) : pExpr 0 s l = .error (4, x.pos) := by
  unfold pExpr
  rw [hb, h]
  simp only
  rw [if_neg (by omega), if_neg (by omega), if_pos hk]
theorem pExpr_op {f : Nat} {s : ES} {l l1 : List Wd} {u : Unit × List Wd} {x : Wd} (hb : boundW (s.2 : Int) 60 l = .ok u) (h : nextW l = .ok (x, l1)) (hk : pkW x = 40) : pExpr (f + 1) s l = andP (pOp f (s.1, s.2 + 1) l1) fun q l5 => .ok (((q.2.1.length : Int), (q.2.1 ++ [q.1], q.2.2)), l5) := by
  rw [pExpr.eq_def]
  simp only [hb, h]
  rw [if_neg (by omega), if_neg (by omega), if_pos hk]
  unfold pOp
  cases takeW 43 l1 with
  | error e => rfl
  | ok q =>
    obtain ⟨o, l2⟩ := q
    simp only [andP]
    cases pExpr f (s.1, s.2 + 1) l2 with
    | error e => rfl
    | ok q =>
      obtain ⟨⟨i, s1⟩, l3⟩ := q
      simp only
      cases pExpr f s1 l3 with
      | error e => rfl
      | ok q =>
        obtain ⟨⟨j, s2⟩, l4⟩ := q
        simp only
        cases takeW 41 l4 with
        | error e => rfl
        | ok q => rfl
theorem pExpr_else {f : Nat} {s : ES} {l l1 : List Wd} {u : Unit × List Wd} {x : Wd} (hb : boundW (s.2 : Int) 60 l = .ok u) (h : nextW l = .ok (x, l1)) (h1 : ¬ (pkW x = 48 ∨ pkW x = 97)) (h2 : pkW x ≠ 63) (h3 : pkW x ≠ 40) : pExpr f s l = .error (3, x.pos) := by
  cases f <;> (unfold pExpr; rw [hb, h]; simp only; rw [if_neg h1, if_neg h2, if_neg h3])
theorem bound_lt {n : Nat} {l l1 : List Wd} {u : Unit × List Wd} {x : Wd} (hb : boundW (n : Int) 60 l = .ok u) (h : nextW l = .ok (x, l1)) (h41 : pkW x ≠ 41) (h0 : pkW x ≠ 0) : n < 60 := by
  unfold boundW at hb
  rw [h] at hb
  simp only at hb
  split at hb
  · cases hb
  · rename_i hc
    apply Classical.byContradiction
    intro hq
    exact hc ⟨by omega, h41, h0⟩
theorem bound_same {n : Int} {l : List Wd} {u : Unit × List Wd} (hb : boundW n 60 l = .ok u) : u = ((), l) := by
  unfold boundW at hb
  cases hr : nextW l with
  | error f => rw [hr] at hb; cases hb
  | ok q =>
    rw [hr] at hb
    simp only at hb
    split at hb
    · cases hb
    · injection hb with hb
      exact hb.symm
/-- How many exprs there are, against how many have begun; k: operations that have not ended. -/
theorem pExpr_inv : ∀ (f : Nat) (s : ES) (l l' : List Wd) (k : Nat) (i : Int) (s' : ES), s.1.length + k ≤ s.2 → s.2 ≤ 60 → pExpr f s l = .ok ((i, s'), l') → s'.1.length + k ≤ s'.2 ∧ s'.2 ≤ 60 := by
  intro f
  induction f with
  | zero =>
    intro s l l' k i s' h1 h2 h
    cases hb : boundW (s.2 : Int) 60 l with
    | error e => rw [pExpr_bad hb] at h; cases h
    | ok u =>
      cases hn : nextW l with
      | error e => rw [pExpr_next hb hn] at h; cases h
      | ok q =>
        obtain ⟨x, l1⟩ := q
        by_cases hk : pkW x = 48 ∨ pkW x = 97
        · have hlt := bound_lt hb hn (by omega) (by omega)
          rw [pExpr_const hb hn hk] at h
          injection h with h
          injection h with h _
          injection h with _ h
          subst h
          simp
          omega
        · by_cases h63 : pkW x = 63
          · have hlt := bound_lt hb hn (by omega) (by omega)
            rw [pExpr_var hb hn h63] at h
            injection h with h
            injection h with h _
            injection h with _ h
            subst h
            simp
            omega
          · by_cases h40 : pkW x = 40
            · rw [pExpr_deep hb hn h40] at h
              cases h
            · rw [pExpr_else hb hn hk h63 h40] at h
              cases h
  | succ f ih =>
    intro s l l' k i s' h1 h2 h
    cases hb : boundW (s.2 : Int) 60 l with
    | error e => rw [pExpr_bad hb] at h; cases h
    | ok u =>
      cases hn : nextW l with
      | error e => rw [pExpr_next hb hn] at h; cases h
      | ok q =>
        obtain ⟨x, l1⟩ := q
        by_cases hk : pkW x = 48 ∨ pkW x = 97
        · have hlt := bound_lt hb hn (by omega) (by omega)
          rw [pExpr_const hb hn hk] at h
          injection h with h
          injection h with h _
          injection h with _ h
          subst h
          simp
          omega
        · by_cases h63 : pkW x = 63
          · have hlt := bound_lt hb hn (by omega) (by omega)
            rw [pExpr_var hb hn h63] at h
            injection h with h
            injection h with h _
            injection h with _ h
            subst h
            simp
            omega
          · by_cases h40 : pkW x = 40
            · have hlt := bound_lt hb hn (by omega) (by omega)
              rw [pExpr_op hb hn h40] at h
              unfold pOp at h
              cases ht : takeW 43 l1 with
              | error e => rw [ht] at h; cases h
              | ok q =>
                obtain ⟨o, l2⟩ := q
                rw [ht] at h
                simp only [andP] at h
                cases he : pExpr f (s.1, s.2 + 1) l2 with
                | error e => rw [he] at h; cases h
                | ok q =>
                  obtain ⟨⟨i1, s1⟩, l3⟩ := q
                  rw [he] at h
                  simp only at h
                  obtain ⟨j1, j2⟩ := ih (s.1, s.2 + 1) l2 l3 (k + 1) i1 s1 (by simp; omega) (by simp; omega) he
                  cases he2 : pExpr f s1 l3 with
                  | error e => rw [he2] at h; cases h
                  | ok q =>
                    obtain ⟨⟨i2, s2⟩, l4⟩ := q
                    rw [he2] at h
                    simp only at h
                    obtain ⟨j3, j4⟩ := ih s1 l3 l4 (k + 1) i2 s2 j1 j2 he2
                    cases hc : takeW 41 l4 with
                    | error e => rw [hc] at h; cases h
                    | ok q =>
                      rw [hc] at h
                      simp only at h
                      injection h with h
                      injection h with h _
                      injection h with _ h
                      subst h
                      simp
                      omega
            · rw [pExpr_else hb hn hk h63 h40] at h
              cases h
end Go.Proofs.YtgkoiojelckblaaGreatDoor

namespace Go.Proofs.YtgkoiojelckblaaGreatDoor
open Go.RowKit
attribute [local go_sem ↓] Go.wp_at_zero Go.wp_at_succ

theorem infoExP : (Tryz.prog.info? 138).map (·.size) = some 8 := by kernel_rfl
theorem infoEF1 : (Tryz.prog.info? 138).map (fun i => (i.zero, i.size, i.bytes)) = some (some (.agg #[.int .i64 0, .int .u8 0, .string ⟨#[]⟩, .int .i64 0, .int .i64 0, .string ⟨#[]⟩, .int .i64 0, .int .i64 0]), 8, 80) := by kernel_rfl
/-- w' is w but for block pb, the row ob, and new ones. -/
structure MkX (pb : Nat) (ob : Option Nat) (w w' : World) : Prop where
  rest : Below 0 w w'
  block : ∀ g, g < w.heap.size → pb ≠ g → ob ≠ some g → w'.heap[g]? = w.heap[g]?
theorem MkX.refl (pb : Nat) (ob : Option Nat) (w : World) : MkX pb ob w w := ⟨Below.refl _ _, fun _ _ _ _ => rfl⟩
theorem MkX.of {pb : Nat} {ob : Option Nat} {w w' : World} (h : MkO (some pb) w w') : MkX pb ob w w' := ⟨h.rest, fun g hg hp _ => h.block g hg (fun e => hp (by injection e))⟩
/-- The row stayed, or is new. -/
def RowX (ob ob' : Option Nat) (n : Nat) : Prop := ob' = ob ∨ ∀ g, ob' = some g → n ≤ g
theorem MkX.trans {pb : Nat} {ob ob1 : Option Nat} {u v w : World} (h : MkX pb ob u v) (k : MkX pb ob1 v w) (hr : RowX ob ob1 u.heap.size) : MkX pb ob u w :=
  ⟨h.rest.trans k.rest, fun g hg hp ho => (k.block g (Nat.lt_of_lt_of_le hg h.rest.size) hp (fun e => by
    rcases hr with hr | hr
    · exact ho (hr ▸ e)
    · have := hr g e
      omega)).trans (h.block g hg hp ho)⟩
theorem RowX.trans {ob ob1 ob2 : Option Nat} {n m : Nat} (h : RowX ob ob1 n) (k : RowX ob1 ob2 m) (hn : n ≤ m) : RowX ob ob2 n := by
  rcases k with k | k
  · rw [k]; exact h
  · exact .inr fun g hg => Nat.le_trans hn (k g hg)
theorem MkX.turn {pb : Nat} {ob : Option Nat} {w w2 w3 : World} {r : Nat} (h : MkX pb ob w w2) (ht : Turned w2 w3 r) (hr : w.heap.size ≤ r) : MkX pb ob w w3 :=
  ⟨h.rest.trans (ht.below (Nat.zero_le _)), fun g hg hp ho => (ht.block g (by omega)).trans (h.block g hg hp ho)⟩
theorem MkX.below {pb : Nat} {ob : Option Nat} {u v w : World} (h : MkX pb ob u v) (k : Below v.heap.size v w) : MkX pb ob u w :=
  ⟨h.rest.trans (k.mono (Nat.zero_le _)), fun g hg hp ho => (k.block g (Nat.lt_of_lt_of_le hg h.rest.size)).trans (h.block g hg hp ho)⟩
def RE (am cm rv lv : Value) (s : ES) (ea : Option Addr) (ec : Nat) : List Value := RL am cm rv lv (.slice ea s.1.length ec) (.int .i64 (s.2 : Int))
/-- The parser with the exprs of the rule at hand. -/
structure ExS (w : World) (B pb : Nat) (src : Bs) (a : Option Addr) (c : Nat) (l : List Wd) (am cm rv lv : Value) (s : ES) (ea : Option Addr) (ec : Nat) : Prop where
  ps : PSt w pb src a c l (RE am cm rv lv s ea ec)
  ow : w.ownsRow B 138 8 (.slice ea s.1.length ec) s.1.length (s.1.flatMap exC)
  lt : pb < B
  le : B ≤ w.heap.size
abbrev obE (s : ES) (ea : Option Addr) (ec : Nat) : Option Nat := (Value.slice ea s.1.length ec).ownBlock
theorem ExS.below {w w' : World} {B pb : Nat} {src : Bs} {a : Option Addr} {c : Nat} {l : List Wd} {am cm rv lv : Value} {s : ES} {ea : Option Addr} {ec : Nat} (h : ExS w B pb src a c l am cm rv lv s ea ec) (hb : Below w.heap.size w w') : ExS w' B pb src a c l am cm rv lv s ea ec := ⟨h.ps.below hb, own_bel h.ow hb, h.lt, Nat.le_trans h.le hb.size⟩
theorem ExS.mko {w w' : World} {B pb : Nat} {src : Bs} {a : Option Addr} {c : Nat} {l l' : List Wd} {am cm rv lv : Value} {s : ES} {ea : Option Addr} {ec : Nat} (h : ExS w B pb src a c l am cm rv lv s ea ec) (hm : MkO (some pb) w w') (hp : PSt w' pb src a c l' (RE am cm rv lv s ea ec)) : ExS w' B pb src a c l' am cm rv lv s ea ec := ⟨hp, own_mko h.ow hm h.lt, h.lt, Nat.le_trans h.le hm.rest.size⟩
theorem ExS.turned {w w' : World} {B pb g : Nat} {src : Bs} {a : Option Addr} {c : Nat} {l : List Wd} {am cm rv lv : Value} {s : ES} {ea : Option Addr} {ec : Nat} {cs : Array Value} {t : TypeId} (h : ExS w B pb src a c l am cm rv lv s ea ec) (ht : Turned w w' g) (hg : pb < g) (hb : w.heap[g]? = some (.cells cs t (0, 0))) (hne : g < w.heap.size → ∀ k, obE s ea ec = some k → k ≠ g) : ExS w' B pb src a c l am cm rv lv s ea ec :=
  ⟨h.ps.turned ht hg, owns_of_block h.ow fun k hk => ht.block k (hne (lt_of_block' hb) k hk), h.lt, by rw [ht.size]; exact h.le⟩
/-- What reading leaves that may add exprs. -/
def EPost {α : Type} (w : World) (B pb : Nat) (src : Bs) (a : Option Addr) (c : Nat) (am cm rv lv : Value) (ob : Option Nat) (Q : α → Ending → World → Prop) (r : Px (α × ES)) (e : Ending) (w' : World) : Prop := MkX pb ob w w' ∧ match r with
  | .error f => e = fltE f
  | .ok (p, l) => Q p.1 e w' ∧ ∃ ea ec, ExS w' B pb src a c l am cm rv lv p.2 ea ec ∧ RowX ob (obE p.2 ea ec) w.heap.size
theorem EPost.err {α : Type} {w w' : World} {B pb : Nat} {src : Bs} {a : Option Addr} {c : Nat} {am cm rv lv : Value} {ob : Option Nat} {Q : α → Ending → World → Prop} {r : Px (α × ES)} {f : Flt} (hr : r = .error f) (hm : MkX pb ob w w') : EPost w B pb src a c am cm rv lv ob Q r (fltE f) w' := by
  subst hr
  exact ⟨hm, rfl⟩
theorem EPost.good {α : Type} {w w' : World} {B pb : Nat} {src : Bs} {a : Option Addr} {c : Nat} {am cm rv lv : Value} {ob : Option Nat} {Q : α → Ending → World → Prop} {r : Px (α × ES)} {x : α} {s : ES} {l : List Wd} {e : Ending} {ea : Option Addr} {ec : Nat} (hr : r = .ok ((x, s), l)) (hm : MkX pb ob w w') (hq : Q x e w') (hs : ExS w' B pb src a c l am cm rv lv s ea ec) (ho : RowX ob (obE s ea ec) w.heap.size) : EPost w B pb src a c am cm rv lv ob Q r e w' := by
  subst hr
  exact ⟨hm, hq, ea, ec, hs, ho⟩
def Rint (i : Int) (e : Ending) (_ : World) : Prop := e = .returned (.int .i64 i)
def Rex (x : Ex) (e : Ending) (_ : World) : Prop := e = .returned (.agg (exC x).toArray)
/-- What an expr's reading tells, at every state. -/
def ExprC (f : Nat) : Prop := ∀ (w : World) (B pb : Nat) (src : Bs) (a : Option Addr) (c : Nat) (l : List Wd) (am cm rv lv : Value) (s : ES) (ea : Option Addr) (ec : Nat) (d : Int) (k : Nat), ExS w B pb src a c l am cm rv lv s ea ec → 0 ≤ d → d + (f : Int) = 20 → s.1.length + k ≤ s.2 → s.2 ≤ 60 → Calls Tryz.prog 104 #[.pointer (some ⟨pb, 0, none⟩), .int .i64 d] w (EPost w B pb src a c am cm rv lv (obE s ea ec) Rint (pExpr f s l))
theorem arith_head {x : Wd} (h : pkW x = 43) : ∃ b, ptW x = [b] := by
  unfold pkW at h
  split at h
  · omega
  · split at h
    · omega
    · split at h
      · omega
      · rename_i h0 h1 h2
        unfold ptW
        rw [if_neg h0, if_neg h1, if_neg h2]
        unfold pkind at h
        unfold ptext
        split at h
        · omega
        · split at h
          · omega
          · split at h
            · omega
            · split at h
              · omega
              · split at h
                · rename_i g1 g2 g3 g4 g5
                  rw [if_neg g1, if_neg g2, if_neg g3, if_neg g4, if_pos g5]
                  exact ar_one g5
                · split at h
                  · omega
                  · split at h <;> omega
set_option maxRecDepth 100000 in
set_option maxHeartbeats 3200000 in
theorem poper_of (f : Nat) (hE : ExprC f) (w : World) (B pb : Nat) (src : Bs) (a : Option Addr) (c : Nat) (l : List Wd) (am cm rv lv : Value) (s : ES) (ea : Option Addr) (ec : Nat) (d : Int) (k : Nat) (h : ExS w B pb src a c l am cm rv lv s ea ec) (hd0 : 0 ≤ d) (hd : d + 1 + (f : Int) = 20) (hk : s.1.length + k ≤ s.2) (h60 : s.2 ≤ 60) : Calls Tryz.prog 158 #[.pointer (some ⟨pb, 0, none⟩), .int .i64 d] w (EPost w B pb src a c am cm rv lv (obE s ea ec) Rex (pOp f s l)) := by
  have hwf2 := wfield2
  have HP := hidX h
  have hpb := h.ps.lt
  have hBl := h.le
  have hpB := h.lt
  have HE := hidX hE
  clear h hE
  go_enter Tryz.func158, Tryz.ntmps158
  go_upto_region 1 with fail
  refine lift_alloc ?_
  intro w1 hW1 hq1
  have P1 := hidX (HP.out.below hW1)
  have HTK := hidX (take_any w1 pb src a c l _ 43 P1.out.ps)
  have hrb : w.heap.size < w1.heap.size := lt_of_block' hq1
  have M1 := hidX (MkX.of (MkO.of_below hW1) : MkX pb (obE s ea ec) w w1)
  have HQ1 := hidX hq1
  have OB0 := hidX (fun k (hk : obE s ea ec = some k) => (HP.out.ow.lt k hk).2)
  clear hW1 hq1
  cases hr : takeW 43 l with
  | error e =>
    have HT : Hid (pOp f s l = .error e) := show _ = _ from by unfold pOp; rw [hr]; rfl
    rw [hr] at HTK
    go_wp2_with (first | (go_at_call 62; refine HTK.out.mono ?_; rintro e w2 ⟨hm2, rfl⟩; unfold fltE) | fail)
    exact ⟨rfl, EPost.err HT.out (M1.out.trans (MkX.of hm2) (.inl rfl))⟩
  | ok p =>
    obtain ⟨o, l1⟩ := p
    rw [hr] at HTK
    obtain ⟨b, hb⟩ := arith_head (takeW_ok hr).2
    have HOP : Hid (pOp f s l = andP (pExpr f s l1) fun p l2 => andP (pExpr f p.2 l2) fun q l3 => andP (takeW 41 l3) fun _ l4 => .ok ((⟨2, (b.toNat : Int), mkS [], zVr, p.1, q.1⟩, q.2), l4)) := show _ = _ from by unfold pOp; rw [hr, andP_okX, hb]; rfl
    have HBB := hidX hb
    have hb1 : (0 : Nat) < (mkS [b]).size := Nat.zero_lt_one
    have hb2 : ((mkS [b])[0]'hb1) = b := rfl
    clear hb hr
    go_upto_region 2 with (first | (go_at_call 62; refine HTK.out.mono ?_; rintro e w2 ⟨hm2, hw2, hp2⟩; replace hw2 : e = .returned (pwA o) := hw2; subst hw2; unfold pwA; rw [HBB.out]) | fail)
    refine lift_alloc ?_
    intro w3 hW3 hq3
    have s2 := hm2.rest.size
    have s3 : w2.heap.size < w3.heap.size := lt_of_block' hq3
    have P3 := hidX ((P1.out.mko hm2 hp2).below hW3)
    have M3 := hidX ((M1.out.trans (MkX.of hm2) (.inl rfl)).below hW3)
    have HQ3 := hidX (show w3.heap[w2.heap.size]? = some (.cells (exC ⟨2, (b.toNat : Int), mkS [], zVr, 0, 0⟩).toArray 138 (0, 0)) from hq3)
    have HRB3 := hidX ((hW3.block w.heap.size (by omega)).trans ((hm2.block w.heap.size hrb (fun e => by injection e; omega)).trans HQ1.out))
    have HE1 := hidX (HE.out w3 B pb src a c l1 am cm rv lv s ea ec (d + 1) k P3.out (by omega) hd hk h60)
    have hd2 : d + 1 ≤ 20 := by omega
    clear hW3 hq3 hm2 hp2 HTK HQ1 M1 P1 hb1 hb2
    cases h1 : pExpr f s l1 with
    | error e =>
      have HT : Hid (pOp f s l = .error e) := show _ = _ from by rw [HOP.out, h1]; rfl
      rw [h1] at HE1
      clear h1
      go_wp2_with (first | (go_at_call 104; refine HE1.out.mono ?_; rintro e w4 ⟨hm4, rfl⟩; unfold fltE) | fail)
      exact ⟨rfl, EPost.err HT.out (M3.out.trans hm4 (.inl rfl))⟩
    | ok p =>
      obtain ⟨⟨i, s1⟩, l2⟩ := p
      obtain ⟨hk1, h61⟩ := pExpr_inv f s l1 l2 k i s1 hk h60 h1
      rw [h1] at HE1
      have HOP1 : Hid (pOp f s l = andP (pExpr f s1 l2) fun q l3 => andP (takeW 41 l3) fun _ l4 => .ok ((⟨2, (b.toNat : Int), mkS [], zVr, i, q.1⟩, q.2), l4)) := show _ = _ from by rw [HOP.out, h1]; rfl
      clear h1 HOP
      go_upto_region 3 with (first | (go_at_call 104; refine HE1.out.mono ?_; rintro e w4 ⟨hm4, he4, ea1, ec1, hs4, hr4⟩; replace he4 : e = .returned (.int .i64 i) := he4; subst he4; have OB4 := (show ∀ k, obE s1 ea1 ec1 = some k → k ≠ w2.heap.size from fun k hk => by (rcases hr4 with e | e; (have := OB0.out k (e ▸ hk); omega); (have := e k hk; omega))); have s4 := hm4.rest.size; have hq4 := (hm4.block w2.heap.size s3 (by omega) (fun e => by have := OB0.out _ e; omega)).trans HQ3.out; have d6 := cell_of hq4 (j := 6) rfl; have f6 := froz_of hq4 6) | fail)
      have HRB4 := hidX ((hm4.block w.heap.size (by omega) (by omega) (fun e => by have := OB0.out _ e; omega)).trans HRB3.out)
      have M4 := hidX (M3.out.trans hm4 (.inl rfl))
      have HOR := hidX (show ∀ k, obE s1 ea1 ec1 = some k → k ≠ w.heap.size from fun k hk => by (rcases hr4 with e | e; (have := OB0.out k (e ▸ hk); omega); (have := e k hk; omega)))
      have R4 := hidX (show RowX (obE s ea ec) (obE s1 ea1 ec1) w.heap.size from hr4.imp id fun h g hg => by have := h g hg; omega)
      refine lift_setW hq4 ?_
      intro w5 hq5 ht5
      have HQ5 := hidX (show w5.heap[w2.heap.size]? = some (.cells (exC ⟨2, (b.toNat : Int), mkS [], zVr, i, 0⟩).toArray 138 (0, 0)) from hq5)
      have P5 := hidX (hs4.turned ht5 (by omega) hq4 (fun _ => OB4))
      have M5 := hidX (M4.out.turn ht5 (by omega))
      have s5 := ht5.size
      have s5' : w4.heap.size ≤ w5.heap.size := Nat.le_of_eq s5.symm
      have HRB5 := hidX ((ht5.block w.heap.size (by omega)).trans HRB4.out)
      have HOB := hidX OB4
      have HE2 := hidX (HE.out w5 B pb src a c l2 am cm rv lv s1 ea1 ec1 (d + 1) k P5.out (by omega) hd hk1 h61)
      clear hm4 hs4 hr4 hq4 hq5 ht5 s5 d6 f6 HE1 HQ3 HRB3 M3 P3 HRB4 M4 OB4
      cases h2 : pExpr f s1 l2 with
      | error e =>
        have HT : Hid (pOp f s l = .error e) := show _ = _ from by rw [HOP1.out, h2]; rfl
        rw [h2] at HE2
        clear h2
        go_wp2_with (first | (go_at_call 104; refine HE2.out.mono ?_; rintro e w6 ⟨hm6, rfl⟩; unfold fltE) | fail)
        exact ⟨rfl, EPost.err HT.out (M5.out.trans hm6 R4.out)⟩
      | ok p =>
        obtain ⟨⟨j, sq⟩, l3⟩ := p
        rw [h2] at HE2
        have HOP2 : Hid (pOp f s l = andP (takeW 41 l3) fun _ l4 => .ok ((⟨2, (b.toNat : Int), mkS [], zVr, i, j⟩, sq), l4)) := show _ = _ from by rw [HOP1.out, h2]; rfl
        clear h2 HOP1
        go_upto_region 4 with (first | (go_at_call 104; refine HE2.out.mono ?_; rintro e w6 ⟨hm6, he6, ea2, ec2, hs6, hr6⟩; replace he6 : e = .returned (.int .i64 j) := he6; subst he6; have OB6 := (show ∀ k, obE sq ea2 ec2 = some k → k ≠ w2.heap.size from fun k hk => by (rcases hr6 with e | e; (exact HOB.out k (e ▸ hk)); (have := e k hk; omega))); have s6 := hm6.rest.size; have hq6 := (hm6.block w2.heap.size (by omega) (by omega) (fun e => HOB.out _ e rfl)).trans HQ5.out; have d7 := cell_of hq6 (j := 7) rfl; have f7 := froz_of hq6 7) | fail)
        have HRB6 := hidX ((hm6.block w.heap.size (by omega) (by omega) (fun e => HOR.out _ e rfl)).trans HRB5.out)
        have HOR6 := hidX (show ∀ k, obE sq ea2 ec2 = some k → k ≠ w.heap.size from fun k hk => by (rcases hr6 with e | e; (exact HOR.out k (e ▸ hk)); (have := e k hk; omega)))
        have M6 := hidX (M5.out.trans hm6 R4.out)
        have R6 := hidX (R4.out.trans hr6 (by omega))
        refine lift_setW hq6 ?_
        intro w7 hq7 ht7
        have HQ7 := hidX (show w7.heap[w2.heap.size]? = some (.cells (exC ⟨2, (b.toNat : Int), mkS [], zVr, i, j⟩).toArray 138 (0, 0)) from hq7)
        have P7 := hidX (hs6.turned ht7 (by omega) hq6 (fun _ => OB6))
        have M7 := hidX (M6.out.turn ht7 (by omega))
        have s7 := ht7.size
        have s7' : w6.heap.size ≤ w7.heap.size := Nat.le_of_eq s7.symm
        have HRB7 := hidX ((ht7.block w.heap.size (by omega)).trans HRB6.out)
        have HTK := hidX (take_any w7 pb src a c l3 _ 41 P7.out.ps)
        clear hm6 hs6 hr6 hq6 hq7 ht7 s7 d7 f7 HE2 HQ5 HRB5 M5 P5 HRB6 M6 OB6
        cases h3 : takeW 41 l3 with
        | error e =>
          have HT : Hid (pOp f s l = .error e) := show _ = _ from by rw [HOP2.out, h3]; rfl
          rw [h3] at HTK
          clear h3
          go_wp2_with (first | (go_at_call 62; refine HTK.out.mono ?_; rintro e w8 ⟨hm8, rfl⟩; unfold fltE) | fail)
          exact ⟨rfl, EPost.err HT.out (M7.out.trans (MkX.of hm8) R6.out)⟩
        | ok p =>
          obtain ⟨y, l4⟩ := p
          have HT : Hid (pOp f s l = .ok ((⟨2, (b.toNat : Int), mkS [], zVr, i, j⟩, sq), l4)) := show _ = _ from by rw [HOP2.out, h3]; rfl
          rw [h3] at HTK
          clear h3
          go_upto_region 5 with (first | (go_at_call 62; refine HTK.out.mono ?_; rintro e w8 ⟨hm8, hw8, hp8⟩; replace hw8 : e = .returned (pwA y) := hw8; subst hw8; unfold pwA) | fail)
          have s8 := hm8.rest.size
          have hq8 := (hm8.block w2.heap.size (by omega) (fun e => by injection e; omega)).trans HQ7.out
          have hr8 := (hm8.block w.heap.size (by omega) (fun e => by injection e; omega)).trans HRB7.out
          have M8 := hidX (M7.out.trans (MkX.of hm8) R6.out)
          have P8 := hidX (P7.out.mko hm8 hp8)
          clear hm8 hp8 HTK
          go_wp2_with (first | (refine wpList_load_blk (by rfl) 138 (.tmp 5) (by rfl) w2.heap.size (exC ⟨2, (b.toNat : Int), mkS [], zVr, i, j⟩) (by rfl) 138 (0, 0) hq8 _ Tryz.underlying138 rfl infoExP ?_) | (refine wpList_store_blk (by rfl) 138 (.tmp 4) (.tmp 23) (by rfl) w.heap.size (exC ⟨2, (b.toNat : Int), mkS [], zVr, i, j⟩) (by rfl) (by rfl) _ 138 hr8 (by rfl) infoExP (exC_one _) ?_; intro w9 hb9 ht9) | fail)
          have hld := run_loadVar_mid (P := Tryz.prog) w9 w.heap.size 0 138 (exC ⟨2, (b.toNat : Int), mkS [], zVr, i, j⟩) _ (range_blk hb9.out) Tryz.underlying138 rfl infoExP
          (try go_frame)
          exact bodyPost_ret (v := .agg (exC ⟨2, (b.toNat : Int), mkS [], zVr, i, j⟩).toArray) (by simp [results, Tryz.results158, asAddr, hld]) rfl (EPost.good HT.out (M8.out.turn ht9.out (Nat.le_refl _)) rfl (P8.out.turned ht9.out (by omega) hr8 (fun _ => HOR6.out)) R6.out)
end Go.Proofs.YtgkoiojelckblaaGreatDoor

namespace Go.Proofs.YtgkoiojelckblaaGreatDoor
open Go.RowKit
attribute [local go_sem ↓] Go.wp_at_zero Go.wp_at_succ

/-- One of the parser's own cells written. -/
theorem PSt.cellSet {w w' : World} {pb j : Nat} {src : Bs} {a : Option Addr} {c : Nat} {l : List Wd} {R : List Value} {v : Value} (h : PSt w pb src a c l R) (hv : w' = w.setCell ⟨pb, j + 2, none⟩ v) : PSt w' pb src a c l (R.set j v) := by
  subst hv
  obtain ⟨k, hs⟩ := h.sc
  have hb : Below pb w (w.setCell ⟨pb, j + 2, none⟩ v) := (Turned.setCells [v] (j + 2) w pb).below (Nat.le_refl pb)
  obtain ⟨k', hk', e', hw'⟩ := hs.pos
  refine ⟨⟨k, ⟨?_, rfl, hs.cap, hs.len, hs.bys.keep hs.far hb, hs.far, k', hk', ?_, hw'⟩⟩, h.env.keep hb⟩
  · have := heap_setCell_same (i := j + 2) hs.blk v
    rw [this]
    simp
  · simpa using e'
theorem ExS.begun {w w' : World} {B pb : Nat} {src : Bs} {a : Option Addr} {c : Nat} {l : List Wd} {am cm rv lv : Value} {s : ES} {ea : Option Addr} {ec : Nat} (h : ExS w B pb src a c l am cm rv lv s ea ec) (n : Nat) (hv : w' = w.setCell ⟨pb, 7, none⟩ (.int .i64 (n : Int))) : ExS w' B pb src a c l am cm rv lv (s.1, n) ea ec := by
  refine ⟨h.ps.cellSet (j := 5) hv, ?_, h.lt, ?_⟩
  · subst hv
    refine owns_of_block h.ow fun k hk => Below.heap_setCell _ _ _ _ (fun e => ?_)
    have := (h.ow.lt k hk).1
    have := h.lt
    simp at e
    omega
  · subst hv
    have := h.le
    simp [World.setCell]
    exact this
theorem lift_eq {P : World → Prop} {w : World} (h : ∀ wt, wt = w → P wt) : P w := h _ rfl
/-- A read expr stands in its box. -/
structure ExB (w wx : World) (B pb eb : Nat) (src : Bs) (a : Option Addr) (c : Nat) (am cm rv lv : Value) (ob : Option Nat) (r : Px (Int × ES)) (x : Ex) (s : ES) (l : List Wd) (ea : Option Addr) (ec : Nat) : Prop where
  mo : MkX pb ob w wx
  st : ExS wx B pb src a c l am cm rv lv s ea ec
  rw' : RowX ob (obE s ea ec) w.heap.size
  bx : wx.heap[eb]? = some (.cells (exC x).toArray 138 (0, 0))
  ne : ∀ k, obE s ea ec = some k → k ≠ eb
  pe : r = .ok (((s.1.length : Int), (s.1 ++ [x], s.2)), l)
  le : s.1.length ≤ 60
set_option maxRecDepth 100000 in
set_option maxHeartbeats 6400000 in
theorem pexpr_of (f : Nat) (hO : ∀ f', f = f' + 1 → ExprC f') : ExprC f := by
  intro w B pb src a c l am cm rv lv s ea ec d k h hd0 hd hk h60
  have HP := hidX h
  have hpb := h.ps.lt
  have hBl := h.le
  have hpB := h.lt
  have HO := hidX hO
  have c7 := h.ps.cell (j := 5) rfl
  have OB0 := hidX (fun k (hk : obE s ea ec = some k) => (HP.out.ow.lt k hk).2)
  have HBN := hidX (bound_any w pb src a c l _ (s.2 : Int) 60 h.ps)
  have HD := hidX hd
  clear h hO
  go_enter Tryz.func104, Tryz.ntmps104
  cases hb : boundW (s.2 : Int) 60 l with
  | error e =>
    have HT := hidX (pExpr_bad (f := f) hb)
    rw [hb] at HBN
    clear hb
    go_wp2_with (first | (go_at_call 103; refine HBN.out.mono ?_; rintro e w2 ⟨hm2, rfl⟩; unfold fltE) | fail)
    exact ⟨rfl, EPost.err HT.out (MkX.of hm2)⟩
  | ok u =>
    have hu := bound_same hb
    subst hu
    have HB := hidX hb
    rw [hb] at HBN
    clear hb
    go_upto_region 2 with (first | (go_at_call 103; refine HBN.out.mono ?_; rintro e w2 ⟨hm2, he2, hp2⟩; replace he2 : e = .returned (.tuple #[]) := he2; subst he2) | fail)
    have P2 := hidX (HP.out.mko hm2 hp2)
    have M2 := hidX (MkX.of hm2 : MkX pb (obE s ea ec) w w2)
    have s2 := hm2.rest.size
    have d7 := P2.out.ps.cell (j := 5) rfl
    obtain ⟨cs2, hq2⟩ : ∃ cs, w2.heap[pb]? = some (.cells cs 70 (0, 0)) := by
      obtain ⟨k', hs'⟩ := P2.out.ps.sc
      exact ⟨_, hs'.blk⟩
    have f7 := froz_of hq2 7
    clear hm2 hp2 HBN c7
    go_upto_region 3 with fail
    refine lift_eq ?_
    intro w3 hw3
    replace hw3 : w3 = w2.setCell ⟨pb, 7, none⟩ (.int .i64 ((s.2 + 1 : Nat) : Int)) := hw3.trans (by rw [show ((s.2 + 1 : Nat) : Int) = (s.2 : Int) + 1 by omega])
    have P3 := hidX (P2.out.begun (s.2 + 1) hw3)
    have m3 : MkO (some pb) w2 w3 := by rw [hw3]; exact MkO.set _
    have M3 := hidX (M2.out.trans (MkX.of m3) (.inl rfl))
    have s3 := m3.rest.size
    clear hw3 m3 d7 f7 hq2 P2 M2
    go_upto_region 4 with fail
    refine lift_alloc ?_
    intro w4 hW4 hq4
    have s4 : w3.heap.size < w4.heap.size := lt_of_block' hq4
    have P4 := hidX (P3.out.below hW4)
    have M4 := hidX (M3.out.below hW4)
    have HQ4 := hidX hq4
    have HPN := hidX (pnext_any w4 pb src a c l _ P4.out.ps)
    clear hW4 hq4 P3 M3
    cases hn : nextW l with
    | error e =>
      have HT := hidX (pExpr_next (f := f) HB.out hn)
      rw [hn] at HPN
      clear hn
      go_wp2_with (first | (go_at_call 105; refine HPN.out.mono ?_; rintro e w5 ⟨hm5, rfl⟩; unfold fltE) | fail)
      exact ⟨rfl, EPost.err HT.out (M4.out.trans (MkX.of hm5) (.inl rfl))⟩
    | ok p =>
      obtain ⟨x, l1⟩ := p
      rw [hn] at HPN
      have HN := hidX hn
      clear hn
      go_upto_region 5 with (first | (go_at_call 105; refine HPN.out.mono ?_; rintro e w5 ⟨hm5, hw5, hp5⟩; replace hw5 : e = .returned (pwA x) := hw5; subst hw5; unfold pwA) | fail)
      refine lift_alloc ?_
      intro w6 hW6 hq6
      obtain ⟨L, X, HLX, hLl, hq6, y0⟩ := wd_box hq6
      have s5 := hm5.rest.size
      have s6 : w5.heap.size < w6.heap.size := lt_of_block' hq6
      have P6 := hidX ((P4.out.mko hm5 hp5).below hW6)
      have M6 := hidX ((M4.out.trans (MkX.of hm5) (.inl rfl)).below hW6)
      have hqe := (hW6.block w3.heap.size (by omega)).trans ((hm5.block w3.heap.size s4 (fun e => by injection e; omega)).trans HQ4.out)
      have y2 := (wd_text HLX hq6).1
      have HXK := hidX HLX.out.1
      clear hW6 hm5 hp5 HPN HQ4 P4 M4
      go_upto_block 0 with fail
      go_cut [] (fun wx => ∃ x' s' l' ea' ec', ExB w wx B pb w3.heap.size src a c am cm rv lv (obE s ea ec) (pExpr f s l) x' s' l' ea' ec')
      case first =>
        by_cases hk2 : X = 48 ∨ X = 97
        · have HT := hidX (pExpr_const (f := f) HB.out HN.out (by rw [← HXK.out]; exact hk2))
          have hlt : s.2 < 60 := bound_lt HB.out HN.out (by rw [← HXK.out]; omega) (by rw [← HXK.out]; omega)
          obtain ⟨v, hv⟩ : ∃ v, v = wVal (pkW x) x.num (ptW x) := ⟨_, rfl⟩
          have HVL := hidX (value_L HLX)
          rw [← hv] at HT HVL
          have hor : (X == 48) = true ∨ ((X == 48) = false ∧ (X == 97) = true) := by
            rcases hk2 with h | h
            · exact .inl (by simp [h])
            · exact .inr ⟨by simp [h], by simp [h]⟩
          clear hk2 hv
          rcases hor with e1 | ⟨e1, e2⟩
          all_goals
            go_wp2_with (first | (refine wpList_load_blk (by rfl) 146 (.tmp 6) (by rfl) w5.heap.size L (by rfl) 146 (0, 0) hq6 _ Tryz.underlying146 rfl hLl.1 ?_) | (go_at_call 106; refine (HVL.out _).mono ?_; intro e w7 hv7; obtain ⟨he7, hb7⟩ := hv7; replace he7 : e = .returned (.agg #[.int .i64 v.kind, .int .i64 v.num, .string v.sym]) := he7; subst he7; have hq7 := (hb7.block w3.heap.size (by omega)).trans hqe) | (refine wpList_store_blk (by rfl) 138 (.tmp 5) (.tmp 34) (by rfl) w3.heap.size (exC ⟨0, 0, mkS [], v, 0, 0⟩) (by rfl) (by rfl) _ 138 hq7 (by rfl) infoExP (exC_one _) ?_; intro w8 hb8 ht8) | fail)
            go_meet
            exact ⟨⟨0, 0, mkS [], v, 0, 0⟩, (s.1, s.2 + 1), l1, ea, ec, (M6.out.below hb7).turn ht8.out (by omega), (P6.out.below hb7).turned ht8.out (by omega) hq7 (fun _ k hk => by have := OB0.out k hk; omega), .inl rfl, hb8.out, fun k hk => by (have := OB0.out k hk; omega), HT.out, by (show s.1.length ≤ 60); omega⟩
        have e1 : (X == 48) = false := by simp; omega
        have e2 : (X == 97) = false := by simp; omega
        by_cases h63 : X = 63
        · have HT := hidX (pExpr_var (f := f) HB.out HN.out (by rw [← HXK.out]; exact h63))
          have hlt : s.2 < 60 := bound_lt HB.out HN.out (by rw [← HXK.out]; omega) (by rw [← HXK.out]; omega)
          have e3 : (X == 63) = true := by simp [h63]
          clear hk2 h63
          go_wp2_with (first | (refine wpList_store_blk (by rfl) 138 (.tmp 5) (.tmp 39) (by rfl) w3.heap.size (exC ⟨1, 0, mkS (ptW x), zVr, 0, 0⟩) (by rfl) (by rfl) _ 138 hqe (by rfl) infoExP (exC_one _) ?_; intro w8 hb8 ht8) | fail)
          go_meet
          exact ⟨⟨1, 0, mkS (ptW x), zVr, 0, 0⟩, (s.1, s.2 + 1), l1, ea, ec, M6.out.turn ht8.out (by omega), P6.out.turned ht8.out (by omega) hqe (fun _ k hk => by have := OB0.out k hk; omega), .inl rfl, hb8.out, fun k hk => by (have := OB0.out k hk; omega), HT.out, by (show s.1.length ≤ 60); omega⟩
        have e3 : (X == 63) = false := by simp [h63]
        by_cases h40 : X = 40
        · have hlt : s.2 < 60 := bound_lt HB.out HN.out (by rw [← HXK.out]; omega) (by rw [← HXK.out]; omega)
          have e4 : (X == 40) = true := by simp [h40]
          cases f with
          | zero =>
            have HT := hidX (pExpr_deep HB.out HN.out (by rw [← HXK.out]; exact h40))
            have hd20 : (20 : Int) ≤ d := by omega
            clear hk2 h63 h40
            go_wp2_with (first | (refine wpList_load_blk (by rfl) 146 (.tmp 6) (by rfl) w5.heap.size L (by rfl) 146 (0, 0) hq6 _ Tryz.underlying146 rfl hLl.1 ?_) | (go_at_call 70; refine (fault_L HLX 4 _).mono ?_; rintro e w7 ⟨rfl, hb7⟩) | fail)
            exact ⟨rfl, EPost.err HT.out (M6.out.below hb7)⟩
          | succ f' =>
            have HT := hidX (pExpr_op (f := f') HB.out HN.out (by rw [← HXK.out]; exact h40))
            have hd20 : d < 20 := by omega
            have HOP := hidX (poper_of f' (HO.out f' rfl) w6 B pb src a c l1 am cm rv lv (s.1, s.2 + 1) ea ec d (k + 1) P6.out hd0 (by omega) (by (show s.1.length + (k + 1) ≤ s.2 + 1); omega) (by (show s.2 + 1 ≤ 60); omega))
            clear hk2 h63 h40
            cases ho : pOp f' (s.1, s.2 + 1) l1 with
            | error e =>
              have HTE : Hid (pExpr (f' + 1) s l = .error e) := show _ = _ from by rw [HT.out, ho]; rfl
              rw [ho] at HOP
              clear ho
              go_wp2_with (first | (go_at_call 158; refine HOP.out.mono ?_; rintro e w7 ⟨hm7, rfl⟩; unfold fltE) | fail)
              exact ⟨rfl, EPost.err HTE.out (M6.out.trans hm7 (.inl rfl))⟩
            | ok q =>
              obtain ⟨⟨ex, sq⟩, l5⟩ := q
              have HTE : Hid (pExpr (f' + 1) s l = .ok (((sq.1.length : Int), (sq.1 ++ [ex], sq.2)), l5)) := show _ = _ from by rw [HT.out, ho]; rfl
              have hinv := pExpr_inv (f' + 1) s l l5 k _ _ hk h60 HTE.out
              have hle : sq.1.length ≤ 60 := by simp at hinv; omega
              rw [ho] at HOP
              clear ho hinv
              go_wp2_with (first | (go_at_call 158; refine HOP.out.mono ?_; rintro e w7 ⟨hm7, he7, ea1, ec1, hs7, hr7⟩; replace he7 : e = .returned (.agg (exC ex).toArray) := he7; subst he7; have hq7 := (hm7.block w3.heap.size (by omega) (by omega) (fun e => by have := OB0.out _ e; omega)).trans hqe) | (refine wpList_store_blk (by rfl) 138 (.tmp 5) (.tmp 49) (by rfl) w3.heap.size (exC ex) (by rfl) (by rfl) _ 138 hq7 (by rfl) infoExP (exC_one _) ?_; intro w8 hb8 ht8) | fail)
              have OB7 : ∀ k, obE sq ea1 ec1 = some k → k ≠ w3.heap.size := fun k hk => by
                rcases hr7 with e | e
                · have := OB0.out k (e ▸ hk)
                  omega
                · have := e k hk
                  omega
              go_meet
              exact ⟨ex, sq, l5, ea1, ec1, (M6.out.trans hm7 (.inl rfl)).turn ht8.out (by omega), hs7.turned ht8.out (by omega) hq7 (fun _ => OB7), hr7.imp id fun h g hg => by (have := h g hg; omega), hb8.out, OB7, HTE.out, hle⟩
        · have HT := hidX (pExpr_else (f := f) HB.out HN.out (by rw [← HXK.out]; exact hk2) (by rw [← HXK.out]; exact h63) (by rw [← HXK.out]; exact h40))
          have e4 : (X == 40) = false := by simp [h40]
          clear hk2 h63 h40
          go_wp2_with (first | (refine wpList_load_blk (by rfl) 146 (.tmp 6) (by rfl) w5.heap.size L (by rfl) 146 (0, 0) hq6 _ Tryz.underlying146 rfl hLl.1 ?_) | (go_at_call 70; refine (fault_L HLX 3 _).mono ?_; rintro e w7 ⟨rfl, hb7⟩) | fail)
          exact ⟨rfl, EPost.err HT.out (M6.out.below hb7)⟩
      case rest =>
        obtain ⟨xe, s', l', ea', ec', hxb⟩ := hcut
        obtain ⟨w7, rfl⟩ : ∃ v, v = wc := ⟨wc, rfl⟩
        clear P6 M6 hqe y2 y0 hq6 HXK HLX hLl HN HB
        have XB := hidX hxb
        have hle := hxb.le
        have d6 := hxb.st.ps.cell (j := 4) rfl
        have g0 := cell_of hxb.bx (j := 0) rfl
        have g1 := cell_of hxb.bx (j := 1) rfl
        have g2 := cell_of hxb.bx (j := 2) rfl
        have g3 := cell_of hxb.bx (j := 3) rfl
        have g4 := cell_of hxb.bx (j := 4) rfl
        have g5 := cell_of hxb.bx (j := 5) rfl
        have g6 := cell_of hxb.bx (j := 6) rfl
        have g7 := cell_of hxb.bx (j := 7) rfl
        have hel : w3.heap.size < w7.heap.size := lt_of_block' hxb.bx
        have hws7 := hxb.mo.rest.size
        clear hxb
        go_upto_region 16 with fail
        refine wp_region_noPanic ?_
        refine wp_region_held_drew (S := (fun _ => True)) (by kernel_rfl) ?_ (fun hHeld => ?_)
        · (try dsimp only)
          all_goals trivial
        refine tk 0 hHeld ?_
        (try simp only [pA, pZ, pS])
        refine tk 1 hHeld ?_
        (try simp only [pA, pZ, pS])
        refine tk 2 hHeld ?_
        (try simp only [pA, pZ, pS])
        refine tk 3 hHeld ?_
        (try simp only [pA, pZ, pS])
        refine wpAnyH_ready (rs := [4, 5]) (by kernel_rfl) (by simp) ?_
        refine AllReadyH.cons (o := ?o1) ?ho1 (fun K hK => ?step1) (AllReadyH.cons (o := ?o2) ?ho2 (fun K hK => ?step2) AllReadyH.nil)
        case ho1 => (simp only [List.getElem?_toArray, List.getElem?_cons_succ, List.getElem?_cons_zero]; rfl)
        case ho2 => (simp only [List.getElem?_toArray, List.getElem?_cons_succ, List.getElem?_cons_zero]; rfl)
        case step1 =>
          go_simp
          refine hK.out _ _ ?hS3 (fun hHeld' => ?rest3)
          case hS3 => ((try dsimp only); all_goals trivial)
          clear hK K
          (try simp only [pA, pZ, pS])
          clear hHeld
          have hHeld := hHeld'
          clear hHeld'
          refine wpAnyH_ready (rs := [5]) (by kernel_rfl) (by simp) ?_
          refine AllReadyH.cons (o := ?o4) ?ho4 (fun K hK => ?step4) AllReadyH.nil
          case ho4 => (simp only [List.getElem?_toArray, List.getElem?_cons_succ, List.getElem?_cons_zero]; rfl)
          go_simp
          refine hK.out _ _ ?hS5 (fun hHeld' => ?rest5)
          case hS5 => ((try dsimp only); all_goals trivial)
          clear hK K
          (try simp only [pA, pZ, pS])
          clear hHeld
          have hHeld := hHeld'
          clear hHeld'
          refine wpAnyH_ready (rs := [6]) (by kernel_rfl) (by simp) ?_
          refine AllReadyH.cons (o := ?o6) ?ho6 (fun K hK => ?step6) AllReadyH.nil
          case ho6 => (simp only [List.getElem?_toArray, List.getElem?_cons_succ, List.getElem?_cons_zero]; rfl)
          go_simp
          have HA7 := hidX (fun o' => (Below.refl _ _).alloc (Nat.le_refl _) o' : ∀ o', Below w7.drew.heap.size w7.drew (w7.drew.alloc o')); have d6a : ∀ o', (w7.drew.alloc o').cell? ⟨pb, 6, none⟩ = some (.slice ea' s'.1.length ec') := fun o' => cell_below (HA7.out o') d6; have d6b : ∀ o', (w7.alloc o').drew.cell? ⟨pb, 6, none⟩ = some (.slice ea' s'.1.length ec') := d6a; have d6c : ∀ o', (w7.alloc o').cell? ⟨pb, 6, none⟩ = some (.slice ea' s'.1.length ec') := d6a
          refine hK.out _ _ ?hS7 (fun hHeld' => ?rest7)
          case hS7 => ((try dsimp only); all_goals trivial)
          clear hK K
          (try simp only [pA, pZ, pS])
          clear hHeld
          have hHeld := hHeld'
          clear hHeld'
          have OW7 := hidX (own_bel XB.out.st.ow ((Below.refl _ _).drew))
          refine wpAnyH_ready (rs := [7]) (by kernel_rfl) (by simp) ?_
          refine AllReadyH.cons (o := ?o8) ?ho8 (fun K hK => ?step8) AllReadyH.nil
          case ho8 => (simp only [List.getElem?_toArray, List.getElem?_cons_succ, List.getElem?_cons_zero]; rfl)
          (refine step_append_any (by rfl) (.tmp 54) (.tmp 56) 38 (by rfl) B 138 _ 8 80 Tryz.underlying38 infoEF1 (by rfl) (by omega) _ s'.1.length _ (by rfl) (own_bel OW7.out (HA7.out _)) (some ⟨_, 0, none⟩) 1 1 (by rfl) (exC xe) (by rfl) (fun e => by cases e) (news_new _ _ _ _ (by simp)) (exC_one xe) (by unfold maxLen; omega) (by omega) (by simp; omega) ?_; intro a8 c8 w8 ho8 hg8 hl8)
          refine hK.out _ _ ?hS9 (fun hHeld' => ?rest9)
          case hS9 => ((try dsimp only); all_goals trivial)
          clear hK K
          (try simp only [pA, pZ, pS])
          clear hHeld
          have hHeld := hHeld'
          clear hHeld'
          have hrow : ∀ k, obE s' ea' ec' = some k → B ≤ k := fun k hk => (OW7.out.lt k hk).1
          have HBA := hidX (fun o' => (XB.out.st.ps.below ((Below.refl _ _).drew)).below (HA7.out o'))
          have P8 := hidX ((HBA.out _).keep ((Below.refl _ _).grown hg8.out (by simp; omega) (fun k hk => by have := hrow k hk; omega)))
          have f6 := P8.out.cell (j := 4) rfl
          obtain ⟨cs8, hq8⟩ : ∃ cs, w8.heap[pb]? = some (.cells cs 70 (0, 0)) := by
            obtain ⟨k', hs'⟩ := P8.out.sc
            exact ⟨_, hs'.blk⟩
          have z6 := froz_of hq8 6
          refine tk 8 hHeld ?_
          (try simp only [pA, pZ, pS])
          refine tk 9 hHeld ?_
          (try simp only [pA, pZ, pS])
          refine wpAnyH_ready (rs := [10]) (by kernel_rfl) (by simp) ?_
          refine AllReadyH.cons (o := ?o10) ?ho10 (fun K hK => ?step10) AllReadyH.nil
          case ho10 => (simp only [List.getElem?_toArray, List.getElem?_cons_succ, List.getElem?_cons_zero]; rfl)
          go_simp
          refine hK.out _ _ ?hS11 (fun hHeld' => ?rest11)
          case hS11 => ((try dsimp only); all_goals trivial)
          clear hK K
          (try dsimp only)
          clear hHeld
          have hHeld := hHeld'
          clear hHeld'
          refine wpAnyH_done (by kernel_rfl) ?_ _
          refine NoPanic.normal ?_
          clear hHeld
          refine lift_eq ?_
          intro w9 hw9
          have P9 := hidX (P8.out.cellSet (j := 4) hw9)
          have m9 : MkO (some pb) w8 w9 := by rw [hw9]; exact MkO.set _
          have hg9 : MkX pb (obE s' ea' ec') w7 w8 := ⟨((Below.refl 0 w7).drew.trans ((HA7.out _).mono (Nat.zero_le _))).grown hg8.out (Nat.zero_le _) (fun _ _ => Nat.zero_le _), fun g hg _ ho => (hg8.out.block g (by simp; omega) (fun e => ho e.symm)).trans ((HA7.out _).block g hg)⟩
          have rx : RowX (obE s' ea' ec') (Value.slice a8 (s'.1.length + 1) c8).ownBlock w7.heap.size := hl8.out.imp id fun h g hg => by
            rw [h] at hg
            injection hg with hg
            simp at hg
            omega
          have M9 := hidX ((XB.out.mo.trans hg9 XB.out.rw').trans (MkX.of m9 : MkX pb (Value.slice a8 (s'.1.length + 1) c8).ownBlock w8 w9) (XB.out.rw'.trans rx hws7))
          have hs8 := hg8.out.size
          simp at hs8
          have s9 := m9.rest.size
          have S9 := hidX (show ExS w9 B pb src a c l' am cm rv lv (s'.1 ++ [xe], s'.2) a8 c8 from ⟨by simpa [RE, RL] using P9.out, by simpa using own_mko ho8.out m9 hpB, hpB, by omega⟩)
          have c9 := S9.out.ps.cell (j := 4) rfl
          have R9 := hidX (show RowX (obE s ea ec) (obE (s'.1 ++ [xe], s'.2) a8 c8) w.heap.size from by simpa [obE] using XB.out.rw'.trans rx hws7)
          clear hw9 m9 hg9 rx f6 z6 hq8 P8 P9 HBA hrow d6 g0 g1 g2 g3 g4 g5 g6 g7
          simp only [List.length_append, List.length_singleton] at c9
          go_wp2_with fail
          go_ret
          exact EPost.good XB.out.pe M9.out (by simp [Rint]) S9.out R9.out
        case step2 =>
          go_simp
          refine hK.out _ _ ?hS12 (fun hHeld' => ?rest12)
          case hS12 => ((try dsimp only); all_goals trivial)
          clear hK K
          (try simp only [pA, pZ, pS])
          clear hHeld
          have hHeld := hHeld'
          clear hHeld'
          refine wpAnyH_ready (rs := [4, 6]) (by kernel_rfl) (by simp) ?_
          refine AllReadyH.cons (o := ?o13) ?ho13 (fun K hK => ?step13) (AllReadyH.cons (o := ?o14) ?ho14 (fun K hK => ?step14) AllReadyH.nil)
          case ho13 => (simp only [List.getElem?_toArray, List.getElem?_cons_succ, List.getElem?_cons_zero]; rfl)
          case ho14 => (simp only [List.getElem?_toArray, List.getElem?_cons_succ, List.getElem?_cons_zero]; rfl)
          case step13 =>
            go_simp
            refine hK.out _ _ ?hS15 (fun hHeld' => ?rest15)
            case hS15 => ((try dsimp only); all_goals trivial)
            clear hK K
            (try simp only [pA, pZ, pS])
            clear hHeld
            have hHeld := hHeld'
            clear hHeld'
            refine wpAnyH_ready (rs := [6]) (by kernel_rfl) (by simp) ?_
            refine AllReadyH.cons (o := ?o16) ?ho16 (fun K hK => ?step16) AllReadyH.nil
            case ho16 => (simp only [List.getElem?_toArray, List.getElem?_cons_succ, List.getElem?_cons_zero]; rfl)
            go_simp
            have HA7 := hidX (fun o' => (Below.refl _ _).alloc (Nat.le_refl _) o' : ∀ o', Below w7.drew.heap.size w7.drew (w7.drew.alloc o')); have d6a : ∀ o', (w7.drew.alloc o').cell? ⟨pb, 6, none⟩ = some (.slice ea' s'.1.length ec') := fun o' => cell_below (HA7.out o') d6; have d6b : ∀ o', (w7.alloc o').drew.cell? ⟨pb, 6, none⟩ = some (.slice ea' s'.1.length ec') := d6a; have d6c : ∀ o', (w7.alloc o').cell? ⟨pb, 6, none⟩ = some (.slice ea' s'.1.length ec') := d6a
            refine hK.out _ _ ?hS17 (fun hHeld' => ?rest17)
            case hS17 => ((try dsimp only); all_goals trivial)
            clear hK K
            (try simp only [pA, pZ, pS])
            clear hHeld
            have hHeld := hHeld'
            clear hHeld'
            have OW7 := hidX (own_bel XB.out.st.ow ((Below.refl _ _).drew))
            refine wpAnyH_ready (rs := [7]) (by kernel_rfl) (by simp) ?_
            refine AllReadyH.cons (o := ?o18) ?ho18 (fun K hK => ?step18) AllReadyH.nil
            case ho18 => (simp only [List.getElem?_toArray, List.getElem?_cons_succ, List.getElem?_cons_zero]; rfl)
            (refine step_append_any (by rfl) (.tmp 54) (.tmp 56) 38 (by rfl) B 138 _ 8 80 Tryz.underlying38 infoEF1 (by rfl) (by omega) _ s'.1.length _ (by rfl) (own_bel OW7.out (HA7.out _)) (some ⟨_, 0, none⟩) 1 1 (by rfl) (exC xe) (by rfl) (fun e => by cases e) (news_new _ _ _ _ (by simp)) (exC_one xe) (by unfold maxLen; omega) (by omega) (by simp; omega) ?_; intro a8 c8 w8 ho8 hg8 hl8)
            refine hK.out _ _ ?hS19 (fun hHeld' => ?rest19)
            case hS19 => ((try dsimp only); all_goals trivial)
            clear hK K
            (try simp only [pA, pZ, pS])
            clear hHeld
            have hHeld := hHeld'
            clear hHeld'
            have hrow : ∀ k, obE s' ea' ec' = some k → B ≤ k := fun k hk => (OW7.out.lt k hk).1
            have HBA := hidX (fun o' => (XB.out.st.ps.below ((Below.refl _ _).drew)).below (HA7.out o'))
            have P8 := hidX ((HBA.out _).keep ((Below.refl _ _).grown hg8.out (by simp; omega) (fun k hk => by have := hrow k hk; omega)))
            have f6 := P8.out.cell (j := 4) rfl
            obtain ⟨cs8, hq8⟩ : ∃ cs, w8.heap[pb]? = some (.cells cs 70 (0, 0)) := by
              obtain ⟨k', hs'⟩ := P8.out.sc
              exact ⟨_, hs'.blk⟩
            have z6 := froz_of hq8 6
            refine tk 8 hHeld ?_
            (try simp only [pA, pZ, pS])
            refine tk 9 hHeld ?_
            (try simp only [pA, pZ, pS])
            refine wpAnyH_ready (rs := [10]) (by kernel_rfl) (by simp) ?_
            refine AllReadyH.cons (o := ?o20) ?ho20 (fun K hK => ?step20) AllReadyH.nil
            case ho20 => (simp only [List.getElem?_toArray, List.getElem?_cons_succ, List.getElem?_cons_zero]; rfl)
            go_simp
            refine hK.out _ _ ?hS21 (fun hHeld' => ?rest21)
            case hS21 => ((try dsimp only); all_goals trivial)
            clear hK K
            (try dsimp only)
            clear hHeld
            have hHeld := hHeld'
            clear hHeld'
            refine wpAnyH_done (by kernel_rfl) ?_ _
            refine NoPanic.normal ?_
            clear hHeld
            refine lift_eq ?_
            intro w9 hw9
            have P9 := hidX (P8.out.cellSet (j := 4) hw9)
            have m9 : MkO (some pb) w8 w9 := by rw [hw9]; exact MkO.set _
            have hg9 : MkX pb (obE s' ea' ec') w7 w8 := ⟨((Below.refl 0 w7).drew.trans ((HA7.out _).mono (Nat.zero_le _))).grown hg8.out (Nat.zero_le _) (fun _ _ => Nat.zero_le _), fun g hg _ ho => (hg8.out.block g (by simp; omega) (fun e => ho e.symm)).trans ((HA7.out _).block g hg)⟩
            have rx : RowX (obE s' ea' ec') (Value.slice a8 (s'.1.length + 1) c8).ownBlock w7.heap.size := hl8.out.imp id fun h g hg => by
              rw [h] at hg
              injection hg with hg
              simp at hg
              omega
            have M9 := hidX ((XB.out.mo.trans hg9 XB.out.rw').trans (MkX.of m9 : MkX pb (Value.slice a8 (s'.1.length + 1) c8).ownBlock w8 w9) (XB.out.rw'.trans rx hws7))
            have hs8 := hg8.out.size
            simp at hs8
            have s9 := m9.rest.size
            have S9 := hidX (show ExS w9 B pb src a c l' am cm rv lv (s'.1 ++ [xe], s'.2) a8 c8 from ⟨by simpa [RE, RL] using P9.out, by simpa using own_mko ho8.out m9 hpB, hpB, by omega⟩)
            have c9 := S9.out.ps.cell (j := 4) rfl
            have R9 := hidX (show RowX (obE s ea ec) (obE (s'.1 ++ [xe], s'.2) a8 c8) w.heap.size from by simpa [obE] using XB.out.rw'.trans rx hws7)
            clear hw9 m9 hg9 rx f6 z6 hq8 P8 P9 HBA hrow d6 g0 g1 g2 g3 g4 g5 g6 g7
            simp only [List.length_append, List.length_singleton] at c9
            go_wp2_with fail
            go_ret
            exact EPost.good XB.out.pe M9.out (by simp [Rint]) S9.out R9.out
          case step14 =>
            go_simp
            have HA7 := hidX (fun o' => (Below.refl _ _).alloc (Nat.le_refl _) o' : ∀ o', Below w7.drew.heap.size w7.drew (w7.drew.alloc o')); have d6a : ∀ o', (w7.drew.alloc o').cell? ⟨pb, 6, none⟩ = some (.slice ea' s'.1.length ec') := fun o' => cell_below (HA7.out o') d6; have d6b : ∀ o', (w7.alloc o').drew.cell? ⟨pb, 6, none⟩ = some (.slice ea' s'.1.length ec') := d6a; have d6c : ∀ o', (w7.alloc o').cell? ⟨pb, 6, none⟩ = some (.slice ea' s'.1.length ec') := d6a
            refine hK.out _ _ ?hS22 (fun hHeld' => ?rest22)
            case hS22 => ((try dsimp only); all_goals trivial)
            clear hK K
            (try simp only [pA, pZ, pS])
            clear hHeld
            have hHeld := hHeld'
            clear hHeld'
            refine wpAnyH_ready (rs := [4]) (by kernel_rfl) (by simp) ?_
            refine AllReadyH.cons (o := ?o23) ?ho23 (fun K hK => ?step23) AllReadyH.nil
            case ho23 => (simp only [List.getElem?_toArray, List.getElem?_cons_succ, List.getElem?_cons_zero]; rfl)
            go_simp
            refine hK.out _ _ ?hS24 (fun hHeld' => ?rest24)
            case hS24 => ((try dsimp only); all_goals trivial)
            clear hK K
            (try simp only [pA, pZ, pS])
            clear hHeld
            have hHeld := hHeld'
            clear hHeld'
            have OW7 := hidX (own_bel XB.out.st.ow ((Below.refl _ _).drew))
            refine wpAnyH_ready (rs := [7]) (by kernel_rfl) (by simp) ?_
            refine AllReadyH.cons (o := ?o25) ?ho25 (fun K hK => ?step25) AllReadyH.nil
            case ho25 => (simp only [List.getElem?_toArray, List.getElem?_cons_succ, List.getElem?_cons_zero]; rfl)
            (refine step_append_any (by rfl) (.tmp 54) (.tmp 56) 38 (by rfl) B 138 _ 8 80 Tryz.underlying38 infoEF1 (by rfl) (by omega) _ s'.1.length _ (by rfl) (own_bel OW7.out (HA7.out _)) (some ⟨_, 0, none⟩) 1 1 (by rfl) (exC xe) (by rfl) (fun e => by cases e) (news_new _ _ _ _ (by simp)) (exC_one xe) (by unfold maxLen; omega) (by omega) (by simp; omega) ?_; intro a8 c8 w8 ho8 hg8 hl8)
            refine hK.out _ _ ?hS26 (fun hHeld' => ?rest26)
            case hS26 => ((try dsimp only); all_goals trivial)
            clear hK K
            (try simp only [pA, pZ, pS])
            clear hHeld
            have hHeld := hHeld'
            clear hHeld'
            have hrow : ∀ k, obE s' ea' ec' = some k → B ≤ k := fun k hk => (OW7.out.lt k hk).1
            have HBA := hidX (fun o' => (XB.out.st.ps.below ((Below.refl _ _).drew)).below (HA7.out o'))
            have P8 := hidX ((HBA.out _).keep ((Below.refl _ _).grown hg8.out (by simp; omega) (fun k hk => by have := hrow k hk; omega)))
            have f6 := P8.out.cell (j := 4) rfl
            obtain ⟨cs8, hq8⟩ : ∃ cs, w8.heap[pb]? = some (.cells cs 70 (0, 0)) := by
              obtain ⟨k', hs'⟩ := P8.out.sc
              exact ⟨_, hs'.blk⟩
            have z6 := froz_of hq8 6
            refine tk 8 hHeld ?_
            (try simp only [pA, pZ, pS])
            refine tk 9 hHeld ?_
            (try simp only [pA, pZ, pS])
            refine wpAnyH_ready (rs := [10]) (by kernel_rfl) (by simp) ?_
            refine AllReadyH.cons (o := ?o27) ?ho27 (fun K hK => ?step27) AllReadyH.nil
            case ho27 => (simp only [List.getElem?_toArray, List.getElem?_cons_succ, List.getElem?_cons_zero]; rfl)
            go_simp
            refine hK.out _ _ ?hS28 (fun hHeld' => ?rest28)
            case hS28 => ((try dsimp only); all_goals trivial)
            clear hK K
            (try dsimp only)
            clear hHeld
            have hHeld := hHeld'
            clear hHeld'
            refine wpAnyH_done (by kernel_rfl) ?_ _
            refine NoPanic.normal ?_
            clear hHeld
            refine lift_eq ?_
            intro w9 hw9
            have P9 := hidX (P8.out.cellSet (j := 4) hw9)
            have m9 : MkO (some pb) w8 w9 := by rw [hw9]; exact MkO.set _
            have hg9 : MkX pb (obE s' ea' ec') w7 w8 := ⟨((Below.refl 0 w7).drew.trans ((HA7.out _).mono (Nat.zero_le _))).grown hg8.out (Nat.zero_le _) (fun _ _ => Nat.zero_le _), fun g hg _ ho => (hg8.out.block g (by simp; omega) (fun e => ho e.symm)).trans ((HA7.out _).block g hg)⟩
            have rx : RowX (obE s' ea' ec') (Value.slice a8 (s'.1.length + 1) c8).ownBlock w7.heap.size := hl8.out.imp id fun h g hg => by
              rw [h] at hg
              injection hg with hg
              simp at hg
              omega
            have M9 := hidX ((XB.out.mo.trans hg9 XB.out.rw').trans (MkX.of m9 : MkX pb (Value.slice a8 (s'.1.length + 1) c8).ownBlock w8 w9) (XB.out.rw'.trans rx hws7))
            have hs8 := hg8.out.size
            simp at hs8
            have s9 := m9.rest.size
            have S9 := hidX (show ExS w9 B pb src a c l' am cm rv lv (s'.1 ++ [xe], s'.2) a8 c8 from ⟨by simpa [RE, RL] using P9.out, by simpa using own_mko ho8.out m9 hpB, hpB, by omega⟩)
            have c9 := S9.out.ps.cell (j := 4) rfl
            have R9 := hidX (show RowX (obE s ea ec) (obE (s'.1 ++ [xe], s'.2) a8 c8) w.heap.size from by simpa [obE] using XB.out.rw'.trans rx hws7)
            clear hw9 m9 hg9 rx f6 z6 hq8 P8 P9 HBA hrow d6 g0 g1 g2 g3 g4 g5 g6 g7
            simp only [List.length_append, List.length_singleton] at c9
            go_wp2_with fail
            go_ret
            exact EPost.good XB.out.pe M9.out (by simp [Rint]) S9.out R9.out
end Go.Proofs.YtgkoiojelckblaaGreatDoor

namespace Go.Proofs.YtgkoiojelckblaaGreatDoor
open Go.RowKit
attribute [local go_sem ↓] Go.wp_at_zero Go.wp_at_succ

theorem infoTF1 : (Tryz.prog.info? 49).map (fun i => (i.zero, i.size, i.bytes)) = some (some (.agg #[.int .i64 0, .int .i64 0, .string ⟨#[]⟩, .int .i64 0, .int .i64 0, .string ⟨#[]⟩]), 6, 64) := by kernel_rfl
def Rts (B : Nat) (vs : List Tm) (e : Ending) (w' : World) : Prop := ∃ la lc, e = .returned (.slice la vs.length lc) ∧ w'.ownsRow B 49 6 (.slice la vs.length lc) vs.length (vs.flatMap tmC)
theorem pTerm_end {l r : List Wd} {x : Wd} (h : nextW l = .ok (x, r)) (hx : pkW x = 0) : pTerm l = .error (3, x.pos) := by
  unfold pTerm
  rw [h, andP_okX]
  simp [hx]
set_option maxRecDepth 100000 in
set_option maxHeartbeats 3200000 in
theorem readTerms_any (w : World) (pb : Nat) (src : Bs) (a : Option Addr) (c : Nat) (l : List Wd) (R : List Value) (h : PSt w pb src a c l R) : Calls Tryz.prog 110 #[.pointer (some ⟨pb, 0, none⟩), .func (.func 111) #[.pointer (some ⟨pb, 0, none⟩)] #[]] w (PPost w pb src a c R (Rts w.heap.size) (pList pTerm 6 l)) := by
  have HP := hidX h
  have hpb := h.lt
  clear h
  go_enter Tryz.func110, Tryz.ntmps110
  go_wp2_with fail
  go_loopw [5] (fun v wr => ∃ (la : Option Addr) (lc n : Nat) (M : List Tm) (l' : List Wd), M.length + n = 6 ∧ v = .slice la M.length lc ∧ wr.ownsRow w.heap.size 49 6 (.slice la M.length lc) M.length (M.flatMap tmC) ∧ PSt wr pb src a c l' R ∧ MkO (some pb) w wr ∧ pList pTerm 6 l = preL M (pList pTerm n l')) (fun v _ => 6 - sliceLen v)
  case atStart => exact ⟨none, 0, 6, [], l, rfl, rfl, World.ownsRow_nil _ _ _ _, HP.out, MkO.refl _ _, by unfold preL; cases pList pTerm 6 l <;> rfl⟩
  case round =>
    obtain ⟨la, lc, n, M, l', hMn, rfl, hown, hps, hmk, hpl⟩ := hrel
    have OW := hidX hown
    have PS := hidX hps
    have MK := hidX hmk
    have PL := hidX hpl
    have HAH := hidX (ahead_any wr pb src a c l' R 41 hps)
    clear hown hps hmk hpl
    cases hr : nextW l' with
    | error f =>
      have HT : Hid (pList pTerm 6 l = .error f) := show _ = _ from by rw [PL.out, pList_err hr]; rfl
      rw [hr] at HAH
      go_wp2_with (first | (go_at_call 38; refine HAH.out.mono ?_; rintro e w2 ⟨hb2, rfl⟩; unfold fltE) | fail)
      exact ⟨rfl, PPost.err HT.out (MK.out.trans (MkO.of_below hb2))⟩
    | ok p =>
      obtain ⟨x, r⟩ := p
      rw [hr] at HAH
      by_cases hx : pkW x = 41
      · have HT : Hid (pList pTerm 6 l = .ok (M, r)) := show _ = _ from by rw [PL.out, pList_end hr hx]; simp [preL]
        replace HAH : Hid (Calls Tryz.prog 38 #[.pointer (some ⟨pb, 0, none⟩), .int .i32 41] wr fun e w' => Below wr.heap.size wr w' ∧ e = .returned (.bool true)) := by
          rw [← decide_eq_true hx]
          exact HAH
        have HTK := hidX (fun u (hu : Below wr.heap.size wr u) => take_any u pb src a c l' R 41 (PS.out.below hu))
        rw [show takeW 41 l' = .ok (x, r) by unfold takeW; rw [hr]; simp [hx]] at HTK
        clear hx
        go_wp2_with (first | (go_at_call 38; refine HAH.out.mono ?_; rintro e w2 ⟨hb2, rfl⟩) | (go_at_call 62; refine (HTK.out _ hb2).mono ?_; rintro e w4 ⟨hm4, hw4, hp4⟩; replace hw4 : e = .returned (pwA x) := hw4; subst hw4) | fail)
        go_ret
        exact PPost.good HT.out ((MK.out.trans (MkO.of_below hb2)).trans hm4) ⟨la, lc, rfl, own_mko (own_bel OW.out hb2) hm4 hpb⟩ hp4
      · replace HAH : Hid (Calls Tryz.prog 38 #[.pointer (some ⟨pb, 0, none⟩), .int .i32 41] wr fun e w' => Below wr.heap.size wr w' ∧ e = .returned (.bool false)) := by
          rw [← decide_eq_false hx]
          exact HAH
        have HBN := hidX (fun u (hu : Below wr.heap.size wr u) => bound_any u pb src a c l' R (M.length : Int) 6 (PS.out.below hu))
        have HVA := hidX (fun u (hu : PSt u pb src a c l' R) => pterm_any u pb src a c l' R hu)
        by_cases hn : n = 0 ∧ pkW x ≠ 0
        · have HT : Hid (pList pTerm 6 l = .error (4, x.pos)) := show _ = _ from by rw [PL.out, hn.1, pList_zero hr hx, if_neg hn.2]; rfl
          rw [show boundW (M.length : Int) 6 l' = .error (4, x.pos) by unfold boundW; rw [hr]; simp only; rw [if_pos ⟨by omega, hx, hn.2⟩]] at HBN
          clear hx hn
          go_wp2_with (first | (go_at_call 38; refine HAH.out.mono ?_; rintro e w2 ⟨hb2, rfl⟩) | (go_at_call 103; refine (HBN.out _ hb2).mono ?_; rintro e w3 ⟨hm3, rfl⟩; unfold fltE) | fail)
          exact ⟨rfl, PPost.err HT.out ((MK.out.trans (MkO.of_below hb2)).trans hm3)⟩
        · rw [show boundW (M.length : Int) 6 l' = .ok ((), l') by
            unfold boundW
            rw [hr]
            simp only
            rw [if_neg]
            rintro ⟨h1, h2, h3⟩
            exact hn ⟨by omega, h3⟩] at HBN
          cases hv : pTerm l' with
          | error f =>
            have HT : Hid (pList pTerm 6 l = .error f) := show _ = _ from by
              rw [PL.out]
              cases n with
              | zero =>
                have h0 : pkW x = 0 := Classical.byContradiction fun h => hn ⟨rfl, h⟩
                rw [pList_zero hr hx, if_pos h0]
                rw [pTerm_end hr h0] at hv
                injection hv with hv
                rw [hv]
                rfl
              | succ n =>
                rw [pList_bad hr hx hv]
                rfl
            rw [hv] at HVA
            clear hx hn
            go_wp2_with (first | (go_at_call 38; refine HAH.out.mono ?_; rintro e w2 ⟨hb2, rfl⟩) | (go_at_call 103; refine (HBN.out _ hb2).mono ?_; rintro e w3 ⟨hm3, rfl, hp3⟩) | (go_at_call 111; refine (HVA.out _ hp3).mono ?_; rintro e w4 ⟨hm4, rfl⟩; unfold fltE) | fail)
            exact ⟨rfl, PPost.err HT.out (((MK.out.trans (MkO.of_below hb2)).trans hm3).trans hm4)⟩
          | ok p =>
            obtain ⟨v, l1⟩ := p
            rw [hv] at HVA
            obtain ⟨n, rfl⟩ : ∃ n', n = n' + 1 := by
              cases n with
              | zero =>
                have h0 : pkW x = 0 := Classical.byContradiction fun h => hn ⟨rfl, h⟩
                rw [pTerm_end hr h0] at hv
                cases hv
              | succ n => exact ⟨n, rfl⟩
            have PL2 := hidX (PL.out.trans (pList_step (M := M) hr hx hv))
            clear hx hn hv
            go_wp2_with (first | (go_at_call 38; refine HAH.out.mono ?_; rintro e w2 ⟨hb2, rfl⟩) | (go_at_call 103; refine (HBN.out _ hb2).mono ?_; rintro e w3 ⟨hm3, rfl, hp3⟩) | (go_at_call 111; refine (HVA.out _ hp3).mono ?_; rintro e w4 ⟨hm4, hw4, hp4⟩; replace hw4 : e = .returned (.agg #[.int .i64 v.kind, .int .i64 v.op, .string v.var, .int .i64 v.val.kind, .int .i64 v.val.num, .string v.val.sym]) := hw4; subst hw4; have M4 := hidX (((MK.out.trans (MkO.of_below hb2)).trans hm3).trans hm4); have OW4 := hidX (own_mko (own_mko (own_bel OW.out hb2) hm3 hpb) hm4 hpb); have hsz4 := M4.out.rest.size; have HA4 := hidX (fun o' => (Below.refl _ _).alloc (Nat.le_refl _) o' : ∀ o', Below w4.heap.size w4 (w4.alloc o'))) | (at_builtin; refine wpList_append_any (by rfl) (.tmp 13) (.tmp 16) 43 (by rfl) w.heap.size 49 _ 6 64 Tryz.underlying43 infoTF1 (by rfl) (by omega) _ M.length _ (by rfl) (own_bel OW4.out (HA4.out _)) (some ⟨_, 0, none⟩) 1 1 (by rfl) (tmC v) (by rfl) (fun e => by cases e) (news_new _ _ _ _ (by simp)) (tmC_one v) (by unfold maxLen; omega) (by omega) (by simp; omega) ?_; intro a3 c3 w5 ho5 hg5 hl5) | fail)
            have hrow : ∀ k, (Value.slice la M.length lc).ownBlock = some k → w.heap.size ≤ k := fun k hk => (OW4.out.lt k hk).1
            have M5 := hidX ((M4.out.trans (MkO.of_below (HA4.out _))).grown hg5.out hrow)
            have P5 := hidX ((hp4.below (HA4.out _)).keep ((Below.refl _ _).grown hg5.out (by simp; omega) (fun k hk => by have := hrow k hk; omega)))
            go_roundw
            case rel => exact ⟨a3, c3, n, M ++ [v], l1, by simp; omega, by simp, by simpa using ho5.out, P5.out, M5.out, PL2.out⟩
            case measure => (simp [sliceLen]; omega)
end Go.Proofs.YtgkoiojelckblaaGreatDoor

namespace Go.Proofs.YtgkoiojelckblaaGreatDoor
open Go.RowKit
attribute [local go_sem ↓] Go.wp_at_zero Go.wp_at_succ

def ptP (x : Pt) (v : Value) : List Value := [.bool x.neg, .string x.cls, v]
theorem ptP_one (x : Pt) (a : Option Addr) (n c : Nat) : ∀ v ∈ ptP x (.slice a n c), v.oneCell' = true := by
  intro v hv
  simp [ptP] at hv
  rcases hv with rfl | rfl | rfl <;> rfl
theorem infoPtP : (Tryz.prog.info? 45).map (·.size) = some 3 := by kernel_rfl
/-- A pattern that was read: its terms are owned. -/
def Rpt (B : Nat) (x : Pt) (e : Ending) (w' : World) : Prop := ∃ la lc, e = .returned (.agg (ptP x (.slice la x.terms.length lc)).toArray) ∧ w'.ownsRow B 49 6 (.slice la x.terms.length lc) x.terms.length (x.terms.flatMap tmC)
set_option maxRecDepth 100000 in
set_option maxHeartbeats 3200000 in
theorem ppattern_any (w : World) (pb : Nat) (src : Bs) (a : Option Addr) (c : Nat) (l : List Wd) (R : List Value) (h : PSt w pb src a c l R) : Calls Tryz.prog 71 #[.pointer (some ⟨pb, 0, none⟩)] w (PPost w pb src a c R (Rpt w.heap.size) (pPat l)) := by
  have hwf2 := wfield2
  have hmf : ∀ (fn : Fn) (first cap : Array Value) (w : World), (Instr.makeFunc fn first cap).run Tryz.prog w = .ok (.func fn first cap) w := fun _ _ _ _ => rfl
  have HP := hidX h
  have hpb := h.lt
  clear h
  go_enter Tryz.func71, Tryz.ntmps71
  go_upto_region 1 with fail
  refine lift_alloc ?_
  intro w1 hW1 hq1
  have HTK := hidX (take_any w1 pb src a c l R 97 (HP.out.below hW1))
  have M1 := hidX (MkO.of_below hW1 : MkO (some pb) w w1)
  have hrb : w.heap.size < w1.heap.size := lt_of_block' hq1
  have HQ1 := hidX hq1
  clear hW1 hq1
  cases hr : takeW 97 l with
  | error f =>
    have HT : Hid (pPat l = .error f) := show _ = _ from by unfold pPat; rw [hr]; rfl
    rw [hr] at HTK
    go_wp2_with (first | (go_at_call 62; refine HTK.out.mono ?_; rintro e w2 ⟨hm2, rfl⟩; unfold fltE) | fail)
    exact ⟨rfl, PPost.err HT.out (M1.out.trans hm2)⟩
  | ok p =>
    obtain ⟨x, l1⟩ := p
    rw [hr] at HTK
    go_upto_region 2 with (first | (go_at_call 62; refine HTK.out.mono ?_; rintro e w2 ⟨hm2, hw2, hp2⟩; replace hw2 : e = .returned (pwA x) := hw2; subst hw2; unfold pwA) | fail)
    have hbq := beq_lit (mkS (ptW x)) notT
    rw [bs_mkS] at hbq
    have s2 := hm2.rest.size
    have M2 := hidX (M1.out.trans hm2)
    have P2 := hidX hp2
    have HRB := hidX ((hm2.block w.heap.size hrb (fun e => by injection e; omega)).trans HQ1.out)
    clear hm2 hp2 HTK HQ1 M1
    by_cases hk : ptW x = notT
    · have HT : Hid (pPat l = andP (pClass l1) fun c l2 => andP (pList pTerm 6 l2) fun ts l3 => .ok (⟨true, mkS c, ts⟩, l3)) := show _ = _ from by unfold pPat; rw [hr, andP_okX, if_pos hk]
      rw [decide_eq_true hk] at hbq
      replace hbq : ((mkS (ptW x)).toList == [110, 111, 116]) = true := hbq
      clear hk hr
      have HCL := hidX (class_any w2 pb src a c l1 R P2.out)
      cases hc : pClass l1 with
      | error f =>
        have HTE : Hid (pPat l = .error f) := show _ = _ from by rw [HT.out, hc]; rfl
        rw [hc] at HCL
        go_wp2_with (first | (go_at_call 58; refine HCL.out.mono ?_; rintro e w3 ⟨hm3, rfl⟩; unfold fltE) | fail)
        exact ⟨rfl, PPost.err HTE.out (M2.out.trans hm3)⟩
      | ok q =>
        obtain ⟨t, l2⟩ := q
        rw [hc] at HCL
        have HTL := hidX (fun u (hu : PSt u pb src a c l2 R) => readTerms_any u pb src a c l2 R hu)
        cases hd : pList pTerm 6 l2 with
        | error f =>
          have HTE : Hid (pPat l = .error f) := show _ = _ from by rw [HT.out, hc, andP_okX, hd]; rfl
          rw [hd] at HTL
          go_wp2_with (first | (go_at_call 58; refine HCL.out.mono ?_; rintro e w3 ⟨hm3, he3, hp3⟩; replace he3 : e = .returned (.string (mkS t)) := he3; subst he3) | (go_at_call 110; refine (HTL.out _ hp3).mono ?_; rintro e w4 ⟨hm4, rfl⟩; unfold fltE) | fail)
          exact ⟨rfl, PPost.err HTE.out ((M2.out.trans hm3).trans hm4)⟩
        | ok q =>
          obtain ⟨ts, l3⟩ := q
          have HTE : Hid (pPat l = .ok (⟨true, mkS t, ts⟩, l3)) := show _ = _ from by rw [HT.out, hc, andP_okX, hd]; rfl
          rw [hd] at HTL
          go_wp2_with (first | (go_at_call 58; refine HCL.out.mono ?_; rintro e w3 ⟨hm3, he3, hp3⟩; replace he3 : e = .returned (.string (mkS t)) := he3; subst he3) | (go_at_call 110; refine (HTL.out _ hp3).mono ?_; rintro e w4 ⟨hm4, ⟨la, lc, rfl, ho4⟩, hp4⟩; have s3 := hm3.rest.size; have s4 := hm4.rest.size; have hr4 := ((hm3.trans hm4).block w.heap.size (by omega) (fun e => by injection e; omega)).trans HRB.out) | (refine wpList_store_blk (by rfl) 45 (.tmp 2) (.tmp 15) (by rfl) w.heap.size (ptP ⟨true, mkS t, ts⟩ (.slice la ts.length lc)) (by rfl) (by rfl) _ 45 hr4 (by rfl) infoPtP (ptP_one _ _ _ _) ?_; intro w5 hb5 ht5) | fail)
          have hld := run_loadVar_mid (P := Tryz.prog) w5 w.heap.size 0 45 (ptP ⟨true, mkS t, ts⟩ (.slice la ts.length lc)) _ (range_blk hb5.out) Tryz.underlying45 rfl infoPtP
          (try go_frame)
          exact bodyPost_ret (v := .agg (ptP ⟨true, mkS t, ts⟩ (.slice la ts.length lc)).toArray) (by simp [results, Tryz.results71, asAddr, hld]) rfl (PPost.good HTE.out (((M2.out.trans hm3).trans hm4).turn ht5.out (Nat.le_refl _)) ⟨la, lc, rfl, owns_base (own_turn ho4 ht5.out hr4 (by decide)) (by omega)⟩ (hp4.turned ht5.out (by omega)))
    · have HT : Hid (pPat l = andP (pList pTerm 6 l1) fun ts l3 => .ok (⟨false, mkS (ptW x), ts⟩, l3)) := show _ = _ from by unfold pPat; rw [hr, andP_okX, if_neg hk]
      rw [decide_eq_false hk] at hbq
      replace hbq : ((mkS (ptW x)).toList == [110, 111, 116]) = false := hbq
      clear hk hr
      have HTL := hidX (readTerms_any w2 pb src a c l1 R P2.out)
      cases hd : pList pTerm 6 l1 with
      | error f =>
        have HTE : Hid (pPat l = .error f) := show _ = _ from by rw [HT.out, hd]; rfl
        rw [hd] at HTL
        go_wp2_with (first | (go_at_call 110; refine HTL.out.mono ?_; rintro e w4 ⟨hm4, rfl⟩; unfold fltE) | fail)
        exact ⟨rfl, PPost.err HTE.out (M2.out.trans hm4)⟩
      | ok q =>
        obtain ⟨ts, l3⟩ := q
        have HTE : Hid (pPat l = .ok (⟨false, mkS (ptW x), ts⟩, l3)) := show _ = _ from by rw [HT.out, hd]; rfl
        rw [hd] at HTL
        go_wp2_with (first | (go_at_call 110; refine HTL.out.mono ?_; rintro e w4 ⟨hm4, ⟨la, lc, rfl, ho4⟩, hp4⟩; have s4 := hm4.rest.size; have hr4 := (hm4.block w.heap.size (by omega) (fun e => by injection e; omega)).trans HRB.out) | (refine wpList_store_blk (by rfl) 45 (.tmp 2) (.tmp 21) (by rfl) w.heap.size (ptP ⟨false, mkS (ptW x), ts⟩ (.slice la ts.length lc)) (by rfl) (by rfl) _ 45 hr4 (by rfl) infoPtP (ptP_one _ _ _ _) ?_; intro w5 hb5 ht5) | fail)
        have hld := run_loadVar_mid (P := Tryz.prog) w5 w.heap.size 0 45 (ptP ⟨false, mkS (ptW x), ts⟩ (.slice la ts.length lc)) _ (range_blk hb5.out) Tryz.underlying45 rfl infoPtP
        (try go_frame)
        exact bodyPost_ret (v := .agg (ptP ⟨false, mkS (ptW x), ts⟩ (.slice la ts.length lc)).toArray) (by simp [results, Tryz.results71, asAddr, hld]) rfl (PPost.good HTE.out ((M2.out.trans hm4).turn ht5.out (Nat.le_refl _)) ⟨la, lc, rfl, owns_base (own_turn ho4 ht5.out hr4 (by decide)) (by omega)⟩ (hp4.turned ht5.out (by omega)))
end Go.Proofs.YtgkoiojelckblaaGreatDoor
