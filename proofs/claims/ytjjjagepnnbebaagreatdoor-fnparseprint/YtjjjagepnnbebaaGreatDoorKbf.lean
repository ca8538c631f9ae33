/-
  OUR OWN TEXT. Pr1, Pt1, Pr2, one behind the other.
-/
import Derived.Test.YtjjjagepnnbebaaGreatDoorSx20m
import Derived.Test.YtjjjagepnnbebaaGreatDoorKbb
import Derived.Test.YtjjjagepnnbebaaGreatDoorKal
namespace Go.Proofs.YtjjjagepnnbebaaGreatDoor

def zVr : V := (0, 0, mkS [])
/-- A test's inside, behind its '('. -/
def pTest (l : List Wd) : Px Tm := andP (takeW 61 l) fun o l1 => andP (nextW l1) fun x l2 =>
  if pkW x = 48 ∨ pkW x = 97 then andP (takeW 41 l2) fun _ l3 => .ok (⟨3, (testIx (ptW o) : Int), mkS [], wVal (pkW x) x.num (ptW x)⟩, l3)
  else if pkW x = 63 then andP (takeW 41 l2) fun _ l3 => .ok (⟨3, (testIx (ptW o) : Int), mkS (ptW x), zVr⟩, l3)
  else .error (3, x.pos)
def pTerm (l : List Wd) : Px Tm := andP (nextW l) fun x l1 =>
  if pkW x = 95 then .ok (⟨0, 0, mkS [], zVr⟩, l1)
  else if pkW x = 48 ∨ pkW x = 97 then .ok (⟨1, 0, mkS [], wVal (pkW x) x.num (ptW x)⟩, l1)
  else if pkW x = 63 then .ok (⟨2, 0, mkS (ptW x), zVr⟩, l1)
  else if pkW x = 40 then pTest l1
  else .error (3, x.pos)
/-- A pattern, behind its '('. -/
def pPat (l : List Wd) : Px Pt := andP (takeW 97 l) fun x l1 =>
  if ptW x = notT then andP (pClass l1) fun c l2 => andP (pList pTerm 6 l2) fun ts l3 => .ok (⟨true, mkS c, ts⟩, l3)
  else andP (pList pTerm 6 l1) fun ts l3 => .ok (⟨false, mkS (ptW x), ts⟩, l3)
/-- The exprs that have ended, and how many have begun. -/
abbrev ES := List Ex × Nat
/-- An expr; f: how many may still stand in one another. -/
def pExpr : Nat → ES → List Wd → Px (Int × ES)
  | f, s, l => match boundW (s.2 : Int) 60 l with
    | .error e => .error e
    | .ok _ => match nextW l with
      | .error e => .error e
      | .ok (x, l1) =>
        if pkW x = 48 ∨ pkW x = 97 then .ok (((s.1.length : Int), (s.1 ++ [⟨0, 0, mkS [], wVal (pkW x) x.num (ptW x), 0, 0⟩], s.2 + 1)), l1)
        else if pkW x = 63 then .ok (((s.1.length : Int), (s.1 ++ [⟨1, 0, mkS (ptW x), zVr, 0, 0⟩], s.2 + 1)), l1)
        else if pkW x = 40 then match f with
          | 0 => .error (4, x.pos)
          | f + 1 => match takeW 43 l1 with
            | .error e => .error e
            | .ok (o, l2) => match pExpr f (s.1, s.2 + 1) l2 with
              | .error e => .error e
              | .ok ((i, s1), l3) => match pExpr f s1 l3 with
                | .error e => .error e
                | .ok ((j, s2), l4) => match takeW 41 l4 with
                  | .error e => .error e
                  | .ok (_, l5) => .ok (((s2.1.length : Int), (s2.1 ++ [⟨2, (((ptW o).headD 0).toNat : Int), mkS [], zVr, i, j⟩], s2.2)), l5)
        else .error (3, x.pos)
/-- A list up to its ')' that carries a state; n: how many may still come. -/
def pListE {σ α : Type} (rd : σ → List Wd → Px (α × σ)) : Nat → σ → List Wd → Px (List α × σ)
  | 0, s, l => match nextW l with
    | .error f => .error f
    | .ok (x, r) => if pkW x = 41 then .ok (([], s), r) else if pkW x = 0 then .error (3, x.pos) else .error (4, x.pos)
  | n + 1, s, l => match nextW l with
    | .error f => .error f
    | .ok (x, r) => if pkW x = 41 then .ok (([], s), r) else match rd s l with
      | .error f => .error f
      | .ok ((v, s1), l1) => match pListE rd n s1 l1 with
        | .error f => .error f
        | .ok ((vs, s2), l2) => .ok ((v :: vs, s2), l2)
/-- Forms in brackets up to a word of kind k; n: how many may still come. -/
def pMany {α : Type} (k : Int) (rd : List Wd → Px α) : Nat → List Wd → Px (List α)
  | 0, l => match nextW l with
    | .error f => .error f
    | .ok (x, _) => if pkW x = k then .ok ([], l) else if pkW x = 40 then .error (4, x.pos) else .error (3, x.pos)
  | n + 1, l => match nextW l with
    | .error f => .error f
    | .ok (x, _) => if pkW x = k then .ok ([], l) else match takeW 40 l with
      | .error f => .error f
      | .ok (_, l1) => match rd l1 with
        | .error f => .error f
        | .ok (v, l2) => match pMany k rd n l2 with
          | .error f => .error f
          | .ok (vs, l3) => .ok (v :: vs, l3)
def pManyS {σ α : Type} (k : Int) (rd : σ → List Wd → Px (α × σ)) : Nat → σ → List Wd → Px (List α × σ)
  | 0, s, l => match nextW l with
    | .error f => .error f
    | .ok (x, _) => if pkW x = k then .ok (([], s), l) else if pkW x = 40 then .error (4, x.pos) else .error (3, x.pos)
  | n + 1, s, l => match nextW l with
    | .error f => .error f
    | .ok (x, _) => if pkW x = k then .ok (([], s), l) else match takeW 40 l with
      | .error f => .error f
      | .ok (_, l1) => match rd s l1 with
        | .error f => .error f
        | .ok ((v, s1), l2) => match pManyS k rd n s1 l2 with
          | .error f => .error f
          | .ok ((vs, s2), l3) => .ok ((v :: vs, s2), l3)
def refOf (n : Int) : Int := if n < -1000000 ∨ 1000000 < n then 0 else n
def pRef (l : List Wd) : Px Int := andP (takeW 48 l) fun x l1 => .ok (refOf x.num, l1)
def aHalt (s : ES) (l : List Wd) : Px (Ac × ES) := andP (takeW 41 l) fun _ l2 => .ok ((⟨4, 0, mkS [], []⟩, s), l2)
def aDrop (s : ES) (l : List Wd) : Px (Ac × ES) := andP (pRef l) fun k l1 => andP (takeW 41 l1) fun _ l2 => .ok ((⟨2, k, mkS [], []⟩, s), l2)
def aMod (s : ES) (l : List Wd) : Px (Ac × ES) := andP (pRef l) fun k l1 => andP (pListE (pExpr 20) 6 s l1) fun p l2 => .ok ((⟨3, k, mkS [], p.1⟩, p.2), l2)
def aAdd (s : ES) (l : List Wd) : Px (Ac × ES) := andP (pClass l) fun c l1 => andP (pListE (pExpr 20) 6 s l1) fun p l2 => .ok ((⟨1, 0, mkS c, p.1⟩, p.2), l2)
/-- An action, behind its '('. -/
def pAct (s : ES) (l : List Wd) : Px (Ac × ES) := andP (takeW 97 l) fun x l1 =>
  if ptW x = haltT then aHalt s l1 else if ptW x = modT then aMod s l1 else if ptW x = dropT then aDrop s l1 else if ptW x = addT then aAdd s l1 else .error (3, x.pos)
def ruleT : Bs := [114, 117, 108, 101]
/-- A rule, behind its '('. -/
def pRule (l : List Wd) : Px Ru := andP (takeW 97 l) fun x l1 => if ptW x = ruleT then
    andP (takeW 97 l1) fun nm l2 => andP (takeW 48 l2) fun sl l3 => andP (pMany 62 pPat 6 l3) fun ps l4 => andP (takeW 62 l4) fun _ l5 =>
      andP (pManyS 41 pAct 8 ([], 0) l5) fun q l6 => andP (takeW 41 l6) fun _ l7 => .ok (⟨mkS (ptW nm), sl.num, ps, q.2.1, q.1⟩, l7)
  else .error (3, x.pos)
def pRules (l : List Wd) : Px (List Ru) := pMany 0 pRule 16 l
end Go.Proofs.YtjjjagepnnbebaaGreatDoor

namespace Go.Proofs.YtjjjagepnnbebaaGreatDoor
open Go.RowKit
attribute [local go_sem ↓] Go.wp_at_zero Go.wp_at_succ

theorem infoTmP : (Tryz.prog.info? 95).map (·.size) = some 6 := by kernel_rfl
def Rtm (x : Tm) (e : Ending) (_ : World) : Prop := e = .returned (.agg (tmC x).toArray)
theorem lift_set3o {P : World → Prop} {w : World} {b o : Nat} {t : TypeId} {cs : Array Value} {v0 v1 v2 : Value} (hq : w.heap[b]? = some (.cells cs t (0, 0))) (hs : o + 3 ≤ cs.size) (h : ∀ wt, wt.heap[b]? = some (.cells (cs.toList.take o ++ ([v0, v1, v2] ++ cs.toList.drop (o + 3))).toArray t (0, 0)) → Turned w wt b → P wt) : P (((w.setCell ⟨b, o, none⟩ v0).setCell ⟨b, o + 1, none⟩ v1).setCell ⟨b, o + 2, none⟩ v2) :=
  h _ (heap_setCells_splice hq (o := o) [v0, v1, v2] (by simp; omega)) (Turned.setCells [v0, v1, v2] o w b)
theorem andP_okX {α β : Type} {x : α} {l : List Wd} {k : α → List Wd → Px β} : andP (.ok (x, l)) k = k x l := rfl
set_option maxRecDepth 100000 in
set_option maxHeartbeats 3200000 in
theorem ptest_any (w : World) (pb : Nat) (src : Bs) (a : Option Addr) (c : Nat) (l : List Wd) (R : List Value) (h : PSt w pb src a c l R) : Calls Tryz.prog 162 #[.pointer (some ⟨pb, 0, none⟩)] w (PPost w pb src a c R Rtm (pTest l)) := by
  have hwf2 := wfield2
  have HP := hidX h
  have hpb := h.lt
  clear h
  go_enter Tryz.func162, Tryz.ntmps162
  go_upto_region 1 with fail
  refine lift_alloc ?_
  intro w1 hW1 hq1
  have HTK := hidX (take_any w1 pb src a c l R 61 (HP.out.below hW1))
  have M1 := hidX (MkO.of_below hW1 : MkO (some pb) w w1)
  have hrb : w.heap.size < w1.heap.size := lt_of_block' hq1
  have HQ1 := hidX hq1
  clear hW1 hq1
  cases hr : takeW 61 l with
  | error f =>
    have HT : Hid (pTest l = .error f) := show _ = _ from by unfold pTest; rw [hr]; rfl
    rw [hr] at HTK
    go_wp2_with (first | (go_at_call 85; refine HTK.out.mono ?_; rintro e w2 ⟨hm2, rfl⟩; unfold fltE) | fail)
    exact ⟨rfl, PPost.err HT.out (M1.out.trans hm2)⟩
  | ok p =>
    obtain ⟨o, l1⟩ := p
    rw [hr] at HTK
    go_upto_region 2 with (first | (go_at_call 85; refine HTK.out.mono ?_; rintro e w2 ⟨hm2, hw2, hp2⟩; replace hw2 : e = .returned (pwA o) := hw2; subst hw2; unfold pwA) | (go_at_call 173; refine (testOf_any (ptW o) w2 hp2.env.tests).mono ?_; rintro e w3 ⟨rfl, rfl⟩) | fail)
    refine lift_alloc ?_
    intro w4 hW4 hq4
    obtain ⟨ix, hix⟩ : ∃ ix : Int, ix = (testIx (ptW o) : Int) := ⟨_, rfl⟩
    rw [← hix] at hq4
    have HIX := hidX hix
    have HPN := hidX (pnext_any w4 pb src a c l1 R (hp2.below hW4))
    have s2 := hm2.rest.size
    have s4 : w3.heap.size < w4.heap.size := lt_of_block' hq4
    have M4 := hidX ((M1.out.trans hm2).trans (MkO.of_below hW4))
    have HQ4 := hidX hq4
    have HRB4 := hidX ((hW4.block w.heap.size (by omega)).trans ((hm2.block w.heap.size hrb (fun e => by injection e; omega)).trans HQ1.out))
    have HTO := hidX hr
    clear hW4 hq4 hm2 hp2 HTK HQ1 M1 hix hr
    cases hn : nextW l1 with
    | error f =>
      have HT : Hid (pTest l = .error f) := show _ = _ from by unfold pTest; rw [HTO.out, andP_okX, hn]; rfl
      rw [hn] at HPN
      go_wp2_with (first | (go_at_call 132; refine HPN.out.mono ?_; rintro e w5 ⟨hm5, rfl⟩; unfold fltE) | fail)
      exact ⟨rfl, PPost.err HT.out (M4.out.trans hm5)⟩
    | ok p =>
      obtain ⟨x, l2⟩ := p
      rw [hn] at HPN
      go_upto_region 3 with (first | (go_at_call 132; refine HPN.out.mono ?_; rintro e w5 ⟨hm5, hw5, hp5⟩; replace hw5 : e = .returned (pwA x) := hw5; subst hw5; unfold pwA) | fail)
      refine lift_alloc ?_
      intro w6 hW6 hq6
      obtain ⟨L, X, HLX, hLl, hq6, y0⟩ := wd_box hq6
      have s5 := hm5.rest.size
      have s6 : w5.heap.size < w6.heap.size := lt_of_block' hq6
      have M6 := hidX ((M4.out.trans hm5).trans (MkO.of_below hW6))
      have P6 := hidX (hp5.below hW6)
      have HTB6 := hidX ((hW6.block w3.heap.size (by omega)).trans ((hm5.block w3.heap.size s4 (fun e => by injection e; omega)).trans HQ4.out))
      have HRB6 := hidX ((hW6.block w.heap.size (by omega)).trans ((hm5.block w.heap.size (by omega) (fun e => by injection e; omega)).trans HRB4.out))
      have y2 := (wd_text HLX hq6).1
      clear hW6 hm5 hp5 HPN HQ4 HRB4 M4
      have HXK := hidX HLX.out.1
      by_cases hk : X = 48 ∨ X = 97
      · have HT : Hid (pTest l = andP (takeW 41 l2) fun _ l3 => .ok (⟨3, ix, mkS [], wVal (pkW x) x.num (ptW x)⟩, l3)) := show _ = _ from by
          unfold pTest
          rw [HTO.out, andP_okX, hn, andP_okX, if_pos (by rw [← HXK.out]; exact hk), ← HIX.out]
        obtain ⟨v, hv⟩ : ∃ v, v = wVal (pkW x) x.num (ptW x) := ⟨_, rfl⟩
        have HVL := hidX (value_L HLX)
        rw [← hv] at HT HVL
        have hor : (X == 48) = true ∨ ((X == 48) = false ∧ (X == 97) = true) := by
          rcases hk with h | h
          · exact .inl (by simp [h])
          · exact .inr ⟨by simp [h], by simp [h]⟩
        clear hk hv hn
        rcases hor with e1 | ⟨e1, e2⟩
        · go_upto_region 10 with (first | (refine wpList_load_blk (by rfl) 131 (.tmp 4) (by rfl) w5.heap.size L (by rfl) 131 (0, 0) hq6 _ Tryz.underlying131 rfl hLl.1 ?_) | (go_at_call 133; refine (HVL.out _).mono ?_; intro e w7 hv7; obtain ⟨he7, hb7⟩ := hv7; replace he7 : e = .returned (.agg #[.int .i64 v.kind, .int .i64 v.num, .string v.sym]) := he7; subst he7; have hq7 := (hb7.block w3.heap.size (by omega)).trans HTB6.out; have d3 := cell_of (L := [_, _, _, _, _, _]) hq7 (j := 3) rfl; have d4 := cell_of (L := [_, _, _, _, _, _]) hq7 (j := 4) rfl; have d5 := cell_of (L := [_, _, _, _, _, _]) hq7 (j := 5) rfl; have f3 := froz_of hq7 3; have f4 := froz_of hq7 4; have f5 := froz_of hq7 5) | fail)
          have M7 := hidX (M6.out.trans (MkO.of_below hb7))
          have P7 := hidX (P6.out.below hb7)
          have s7 := hb7.size
          have HRB7 := hidX ((hb7.block w.heap.size (by omega)).trans HRB6.out)
          refine lift_set3o hq7 (by simp) ?_
          intro w8 hb8 ht8
          replace hb8 : w8.heap[w3.heap.size]? = some (.cells (tmC ⟨3, ix, mkS [], v⟩).toArray 95 (0, 0)) := hb8
          clear d3 d4 d5 f3 f4 f5 hq7 hb7 y0 y2
          have HB8 := hidX hb8
          have M8 := hidX (M7.out.turn ht8 (by omega))
          have P8 := hidX (P7.out.turned ht8 (by omega))
          have s8 := ht8.size
          have s8' : w7.heap.size ≤ w8.heap.size := Nat.le_of_eq s8.symm
          have HRB8 := hidX ((ht8.block w.heap.size (by omega)).trans HRB7.out)
          have HTK := hidX (take_any w8 pb src a c l2 R 41 P8.out)
          clear hb8 ht8 s8 HRB7 P7 M7
          cases hc : takeW 41 l2 with
          | error f =>
            have HTE : Hid (pTest l = .error f) := show _ = _ from by rw [HT.out, hc]; rfl
            rw [hc] at HTK
            clear hc
            go_wp2_with (first | (go_at_call 85; refine HTK.out.mono ?_; rintro e w9 ⟨hm9, rfl⟩; unfold fltE) | fail)
            exact ⟨rfl, PPost.err HTE.out (M8.out.trans hm9)⟩
          | ok q =>
            obtain ⟨y, l3⟩ := q
            have HTE : Hid (pTest l = .ok (⟨3, ix, mkS [], v⟩, l3)) := show _ = _ from by rw [HT.out, hc]; rfl
            rw [hc] at HTK
            clear hc
            go_upto_region 11 with (first | (go_at_call 85; refine HTK.out.mono ?_; rintro e w9 ⟨hm9, hw9, hp9⟩; replace hw9 : e = .returned (pwA y) := hw9; subst hw9; unfold pwA) | fail)
            have s9 := hm9.rest.size
            have hq9 := (hm9.block w3.heap.size (by omega) (fun e => by injection e; omega)).trans HB8.out
            have hr9 := (hm9.block w.heap.size (by omega) (fun e => by injection e; omega)).trans HRB8.out
            have M9 := hidX (M8.out.trans hm9)
            have P9 := hidX hp9
            clear hm9 hp9 HTK
            go_wp2_with (first | (refine wpList_load_blk (by rfl) 95 (.tmp 3) (by rfl) w3.heap.size (tmC ⟨3, ix, mkS [], v⟩) (by rfl) 95 (0, 0) hq9 _ Tryz.underlying95 rfl infoTmP ?_) | (refine wpList_store_blk (by rfl) 95 (.tmp 2) (.tmp 32) (by rfl) w.heap.size (tmC ⟨3, ix, mkS [], v⟩) (by rfl) (by rfl) _ 95 hr9 (by rfl) infoTmP (tmC_one _) ?_; intro w10 hb10 ht10) | fail)
            have hld := run_loadVar_mid (P := Tryz.prog) w10 w.heap.size 0 95 (tmC ⟨3, ix, mkS [], v⟩) _ (range_blk hb10.out) Tryz.underlying95 rfl infoTmP
            (try go_frame)
            exact bodyPost_ret (v := .agg (tmC ⟨3, ix, mkS [], v⟩).toArray) (by simp [results, Tryz.results162, asAddr, hld]) rfl (PPost.good HTE.out (M9.out.turn ht10.out (Nat.le_refl _)) rfl (P9.out.turned ht10.out (by omega)))
        · go_upto_region 10 with (first | (refine wpList_load_blk (by rfl) 131 (.tmp 4) (by rfl) w5.heap.size L (by rfl) 131 (0, 0) hq6 _ Tryz.underlying131 rfl hLl.1 ?_) | (go_at_call 133; refine (HVL.out _).mono ?_; intro e w7 hv7; obtain ⟨he7, hb7⟩ := hv7; replace he7 : e = .returned (.agg #[.int .i64 v.kind, .int .i64 v.num, .string v.sym]) := he7; subst he7; have hq7 := (hb7.block w3.heap.size (by omega)).trans HTB6.out; have d3 := cell_of (L := [_, _, _, _, _, _]) hq7 (j := 3) rfl; have d4 := cell_of (L := [_, _, _, _, _, _]) hq7 (j := 4) rfl; have d5 := cell_of (L := [_, _, _, _, _, _]) hq7 (j := 5) rfl; have f3 := froz_of hq7 3; have f4 := froz_of hq7 4; have f5 := froz_of hq7 5) | fail)
          have M7 := hidX (M6.out.trans (MkO.of_below hb7))
          have P7 := hidX (P6.out.below hb7)
          have s7 := hb7.size
          have HRB7 := hidX ((hb7.block w.heap.size (by omega)).trans HRB6.out)
          refine lift_set3o hq7 (by simp) ?_
          intro w8 hb8 ht8
          replace hb8 : w8.heap[w3.heap.size]? = some (.cells (tmC ⟨3, ix, mkS [], v⟩).toArray 95 (0, 0)) := hb8
          clear d3 d4 d5 f3 f4 f5 hq7 hb7 y0 y2
          have HB8 := hidX hb8
          have M8 := hidX (M7.out.turn ht8 (by omega))
          have P8 := hidX (P7.out.turned ht8 (by omega))
          have s8 := ht8.size
          have s8' : w7.heap.size ≤ w8.heap.size := Nat.le_of_eq s8.symm
          have HRB8 := hidX ((ht8.block w.heap.size (by omega)).trans HRB7.out)
          have HTK := hidX (take_any w8 pb src a c l2 R 41 P8.out)
          clear hb8 ht8 s8 HRB7 P7 M7
          cases hc : takeW 41 l2 with
          | error f =>
            have HTE : Hid (pTest l = .error f) := show _ = _ from by rw [HT.out, hc]; rfl
            rw [hc] at HTK
            clear hc
            go_wp2_with (first | (go_at_call 85; refine HTK.out.mono ?_; rintro e w9 ⟨hm9, rfl⟩; unfold fltE) | fail)
            exact ⟨rfl, PPost.err HTE.out (M8.out.trans hm9)⟩
          | ok q =>
            obtain ⟨y, l3⟩ := q
            have HTE : Hid (pTest l = .ok (⟨3, ix, mkS [], v⟩, l3)) := show _ = _ from by rw [HT.out, hc]; rfl
            rw [hc] at HTK
            clear hc
            go_upto_region 11 with (first | (go_at_call 85; refine HTK.out.mono ?_; rintro e w9 ⟨hm9, hw9, hp9⟩; replace hw9 : e = .returned (pwA y) := hw9; subst hw9; unfold pwA) | fail)
            have s9 := hm9.rest.size
            have hq9 := (hm9.block w3.heap.size (by omega) (fun e => by injection e; omega)).trans HB8.out
            have hr9 := (hm9.block w.heap.size (by omega) (fun e => by injection e; omega)).trans HRB8.out
            have M9 := hidX (M8.out.trans hm9)
            have P9 := hidX hp9
            clear hm9 hp9 HTK
            go_wp2_with (first | (refine wpList_load_blk (by rfl) 95 (.tmp 3) (by rfl) w3.heap.size (tmC ⟨3, ix, mkS [], v⟩) (by rfl) 95 (0, 0) hq9 _ Tryz.underlying95 rfl infoTmP ?_) | (refine wpList_store_blk (by rfl) 95 (.tmp 2) (.tmp 32) (by rfl) w.heap.size (tmC ⟨3, ix, mkS [], v⟩) (by rfl) (by rfl) _ 95 hr9 (by rfl) infoTmP (tmC_one _) ?_; intro w10 hb10 ht10) | fail)
            have hld := run_loadVar_mid (P := Tryz.prog) w10 w.heap.size 0 95 (tmC ⟨3, ix, mkS [], v⟩) _ (range_blk hb10.out) Tryz.underlying95 rfl infoTmP
            (try go_frame)
            exact bodyPost_ret (v := .agg (tmC ⟨3, ix, mkS [], v⟩).toArray) (by simp [results, Tryz.results162, asAddr, hld]) rfl (PPost.good HTE.out (M9.out.turn ht10.out (Nat.le_refl _)) rfl (P9.out.turned ht10.out (by omega)))
      · have HK := hidX hk
        by_cases h63 : X = 63
        · have HT : Hid (pTest l = andP (takeW 41 l2) fun _ l3 => .ok (⟨3, ix, mkS (ptW x), zVr⟩, l3)) := show _ = _ from by
            unfold pTest
            rw [HTO.out, andP_okX, hn, andP_okX, if_neg (by rw [← HXK.out]; exact hk), if_pos (by rw [← HXK.out]; exact h63), ← HIX.out]
          have e1 : (X == 48) = false := by simp; omega
          have e2 : (X == 97) = false := by simp; omega
          have e3 : (X == 63) = true := by simp [h63]
          have b2 := cell_of (L := [_, _, _, _, _, _]) HTB6.out (j := 2) rfl
          have f2 := froz_of HTB6.out 2
          clear hk h63 hn
          go_upto_region 10 with (first | (refine wpList_load_blk (by rfl) 131 (.tmp 4) (by rfl) w5.heap.size L (by rfl) 131 (0, 0) hq6 _ Tryz.underlying131 rfl hLl.1 ?_) | fail)
          obtain ⟨w7, hw7⟩ : ∃ w7, w7 = w6 := ⟨_, rfl⟩
          rw [← hw7] at M6 P6 HRB6 HTB6 ⊢
          have M7 := hidX M6.out
          have P7 := hidX P6.out
          have HRB7 := hidX HRB6.out
          have s7 : w6.heap.size ≤ w7.heap.size := by rw [hw7]; exact Nat.le_refl _
          refine lift_setW HTB6.out ?_
          intro w8 hb8 ht8
          replace hb8 : w8.heap[w3.heap.size]? = some (.cells (tmC ⟨3, ix, mkS (ptW x), zVr⟩).toArray 95 (0, 0)) := hb8
          clear b2 f2 y0 y2
          have HB8 := hidX hb8
          have M8 := hidX (M7.out.turn ht8 (by omega))
          have P8 := hidX (P7.out.turned ht8 (by omega))
          have s8 := ht8.size
          have s8' : w7.heap.size ≤ w8.heap.size := Nat.le_of_eq s8.symm
          have HRB8 := hidX ((ht8.block w.heap.size (by omega)).trans HRB7.out)
          have HTK := hidX (take_any w8 pb src a c l2 R 41 P8.out)
          clear hb8 ht8 s8 HRB7 P7 M7
          cases hc : takeW 41 l2 with
          | error f =>
            have HTE : Hid (pTest l = .error f) := show _ = _ from by rw [HT.out, hc]; rfl
            rw [hc] at HTK
            clear hc
            go_wp2_with (first | (go_at_call 85; refine HTK.out.mono ?_; rintro e w9 ⟨hm9, rfl⟩; unfold fltE) | fail)
            exact ⟨rfl, PPost.err HTE.out (M8.out.trans hm9)⟩
          | ok q =>
            obtain ⟨y, l3⟩ := q
            have HTE : Hid (pTest l = .ok (⟨3, ix, mkS (ptW x), zVr⟩, l3)) := show _ = _ from by rw [HT.out, hc]; rfl
            rw [hc] at HTK
            clear hc
            go_upto_region 11 with (first | (go_at_call 85; refine HTK.out.mono ?_; rintro e w9 ⟨hm9, hw9, hp9⟩; replace hw9 : e = .returned (pwA y) := hw9; subst hw9; unfold pwA) | fail)
            have s9 := hm9.rest.size
            have hq9 := (hm9.block w3.heap.size (by omega) (fun e => by injection e; omega)).trans HB8.out
            have hr9 := (hm9.block w.heap.size (by omega) (fun e => by injection e; omega)).trans HRB8.out
            have M9 := hidX (M8.out.trans hm9)
            have P9 := hidX hp9
            clear hm9 hp9 HTK
            go_wp2_with (first | (refine wpList_load_blk (by rfl) 95 (.tmp 3) (by rfl) w3.heap.size (tmC ⟨3, ix, mkS (ptW x), zVr⟩) (by rfl) 95 (0, 0) hq9 _ Tryz.underlying95 rfl infoTmP ?_) | (refine wpList_store_blk (by rfl) 95 (.tmp 2) (.tmp 32) (by rfl) w.heap.size (tmC ⟨3, ix, mkS (ptW x), zVr⟩) (by rfl) (by rfl) _ 95 hr9 (by rfl) infoTmP (tmC_one _) ?_; intro w10 hb10 ht10) | fail)
            have hld := run_loadVar_mid (P := Tryz.prog) w10 w.heap.size 0 95 (tmC ⟨3, ix, mkS (ptW x), zVr⟩) _ (range_blk hb10.out) Tryz.underlying95 rfl infoTmP
            (try go_frame)
            exact bodyPost_ret (v := .agg (tmC ⟨3, ix, mkS (ptW x), zVr⟩).toArray) (by simp [results, Tryz.results162, asAddr, hld]) rfl (PPost.good HTE.out (M9.out.turn ht10.out (Nat.le_refl _)) rfl (P9.out.turned ht10.out (by omega)))
        · have HT : Hid (pTest l = .error (3, x.pos)) := show _ = _ from by
            unfold pTest
            rw [HTO.out, andP_okX, hn, andP_okX, if_neg (by rw [← HXK.out]; exact hk), if_neg (by rw [← HXK.out]; exact h63)]
          have e1 : (X == 48) = false := by simp; omega
          have e2 : (X == 97) = false := by simp; omega
          have e3 : (X == 63) = false := by simp [h63]
          clear hk h63 hn
          go_wp2_with (first | (refine wpList_load_blk (by rfl) 131 (.tmp 4) (by rfl) w5.heap.size L (by rfl) 131 (0, 0) hq6 _ Tryz.underlying131 rfl hLl.1 ?_) | (go_at_call 93; refine (fault_L HLX 3 _).mono ?_; rintro e w7 ⟨rfl, hb7⟩) | fail)
          exact ⟨rfl, PPost.err HT.out (M6.out.trans (MkO.of_below hb7))⟩
set_option maxRecDepth 100000 in
set_option maxHeartbeats 3200000 in
theorem pterm_any (w : World) (pb : Nat) (src : Bs) (a : Option Addr) (c : Nat) (l : List Wd) (R : List Value) (h : PSt w pb src a c l R) : Calls Tryz.prog 138 #[.pointer (some ⟨pb, 0, none⟩)] w (PPost w pb src a c R Rtm (pTerm l)) := by
  have HP := hidX h
  have hpb := h.lt
  clear h
  go_enter Tryz.func138, Tryz.ntmps138
  go_upto_region 1 with fail
  refine lift_alloc ?_
  intro w1 hW1 hq1
  have HPN := hidX (pnext_any w1 pb src a c l R (HP.out.below hW1))
  have M1 := hidX (MkO.of_below hW1 : MkO (some pb) w w1)
  have hrb : w.heap.size < w1.heap.size := lt_of_block' hq1
  have HQ1 := hidX hq1
  clear hW1 hq1
  cases hn : nextW l with
  | error f =>
    have HT : Hid (pTerm l = .error f) := show _ = _ from by unfold pTerm; rw [hn]; rfl
    rw [hn] at HPN
    go_wp2_with (first | (go_at_call 132; refine HPN.out.mono ?_; rintro e w2 ⟨hm2, rfl⟩; unfold fltE) | fail)
    exact ⟨rfl, PPost.err HT.out (M1.out.trans hm2)⟩
  | ok p =>
    obtain ⟨x, l1⟩ := p
    rw [hn] at HPN
    go_upto_region 2 with (first | (go_at_call 132; refine HPN.out.mono ?_; rintro e w2 ⟨hm2, hw2, hp2⟩; replace hw2 : e = .returned (pwA x) := hw2; subst hw2; unfold pwA) | fail)
    refine lift_alloc ?_
    intro w3 hW3 hq3
    obtain ⟨L, X, HLX, hLl, hq3, y0⟩ := wd_box hq3
    have s2 := hm2.rest.size
    have s3 : w2.heap.size < w3.heap.size := lt_of_block' hq3
    have M3 := hidX ((M1.out.trans hm2).trans (MkO.of_below hW3))
    have P3 := hidX (hp2.below hW3)
    have hr3 := (hW3.block w.heap.size (by omega)).trans ((hm2.block w.heap.size hrb (fun e => by injection e; omega)).trans HQ1.out)
    have y2 := (wd_text HLX hq3).1
    have HXK := hidX HLX.out.1
    have HN : Hid (∀ k : Wd → List Wd → Px Tm, andP (nextW l) k = k x l1) := show ∀ k : Wd → List Wd → Px Tm, _ from fun k => by rw [hn]; rfl
    clear hW3 hm2 hp2 HPN HQ1 M1 hn
    by_cases h95 : X = 95
    · have HT : Hid (pTerm l = .ok (⟨0, 0, mkS [], zVr⟩, l1)) := show _ = _ from by unfold pTerm; rw [HN.out, ← HXK.out, if_pos h95]
      have e1 : (X == 95) = true := by simp [h95]
      clear h95
      go_wp2_with (first | (refine wpList_store_blk (by rfl) 95 (.tmp 2) (.tmp 12) (by rfl) w.heap.size (tmC ⟨0, 0, mkS [], zVr⟩) (by rfl) (by rfl) _ 95 hr3 (by rfl) infoTmP (tmC_one _) ?_; intro w4 hb4 ht4) | fail)
      have hld := run_loadVar_mid (P := Tryz.prog) w4 w.heap.size 0 95 (tmC ⟨0, 0, mkS [], zVr⟩) _ (range_blk hb4.out) Tryz.underlying95 rfl infoTmP
      (try go_frame)
      exact bodyPost_ret (v := .agg (tmC ⟨0, 0, mkS [], zVr⟩).toArray) (by simp [results, Tryz.results138, asAddr, hld]) rfl (PPost.good HT.out (M3.out.turn ht4.out (Nat.le_refl _)) rfl (P3.out.turned ht4.out (by omega)))
    have e0 : (X == 95) = false := by simp [h95]
    by_cases hk : X = 48 ∨ X = 97
    · have HT : Hid (pTerm l = .ok (⟨1, 0, mkS [], wVal (pkW x) x.num (ptW x)⟩, l1)) := show _ = _ from by
        unfold pTerm
        rw [HN.out, if_neg (by rw [← HXK.out]; exact h95), if_pos (by rw [← HXK.out]; exact hk)]
      obtain ⟨v, hv⟩ : ∃ v, v = wVal (pkW x) x.num (ptW x) := ⟨_, rfl⟩
      have HVL := hidX (value_L HLX)
      rw [← hv] at HT HVL
      have hor : (X == 48) = true ∨ ((X == 48) = false ∧ (X == 97) = true) := by
        rcases hk with h | h
        · exact .inl (by simp [h])
        · exact .inr ⟨by simp [h], by simp [h]⟩
      clear hk hv h95
      rcases hor with e1 | ⟨e1, e2⟩
      all_goals
        go_wp2_with (first | (refine wpList_load_blk (by rfl) 131 (.tmp 3) (by rfl) w2.heap.size L (by rfl) 131 (0, 0) hq3 _ Tryz.underlying131 rfl hLl.1 ?_) | (go_at_call 133; refine (HVL.out _).mono ?_; intro e w4 hv4; obtain ⟨he4, hb4⟩ := hv4; replace he4 : e = .returned (.agg #[.int .i64 v.kind, .int .i64 v.num, .string v.sym]) := he4; subst he4; have hr4 := (hb4.block w.heap.size (by omega)).trans hr3) | (refine wpList_store_blk (by rfl) 95 (.tmp 2) (.tmp 18) (by rfl) w.heap.size (tmC ⟨1, 0, mkS [], v⟩) (by rfl) (by rfl) _ 95 hr4 (by rfl) infoTmP (tmC_one _) ?_; intro w5 hb5 ht5) | fail)
        have hld := run_loadVar_mid (P := Tryz.prog) w5 w.heap.size 0 95 (tmC ⟨1, 0, mkS [], v⟩) _ (range_blk hb5.out) Tryz.underlying95 rfl infoTmP
        (try go_frame)
        exact bodyPost_ret (v := .agg (tmC ⟨1, 0, mkS [], v⟩).toArray) (by simp [results, Tryz.results138, asAddr, hld]) rfl (PPost.good HT.out ((M3.out.trans (MkO.of_below hb4)).turn ht5.out (Nat.le_refl _)) rfl ((P3.out.below hb4).turned ht5.out (by omega)))
    have e1 : (X == 48) = false := by simp; omega
    have e2 : (X == 97) = false := by simp; omega
    by_cases h63 : X = 63
    · have HT : Hid (pTerm l = .ok (⟨2, 0, mkS (ptW x), zVr⟩, l1)) := show _ = _ from by
        unfold pTerm
        rw [HN.out, if_neg (by rw [← HXK.out]; exact h95), if_neg (by rw [← HXK.out]; exact hk), if_pos (by rw [← HXK.out]; exact h63)]
      have e3 : (X == 63) = true := by simp [h63]
      clear hk h95 h63
      go_wp2_with (first | (refine wpList_store_blk (by rfl) 95 (.tmp 2) (.tmp 23) (by rfl) w.heap.size (tmC ⟨2, 0, mkS (ptW x), zVr⟩) (by rfl) (by rfl) _ 95 hr3 (by rfl) infoTmP (tmC_one _) ?_; intro w4 hb4 ht4) | fail)
      have hld := run_loadVar_mid (P := Tryz.prog) w4 w.heap.size 0 95 (tmC ⟨2, 0, mkS (ptW x), zVr⟩) _ (range_blk hb4.out) Tryz.underlying95 rfl infoTmP
      (try go_frame)
      exact bodyPost_ret (v := .agg (tmC ⟨2, 0, mkS (ptW x), zVr⟩).toArray) (by simp [results, Tryz.results138, asAddr, hld]) rfl (PPost.good HT.out (M3.out.turn ht4.out (Nat.le_refl _)) rfl (P3.out.turned ht4.out (by omega)))
    have e3 : (X == 63) = false := by simp [h63]
    by_cases h40 : X = 40
    · have HT : Hid (pTerm l = pTest l1) := show _ = _ from by
        unfold pTerm
        rw [HN.out, if_neg (by rw [← HXK.out]; exact h95), if_neg (by rw [← HXK.out]; exact hk), if_neg (by rw [← HXK.out]; exact h63), if_pos (by rw [← HXK.out]; exact h40)]
      have e4 : (X == 40) = true := by simp [h40]
      have HTS := hidX (ptest_any w3 pb src a c l1 R P3.out)
      clear hk h95 h63 h40
      cases hc : pTest l1 with
      | error f =>
        have HTE : Hid (pTerm l = .error f) := show _ = _ from by rw [HT.out, hc]
        rw [hc] at HTS
        go_wp2_with (first | (go_at_call 162; refine HTS.out.mono ?_; rintro e w4 ⟨hm4, rfl⟩; unfold fltE) | fail)
        exact ⟨rfl, PPost.err HTE.out (M3.out.trans hm4)⟩
      | ok q =>
        obtain ⟨tm, l2⟩ := q
        have HTE : Hid (pTerm l = .ok (tm, l2)) := show _ = _ from by rw [HT.out, hc]
        rw [hc] at HTS
        go_wp2_with (first | (go_at_call 162; refine HTS.out.mono ?_; rintro e w4 ⟨hm4, he4, hp4⟩; replace he4 : e = .returned (.agg (tmC tm).toArray) := he4; subst he4; have s4 := hm4.rest.size; have hr4 := (hm4.block w.heap.size (by omega) (fun e => by injection e; omega)).trans hr3) | (refine wpList_store_blk (by rfl) 95 (.tmp 2) (.tmp 27) (by rfl) w.heap.size (tmC tm) (by rfl) (by rfl) _ 95 hr4 (by rfl) infoTmP (tmC_one _) ?_; intro w5 hb5 ht5) | fail)
        have hld := run_loadVar_mid (P := Tryz.prog) w5 w.heap.size 0 95 (tmC tm) _ (range_blk hb5.out) Tryz.underlying95 rfl infoTmP
        (try go_frame)
        exact bodyPost_ret (v := .agg (tmC tm).toArray) (by simp [results, Tryz.results138, asAddr, hld]) rfl (PPost.good HTE.out ((M3.out.trans hm4).turn ht5.out (Nat.le_refl _)) rfl (hp4.turned ht5.out (by omega)))
    · have HT : Hid (pTerm l = .error (3, x.pos)) := show _ = _ from by
        unfold pTerm
        rw [HN.out, if_neg (by rw [← HXK.out]; exact h95), if_neg (by rw [← HXK.out]; exact hk), if_neg (by rw [← HXK.out]; exact h63), if_neg (by rw [← HXK.out]; exact h40)]
      have e4 : (X == 40) = false := by simp [h40]
      clear hk h95 h63 h40
      go_wp2_with (first | (refine wpList_load_blk (by rfl) 131 (.tmp 3) (by rfl) w2.heap.size L (by rfl) 131 (0, 0) hq3 _ Tryz.underlying131 rfl hLl.1 ?_) | (go_at_call 93; refine (fault_L HLX 3 _).mono ?_; rintro e w4 ⟨rfl, hb4⟩) | fail)
      exact ⟨rfl, PPost.err HT.out (M3.out.trans (MkO.of_below hb4))⟩
end Go.Proofs.YtjjjagepnnbebaaGreatDoor

namespace Go.Proofs.YtjjjagepnnbebaaGreatDoor

/-- An operation, behind its '('. -/
def pOp (f : Nat) (s : ES) (l : List Wd) : Px (Ex × ES) := andP (takeW 43 l) fun o l1 => andP (pExpr f s l1) fun p l2 => andP (pExpr f p.2 l2) fun q l3 => andP (takeW 41 l3) fun _ l4 => .ok ((⟨2, (((ptW o).headD 0).toNat : Int), mkS [], zVr, p.1, q.1⟩, q.2), l4)
theorem pExpr_bad {f : Nat} {s : ES} {l : List Wd} {e : Flt} (h : boundW (s.2 : Int) 60 l = .error e) : pExpr f s l = .error e := by
  unfold pExpr
  rw [h]
theorem pExpr_next {f : Nat} {s : ES} {l : List Wd} {u : Unit × List Wd} {e : Flt} (hb : boundW (s.2 : Int) 60 l = .ok u) (h : nextW l = .error e) : pExpr f s l = .error e := by
  unfold pExpr
  rw [hb, h]
theorem pExpr_const {f : Nat} {s : ES} {l l1 : List Wd} {u : Unit × List Wd} {x : Wd} (hb : boundW (s.2 : Int) 60 l = .ok u) (h : nextW l = .ok (x, l1)) (hk : pkW x = 48 ∨ pkW x = 97) : pExpr f s l = .ok (((s.1.length : Int), (s.1 ++ [⟨0, 0, mkS [], wVal (pkW x) x.num (ptW x), 0, 0⟩], s.2 + 1)), l1) := by
  unfold pExpr
  rw [hb, h]
  simp only
  rw [if_pos hk]
theorem pExpr_var {f : Nat} {s : ES} {l l1 : List Wd} {u : Unit × List Wd} {x : Wd} (hb : boundW (s.2 : Int) 60 l = .ok u) (h : nextW l = .ok (x, l1)) (hk : pkW x = 63) : pExpr f s l = .ok (((s.1.length : Int), (s.1 ++ [⟨1, 0, mkS (ptW x), zVr, 0, 0⟩], s.2 + 1)), l1) := by
  unfold pExpr
  rw [hb, h]
  simp only
  rw [if_neg (by omega), if_pos hk]
theorem pExpr_deep {s : ES} {l l1 : List Wd} {u : Unit × List Wd} {x : Wd} (hb : boundW (s.2 : Int) 60 l = .ok u) (h : nextW l = .ok (x, l1)) (hk : pkW x = 40) : pExpr 0 s l = .error (4, x.pos) := by
  unfold pExpr
  rw [hb, h]
  simp only
  rw [if_neg (by omega), if_neg (by omega), if_pos hk]
theorem pExpr_op {f : Nat} {s : ES} {l l1 : List Wd} {u : Unit × List Wd} {x : Wd} (hb : boundW (s.2 : Int) 60 l = .ok u) (h : nextW l = .ok (x, l1)) (hk : pkW x = 40) : pExpr (f + 1) s l = andP (pOp f (s.1, s.2 + 1) l1) fun q l5 => .ok (((q.2.1.length : Int), (q.2.1 ++ [q.1], q.2.2)), l5) := by
  rw [pExpr.eq_def]
  simp only [hb, h]
  rw [if_neg (by omega), if_neg (by omega), if_pos hk]
  unfold pOp
  cases takeW 43 l1 with
  | error e => rfl
  | ok q =>
    obtain ⟨o, l2⟩ := q
    simp only [andP]
    cases pExpr f (s.1, s.2 + 1) l2 with
    | error e => rfl
    | ok q =>
      obtain ⟨⟨i, s1⟩, l3⟩ := q
      simp only
      cases pExpr f s1 l3 with
      | error e => rfl
      | ok q =>
        obtain ⟨⟨j, s2⟩, l4⟩ := q
        simp only
        cases takeW 41 l4 with
        | error e => rfl
        | ok q => rfl
theorem pExpr_else {f : Nat} {s : ES} {l l1 : List Wd} {u : Unit × List Wd} {x : Wd} (hb : boundW (s.2 : Int) 60 l = .ok u) (h : nextW l = .ok (x, l1)) (h1 : ¬ (pkW x = 48 ∨ pkW x = 97)) (h2 : pkW x ≠ 63) (h3 : pkW x ≠ 40) : pExpr f s l = .error (3, x.pos) := by
  cases f <;> (unfold pExpr; rw [hb, h]; simp only; rw [if_neg h1, if_neg h2, if_neg h3])
theorem bound_lt {n : Nat} {l l1 : List Wd} {u : Unit × List Wd} {x : Wd} (hb : boundW (n : Int) 60 l = .ok u) (h : nextW l = .ok (x, l1)) (h41 : pkW x ≠ 41) (h0 : pkW x ≠ 0) : n < 60 := by
  unfold boundW at hb
  rw [h] at hb
  simp only at hb
  split at hb
  · cases hb
  · rename_i hc
    apply Classical.byContradiction
    intro hq
    exact hc ⟨by omega, h41, h0⟩
theorem bound_same {n : Int} {l : List Wd} {u : Unit × List Wd} (hb : boundW n 60 l = .ok u) : u = ((), l) := by
  unfold boundW at hb
  cases hr : nextW l with
  | error f => rw [hr] at hb; cases hb
  | ok q =>
    rw [hr] at hb
    simp only at hb
    split at hb
    · cases hb
    · injection hb with hb
      exact hb.symm
/-- How many exprs there are, against how many have begun; k: operations that have not ended. -/
theorem pExpr_inv : ∀ (f : Nat) (s : ES) (l l' : List Wd) (k : Nat) (i : Int) (s' : ES), s.1.length + k ≤ s.2 → s.2 ≤ 60 → pExpr f s l = .ok ((i, s'), l') → s'.1.length + k ≤ s'.2 ∧ s'.2 ≤ 60 := by
  intro f
  induction f with
  | zero =>
    intro s l l' k i s' h1 h2 h
    cases hb : boundW (s.2 : Int) 60 l with
    | error e => rw [pExpr_bad hb] at h; cases h
    | ok u =>
      cases hn : nextW l with
      | error e => rw [pExpr_next hb hn] at h; cases h
      | ok q =>
        obtain ⟨x, l1⟩ := q
        by_cases hk : pkW x = 48 ∨ pkW x = 97
        · have hlt := bound_lt hb hn (by omega) (by omega)
          rw [pExpr_const hb hn hk] at h
          injection h with h
          injection h with h _
          injection h with _ h
          subst h
          simp
          omega
        · by_cases h63 : pkW x = 63
          · have hlt := bound_lt hb hn (by omega) (by omega)
            rw [pExpr_var hb hn h63] at h
            injection h with h
            injection h with h _
            injection h with _ h
            subst h
            simp
            omega
          · by_cases h40 : pkW x = 40
            · rw [pExpr_deep hb hn h40] at h
              cases h
            · rw [pExpr_else hb hn hk h63 h40] at h
              cases h
  | succ f ih =>
    intro s l l' k i s' h1 h2 h
    cases hb : boundW (s.2 : Int) 60 l with
    | error e => rw [pExpr_bad hb] at h; cases h
    | ok u =>
      cases hn : nextW l with
      | error e => rw [pExpr_next hb hn] at h; cases h
      | ok q =>
        obtain ⟨x, l1⟩ := q
        by_cases hk : pkW x = 48 ∨ pkW x = 97
        · have hlt := bound_lt hb hn (by omega) (by omega)
          rw [pExpr_const hb hn hk] at h
          injection h with h
          injection h with h _
          injection h with _ h
          subst h
          simp
          omega
        · by_cases h63 : pkW x = 63
          · have hlt := bound_lt hb hn (by omega) (by omega)
            rw [pExpr_var hb hn h63] at h
            injection h with h
            injection h with h _
            injection h with _ h
            subst h
            simp
            omega
          · by_cases h40 : pkW x = 40
            · have hlt := bound_lt hb hn (by omega) (by omega)
              rw [pExpr_op hb hn h40] at h
              unfold pOp at h
              cases ht : takeW 43 l1 with
              | error e => rw [ht] at h; cases h
              | ok q =>
                obtain ⟨o, l2⟩ := q
                rw [ht] at h
                simp only [andP] at h
                cases he : pExpr f (s.1, s.2 + 1) l2 with
                | error e => rw [he] at h; cases h
                | ok q =>
                  obtain ⟨⟨i1, s1⟩, l3⟩ := q
                  rw [he] at h
                  simp only at h
                  obtain ⟨j1, j2⟩ := ih (s.1, s.2 + 1) l2 l3 (k + 1) i1 s1 (by simp; omega) (by simp; omega) he
                  cases he2 : pExpr f s1 l3 with
                  | error e => rw [he2] at h; cases h
                  | ok q =>
                    obtain ⟨⟨i2, s2⟩, l4⟩ := q
                    rw [he2] at h
                    simp only at h
                    obtain ⟨j3, j4⟩ := ih s1 l3 l4 (k + 1) i2 s2 j1 j2 he2
                    cases hc : takeW 41 l4 with
                    | error e => rw [hc] at h; cases h
                    | ok q =>
                      rw [hc] at h
                      simp only at h
                      injection h with h
                      injection h with h _
                      injection h with _ h
                      subst h
                      simp
                      omega
            · rw [pExpr_else hb hn hk h63 h40] at h
              cases h
end Go.Proofs.YtjjjagepnnbebaaGreatDoor
