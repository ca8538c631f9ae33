/-
  OUR OWN TEXT. Pt2, Pt3, one behind the other.
-/
import Derived.Test.YtjjjagepnnbebaaGreatDoorKbf
namespace Go.Proofs.YtjjjagepnnbebaaGreatDoor
open Go.RowKit
attribute [local go_sem ↓] Go.wp_at_zero Go.wp_at_succ

theorem infoTF1 : (Tryz.prog.info? 95).map (fun i => (i.zero, i.size, i.bytes)) = some (some (.agg #[.int .i64 0, .int .i64 0, .string ⟨#[]⟩, .int .i64 0, .int .i64 0, .string ⟨#[]⟩]), 6, 64) := by kernel_rfl
def Rts (B : Nat) (vs : List Tm) (e : Ending) (w' : World) : Prop := ∃ la lc, e = .returned (.slice la vs.length lc) ∧ w'.ownsRow B 95 6 (.slice la vs.length lc) vs.length (vs.flatMap tmC)
theorem pTerm_end {l r : List Wd} {x : Wd} (h : nextW l = .ok (x, r)) (hx : pkW x = 0) : pTerm l = .error (3, x.pos) := by
  unfold pTerm
  rw [h, andP_okX]
  simp [hx]
set_option maxRecDepth 100000 in
set_option maxHeartbeats 3200000 in
theorem readTerms_any (w : World) (pb : Nat) (src : Bs) (a : Option Addr) (c : Nat) (l : List Wd) (R : List Value) (h : PSt w pb src a c l R) : Calls Tryz.prog 137 #[.pointer (some ⟨pb, 0, none⟩), .func (.func 138) #[.pointer (some ⟨pb, 0, none⟩)] #[]] w (PPost w pb src a c R (Rts w.heap.size) (pList pTerm 6 l)) := by
  have HP := hidX h
  have hpb := h.lt
  clear h
  go_enter Tryz.func137, Tryz.ntmps137
  go_wp2_with fail
  go_loopw [5] (fun v wr => ∃ (la : Option Addr) (lc n : Nat) (M : List Tm) (l' : List Wd), M.length + n = 6 ∧ v = .slice la M.length lc ∧ wr.ownsRow w.heap.size 95 6 (.slice la M.length lc) M.length (M.flatMap tmC) ∧ PSt wr pb src a c l' R ∧ MkO (some pb) w wr ∧ pList pTerm 6 l = preL M (pList pTerm n l')) (fun v _ => 6 - sliceLen v)
  case atStart => exact ⟨none, 0, 6, [], l, rfl, rfl, World.ownsRow_nil _ _ _ _, HP.out, MkO.refl _ _, by unfold preL; cases pList pTerm 6 l <;> rfl⟩
  case round =>
    obtain ⟨la, lc, n, M, l', hMn, rfl, hown, hps, hmk, hpl⟩ := hrel
    have OW := hidX hown
    have PS := hidX hps
    have MK := hidX hmk
    have PL := hidX hpl
    have HAH := hidX (ahead_any wr pb src a c l' R 41 hps)
    clear hown hps hmk hpl
    cases hr : nextW l' with
    | error f =>
      have HT : Hid (pList pTerm 6 l = .error f) := show _ = _ from by rw [PL.out, pList_err hr]; rfl
      rw [hr] at HAH
      go_wp2_with (first | (go_at_call 46; refine HAH.out.mono ?_; rintro e w2 ⟨hb2, rfl⟩; unfold fltE) | fail)
      exact ⟨rfl, PPost.err HT.out (MK.out.trans (MkO.of_below hb2))⟩
    | ok p =>
      obtain ⟨x, r⟩ := p
      rw [hr] at HAH
      by_cases hx : pkW x = 41
      · have HT : Hid (pList pTerm 6 l = .ok (M, r)) := show _ = _ from by rw [PL.out, pList_end hr hx]; simp [preL]
        replace HAH : Hid (Calls Tryz.prog 46 #[.pointer (some ⟨pb, 0, none⟩), .int .i32 41] wr fun e w' => Below wr.heap.size wr w' ∧ e = .returned (.bool true)) := by
          rw [← decide_eq_true hx]
          exact HAH
        have HTK := hidX (fun u (hu : Below wr.heap.size wr u) => take_any u pb src a c l' R 41 (PS.out.below hu))
        rw [show takeW 41 l' = .ok (x, r) by unfold takeW; rw [hr]; simp [hx]] at HTK
        clear hx
        go_wp2_with (first | (go_at_call 46; refine HAH.out.mono ?_; rintro e w2 ⟨hb2, rfl⟩) | (go_at_call 85; refine (HTK.out _ hb2).mono ?_; rintro e w4 ⟨hm4, hw4, hp4⟩; replace hw4 : e = .returned (pwA x) := hw4; subst hw4) | fail)
        go_ret
        exact PPost.good HT.out ((MK.out.trans (MkO.of_below hb2)).trans hm4) ⟨la, lc, rfl, own_mko (own_bel OW.out hb2) hm4 hpb⟩ hp4
      · replace HAH : Hid (Calls Tryz.prog 46 #[.pointer (some ⟨pb, 0, none⟩), .int .i32 41] wr fun e w' => Below wr.heap.size wr w' ∧ e = .returned (.bool false)) := by
          rw [← decide_eq_false hx]
          exact HAH
        have HBN := hidX (fun u (hu : Below wr.heap.size wr u) => bound_any u pb src a c l' R (M.length : Int) 6 (PS.out.below hu))
        have HVA := hidX (fun u (hu : PSt u pb src a c l' R) => pterm_any u pb src a c l' R hu)
        by_cases hn : n = 0 ∧ pkW x ≠ 0
        · have HT : Hid (pList pTerm 6 l = .error (4, x.pos)) := show _ = _ from by rw [PL.out, hn.1, pList_zero hr hx, if_neg hn.2]; rfl
          rw [show boundW (M.length : Int) 6 l' = .error (4, x.pos) by unfold boundW; rw [hr]; simp only; rw [if_pos ⟨by omega, hx, hn.2⟩]] at HBN
          clear hx hn
          go_wp2_with (first | (go_at_call 46; refine HAH.out.mono ?_; rintro e w2 ⟨hb2, rfl⟩) | (go_at_call 130; refine (HBN.out _ hb2).mono ?_; rintro e w3 ⟨hm3, rfl⟩; unfold fltE) | fail)
          exact ⟨rfl, PPost.err HT.out ((MK.out.trans (MkO.of_below hb2)).trans hm3)⟩
        · rw [show boundW (M.length : Int) 6 l' = .ok ((), l') by
            unfold boundW
            rw [hr]
            simp only
            rw [if_neg]
            rintro ⟨h1, h2, h3⟩
            exact hn ⟨by omega, h3⟩] at HBN
          cases hv : pTerm l' with
          | error f =>
            have HT : Hid (pList pTerm 6 l = .error f) := show _ = _ from by
              rw [PL.out]
              cases n with
              | zero =>
                have h0 : pkW x = 0 := Classical.byContradiction fun h => hn ⟨rfl, h⟩
                rw [pList_zero hr hx, if_pos h0]
                rw [pTerm_end hr h0] at hv
                injection hv with hv
                rw [hv]
                rfl
              | succ n =>
                rw [pList_bad hr hx hv]
                rfl
            rw [hv] at HVA
            clear hx hn
            go_wp2_with (first | (go_at_call 46; refine HAH.out.mono ?_; rintro e w2 ⟨hb2, rfl⟩) | (go_at_call 130; refine (HBN.out _ hb2).mono ?_; rintro e w3 ⟨hm3, rfl, hp3⟩) | (go_at_call 138; refine (HVA.out _ hp3).mono ?_; rintro e w4 ⟨hm4, rfl⟩; unfold fltE) | fail)
            exact ⟨rfl, PPost.err HT.out (((MK.out.trans (MkO.of_below hb2)).trans hm3).trans hm4)⟩
          | ok p =>
            obtain ⟨v, l1⟩ := p
            rw [hv] at HVA
            obtain ⟨n, rfl⟩ : ∃ n', n = n' + 1 := by
              cases n with
              | zero =>
                have h0 : pkW x = 0 := Classical.byContradiction fun h => hn ⟨rfl, h⟩
                rw [pTerm_end hr h0] at hv
                cases hv
              | succ n => exact ⟨n, rfl⟩
            have PL2 := hidX (PL.out.trans (pList_step (M := M) hr hx hv))
            clear hx hn hv
            go_wp2_with (first | (go_at_call 46; refine HAH.out.mono ?_; rintro e w2 ⟨hb2, rfl⟩) | (go_at_call 130; refine (HBN.out _ hb2).mono ?_; rintro e w3 ⟨hm3, rfl, hp3⟩) | (go_at_call 138; refine (HVA.out _ hp3).mono ?_; rintro e w4 ⟨hm4, hw4, hp4⟩; replace hw4 : e = .returned (.agg #[.int .i64 v.kind, .int .i64 v.op, .string v.var, .int .i64 v.val.kind, .int .i64 v.val.num, .string v.val.sym]) := hw4; subst hw4; have M4 := hidX (((MK.out.trans (MkO.of_below hb2)).trans hm3).trans hm4); have OW4 := hidX (own_mko (own_mko (own_bel OW.out hb2) hm3 hpb) hm4 hpb); have hsz4 := M4.out.rest.size; have HA4 := hidX (fun o' => (Below.refl _ _).alloc (Nat.le_refl _) o' : ∀ o', Below w4.heap.size w4 (w4.alloc o'))) | (at_builtin; refine wpList_append_any (by rfl) (.tmp 13) (.tmp 16) 76 (by rfl) w.heap.size 95 _ 6 64 Tryz.underlying76 infoTF1 (by rfl) (by omega) _ M.length _ (by rfl) (own_bel OW4.out (HA4.out _)) (some ⟨_, 0, none⟩) 1 1 (by rfl) (tmC v) (by rfl) (fun e => by cases e) (news_new _ _ _ _ (by simp)) (tmC_one v) (by unfold maxLen; omega) (by omega) (by simp; omega) ?_; intro a3 c3 w5 ho5 hg5 hl5) | fail)
            have hrow : ∀ k, (Value.slice la M.length lc).ownBlock = some k → w.heap.size ≤ k := fun k hk => (OW4.out.lt k hk).1
            have M5 := hidX ((M4.out.trans (MkO.of_below (HA4.out _))).grown hg5.out hrow)
            have P5 := hidX ((hp4.below (HA4.out _)).keep ((Below.refl _ _).grown hg5.out (by simp; omega) (fun k hk => by have := hrow k hk; omega)))
            go_roundw
            case rel => exact ⟨a3, c3, n, M ++ [v], l1, by simp; omega, by simp, by simpa using ho5.out, P5.out, M5.out, PL2.out⟩
            case measure => (simp [sliceLen]; omega)
end Go.Proofs.YtjjjagepnnbebaaGreatDoor

namespace Go.Proofs.YtjjjagepnnbebaaGreatDoor
open Go.RowKit
attribute [local go_sem ↓] Go.wp_at_zero Go.wp_at_succ

def ptP (x : Pt) (v : Value) : List Value := [.bool x.neg, .string x.cls, v]
theorem ptP_one (x : Pt) (a : Option Addr) (n c : Nat) : ∀ v ∈ ptP x (.slice a n c), v.oneCell' = true := by
  intro v hv
  simp [ptP] at hv
  rcases hv with rfl | rfl | rfl <;> rfl
theorem infoPtP : (Tryz.prog.info? 78).map (·.size) = some 3 := by kernel_rfl
/-- A pattern that was read: its terms are owned. -/
def Rpt (B : Nat) (x : Pt) (e : Ending) (w' : World) : Prop := ∃ la lc, e = .returned (.agg (ptP x (.slice la x.terms.length lc)).toArray) ∧ w'.ownsRow B 95 6 (.slice la x.terms.length lc) x.terms.length (x.terms.flatMap tmC)
set_option maxRecDepth 100000 in
set_option maxHeartbeats 3200000 in
theorem ppattern_any (w : World) (pb : Nat) (src : Bs) (a : Option Addr) (c : Nat) (l : List Wd) (R : List Value) (h : PSt w pb src a c l R) : Calls Tryz.prog 94 #[.pointer (some ⟨pb, 0, none⟩)] w (PPost w pb src a c R (Rpt w.heap.size) (pPat l)) := by
  have hwf2 := wfield2
  have hmf : ∀ (fn : Fn) (first cap : Array Value) (w : World), (Instr.makeFunc fn first cap).run Tryz.prog w = .ok (.func fn first cap) w := fun _ _ _ _ => rfl
  have HP := hidX h
  have hpb := h.lt
  clear h
  go_enter Tryz.func94, Tryz.ntmps94
  go_upto_region 1 with fail
  refine lift_alloc ?_
  intro w1 hW1 hq1
  have HTK := hidX (take_any w1 pb src a c l R 97 (HP.out.below hW1))
  have M1 := hidX (MkO.of_below hW1 : MkO (some pb) w w1)
  have hrb : w.heap.size < w1.heap.size := lt_of_block' hq1
  have HQ1 := hidX hq1
  clear hW1 hq1
  cases hr : takeW 97 l with
  | error f =>
    have HT : Hid (pPat l = .error f) := show _ = _ from by unfold pPat; rw [hr]; rfl
    rw [hr] at HTK
    go_wp2_with (first | (go_at_call 85; refine HTK.out.mono ?_; rintro e w2 ⟨hm2, rfl⟩; unfold fltE) | fail)
    exact ⟨rfl, PPost.err HT.out (M1.out.trans hm2)⟩
  | ok p =>
    obtain ⟨x, l1⟩ := p
    rw [hr] at HTK
    go_upto_region 2 with (first | (go_at_call 85; refine HTK.out.mono ?_; rintro e w2 ⟨hm2, hw2, hp2⟩; replace hw2 : e = .returned (pwA x) := hw2; subst hw2; unfold pwA) | fail)
    have hbq := beq_lit (mkS (ptW x)) notT
    rw [bs_mkS] at hbq
    have s2 := hm2.rest.size
    have M2 := hidX (M1.out.trans hm2)
    have P2 := hidX hp2
    have HRB := hidX ((hm2.block w.heap.size hrb (fun e => by injection e; omega)).trans HQ1.out)
    clear hm2 hp2 HTK HQ1 M1
    by_cases hk : ptW x = notT
    · have HT : Hid (pPat l = andP (pClass l1) fun c l2 => andP (pList pTerm 6 l2) fun ts l3 => .ok (⟨true, mkS c, ts⟩, l3)) := show _ = _ from by unfold pPat; rw [hr, andP_okX, if_pos hk]
      rw [decide_eq_true hk] at hbq
      replace hbq : ((mkS (ptW x)).toList == [110, 111, 116]) = true := hbq
      clear hk hr
      have HCL := hidX (class_any w2 pb src a c l1 R P2.out)
      cases hc : pClass l1 with
      | error f =>
        have HTE : Hid (pPat l = .error f) := show _ = _ from by rw [HT.out, hc]; rfl
        rw [hc] at HCL
        go_wp2_with (first | (go_at_call 81; refine HCL.out.mono ?_; rintro e w3 ⟨hm3, rfl⟩; unfold fltE) | fail)
        exact ⟨rfl, PPost.err HTE.out (M2.out.trans hm3)⟩
      | ok q =>
        obtain ⟨t, l2⟩ := q
        rw [hc] at HCL
        have HTL := hidX (fun u (hu : PSt u pb src a c l2 R) => readTerms_any u pb src a c l2 R hu)
        cases hd : pList pTerm 6 l2 with
        | error f =>
          have HTE : Hid (pPat l = .error f) := show _ = _ from by rw [HT.out, hc, andP_okX, hd]; rfl
          rw [hd] at HTL
          go_wp2_with (first | (go_at_call 81; refine HCL.out.mono ?_; rintro e w3 ⟨hm3, he3, hp3⟩; replace he3 : e = .returned (.string (mkS t)) := he3; subst he3) | (go_at_call 137; refine (HTL.out _ hp3).mono ?_; rintro e w4 ⟨hm4, rfl⟩; unfold fltE) | fail)
          exact ⟨rfl, PPost.err HTE.out ((M2.out.trans hm3).trans hm4)⟩
        | ok q =>
          obtain ⟨ts, l3⟩ := q
          have HTE : Hid (pPat l = .ok (⟨true, mkS t, ts⟩, l3)) := show _ = _ from by rw [HT.out, hc, andP_okX, hd]; rfl
          rw [hd] at HTL
          go_wp2_with (first | (go_at_call 81; refine HCL.out.mono ?_; rintro e w3 ⟨hm3, he3, hp3⟩; replace he3 : e = .returned (.string (mkS t)) := he3; subst he3) | (go_at_call 137; refine (HTL.out _ hp3).mono ?_; rintro e w4 ⟨hm4, ⟨la, lc, rfl, ho4⟩, hp4⟩; have s3 := hm3.rest.size; have s4 := hm4.rest.size; have hr4 := ((hm3.trans hm4).block w.heap.size (by omega) (fun e => by injection e; omega)).trans HRB.out) | (refine wpList_store_blk (by rfl) 78 (.tmp 2) (.tmp 15) (by rfl) w.heap.size (ptP ⟨true, mkS t, ts⟩ (.slice la ts.length lc)) (by rfl) (by rfl) _ 78 hr4 (by rfl) infoPtP (ptP_one _ _ _ _) ?_; intro w5 hb5 ht5) | fail)
          have hld := run_loadVar_mid (P := Tryz.prog) w5 w.heap.size 0 78 (ptP ⟨true, mkS t, ts⟩ (.slice la ts.length lc)) _ (range_blk hb5.out) Tryz.underlying78 rfl infoPtP
          (try go_frame)
          exact bodyPost_ret (v := .agg (ptP ⟨true, mkS t, ts⟩ (.slice la ts.length lc)).toArray) (by simp [results, Tryz.results94, asAddr, hld]) rfl (PPost.good HTE.out (((M2.out.trans hm3).trans hm4).turn ht5.out (Nat.le_refl _)) ⟨la, lc, rfl, owns_base (own_turn ho4 ht5.out hr4 (by decide)) (by omega)⟩ (hp4.turned ht5.out (by omega)))
    · have HT : Hid (pPat l = andP (pList pTerm 6 l1) fun ts l3 => .ok (⟨false, mkS (ptW x), ts⟩, l3)) := show _ = _ from by unfold pPat; rw [hr, andP_okX, if_neg hk]
      rw [decide_eq_false hk] at hbq
      replace hbq : ((mkS (ptW x)).toList == [110, 111, 116]) = false := hbq
      clear hk hr
      have HTL := hidX (readTerms_any w2 pb src a c l1 R P2.out)
      cases hd : pList pTerm 6 l1 with
      | error f =>
        have HTE : Hid (pPat l = .error f) := show _ = _ from by rw [HT.out, hd]; rfl
        rw [hd] at HTL
        go_wp2_with (first | (go_at_call 137; refine HTL.out.mono ?_; rintro e w4 ⟨hm4, rfl⟩; unfold fltE) | fail)
        exact ⟨rfl, PPost.err HTE.out (M2.out.trans hm4)⟩
      | ok q =>
        obtain ⟨ts, l3⟩ := q
        have HTE : Hid (pPat l = .ok (⟨false, mkS (ptW x), ts⟩, l3)) := show _ = _ from by rw [HT.out, hd]; rfl
        rw [hd] at HTL
        go_wp2_with (first | (go_at_call 137; refine HTL.out.mono ?_; rintro e w4 ⟨hm4, ⟨la, lc, rfl, ho4⟩, hp4⟩; have s4 := hm4.rest.size; have hr4 := (hm4.block w.heap.size (by omega) (fun e => by injection e; omega)).trans HRB.out) | (refine wpList_store_blk (by rfl) 78 (.tmp 2) (.tmp 21) (by rfl) w.heap.size (ptP ⟨false, mkS (ptW x), ts⟩ (.slice la ts.length lc)) (by rfl) (by rfl) _ 78 hr4 (by rfl) infoPtP (ptP_one _ _ _ _) ?_; intro w5 hb5 ht5) | fail)
        have hld := run_loadVar_mid (P := Tryz.prog) w5 w.heap.size 0 78 (ptP ⟨false, mkS (ptW x), ts⟩ (.slice la ts.length lc)) _ (range_blk hb5.out) Tryz.underlying78 rfl infoPtP
        (try go_frame)
        exact bodyPost_ret (v := .agg (ptP ⟨false, mkS (ptW x), ts⟩ (.slice la ts.length lc)).toArray) (by simp [results, Tryz.results94, asAddr, hld]) rfl (PPost.good HTE.out ((M2.out.trans hm4).turn ht5.out (Nat.le_refl _)) ⟨la, lc, rfl, owns_base (own_turn ho4 ht5.out hr4 (by decide)) (by omega)⟩ (hp4.turned ht5.out (by omega)))
end Go.Proofs.YtjjjagepnnbebaaGreatDoor
