/-
  OUR OWN TEXT. The model's ParseScript (written by genmq8.py).
-/
import Derived.Test.YtdhpoagjmiligaaGreatDoorKbf
import Derived.Test.YtdhpoagjmiligaaGreatDoorKbc
namespace Go.Proofs.YtdhpoagjmiligaaGreatDoor
open Go.RowKit
attribute [local go_sem ↓] Go.wp_at_zero Go.wp_at_succ

/-- Commands up to the end, as the model reads them. -/
def mCmds : Nat → List Wd → Px (List Cd)
  | 0, l => match nextW l with
    | .error f => .error f
    | .ok (x, _) => if x.kind = 0 then .ok ([], l) else if x.kind = 1 then .error (4, x.pos) else .error (3, x.pos)
  | n + 1, l => match nextW l with
    | .error f => .error f
    | .ok (x, _) => if x.kind = 0 then .ok ([], l) else match cmdM l with
      | .error f => .error f
      | .ok (v, l2) => match mCmds n l2 with
        | .error f => .error f
        | .ok (vs, l3) => .ok (v :: vs, l3)
theorem mCmds_err {n : Nat} {l : List Wd} {f : Flt} (h : nextW l = .error f) : mCmds n l = .error f := by
  cases n <;> simp [mCmds, h]
theorem mCmds_end {n : Nat} {l r : List Wd} {x : Wd} (h : nextW l = .ok (x, r)) (hx : x.kind = 0) : mCmds n l = .ok ([], l) := by
  cases n <;> simp [mCmds, h, hx]
theorem cmdM_not {l r : List Wd} {x : Wd} (h : nextW l = .ok (x, r)) (hx : pkW x ≠ 40) : cmdM l = .error (3, x.pos) := by
  unfold cmdM
  rw [takeW_not h hx]
  rfl
/-- What is done ahead of a command: the limit. -/
def limS (n : Nat) (s : Ps) : Ps := if lookK s = 1 ∧ 200 ≤ n then failS 4 (lookS s) else lookS s
/-- One more command. -/
theorem cmds_more {w : World} {pb g : Nat} {W : List Wd} {c : Nat} {s : Ps} {R : List Value} {n : Nat} (hM : MB w pb g W c s R) (hs : lookK s ≠ 0) (he : codeS s = 0) (hn : n ≤ 200) (v : Cd) (hv : ∀ y l, onS (limS n s) cmdM = .ok (y, l) → y = v) (M : List Cd) :
    preL M (onS s (mCmds (200 - n))) = preL (M ++ [v]) (onS (stS (onS (limS n s) cmdM)) (mCmds (200 - (n + 1)))) ∧ (n + 1 ≤ 200 ∨ ∃ f, stS (onS (limS n s) cmdM) = .error f) := by
  cases s with
  | error f =>
    exact absurd he hM.code_err
  | ok l =>
    obtain ⟨x, r, rfl, hx, _⟩ := hM.head
    cases hr : nextW (x :: r) with
    | error f =>
      have hL : limS n (.ok (x :: r)) = .error f := by
        unfold limS
        rw [if_neg (fun e => by rw [(look_err hr).1] at e; exact absurd e.1 (by decide)), (look_err hr).2]
      rw [hL]
      refine ⟨?_, .inr ⟨f, rfl⟩⟩
      simp only [onS]
      rw [mCmds_err hr]
      rfl
    | ok p =>
      obtain ⟨y, r'⟩ := p
      obtain ⟨rfl, _⟩ := nextW_head hr
      rw [(look_ok hr).1] at hs
      unfold limS at hv ⊢
      rw [(look_ok hr).1, (look_ok hr).2] at hv ⊢
      by_cases hl : y.kind = 1 ∧ 200 ≤ n
      · rw [if_pos hl] at hv ⊢
        refine ⟨?_, .inr ⟨(4, y.pos), rfl⟩⟩
        rw [show 200 - n = 0 by omega]
        simp only [onS, mCmds, hr]
        rw [if_neg hs, if_pos hl.1]
        rfl
      · rw [if_neg hl] at hv ⊢
        simp only [onS] at hv ⊢
        by_cases h1 : y.kind = 1
        · have hn' : n < 200 := by
            apply Classical.byContradiction
            intro hc
            exact hl ⟨h1, by omega⟩
          refine ⟨?_, .inl (by omega)⟩
          obtain ⟨m, hm⟩ : ∃ m, 200 - n = m + 1 := ⟨200 - (n + 1), by omega⟩
          rw [hm, show 200 - (n + 1) = m by omega]
          simp only [mCmds, hr]
          rw [if_neg hs]
          cases hc : cmdM (y :: r) with
          | error f => rfl
          | ok q =>
            obtain ⟨v', l2⟩ := q
            have := hv v' l2 hc
            subst this
            simp only [stS]
            cases mCmds m l2 with
            | error f => rfl
            | ok q =>
              obtain ⟨vs, l3⟩ := q
              simp [preL]
        · have hc : cmdM (y :: r) = .error (3, y.pos) := cmdM_not hr (fun e => h1 ((rel40 y hx).2 e))
          rw [hc]
          refine ⟨?_, .inr ⟨_, rfl⟩⟩
          cases hk : 200 - n with
          | zero =>
            simp only [mCmds, hr]
            rw [if_neg hs, if_neg h1]
            rfl
          | succ m =>
            simp only [mCmds, hr]
            rw [if_neg hs, hc]
            rfl
theorem cmds_end {w : World} {pb g : Nat} {W : List Wd} {c : Nat} {s : Ps} {R : List Value} {n : Nat} (hM : MB w pb g W c s R) (h0 : codeS s = 0) (hs : lookK s = 0) (M : List Cd) : ∃ l, preL M (onS s (mCmds n)) = .ok (M, l) ∧ lookS s = .ok l := by
  cases s with
  | error f => exact absurd h0 hM.code_err
  | ok l =>
    cases hr : nextW l with
    | error f => exact absurd ((look_err hr).1.symm.trans hs) (by decide)
    | ok p =>
      obtain ⟨y, r'⟩ := p
      rw [(look_ok hr).1] at hs
      refine ⟨l, ?_, (look_ok hr).2⟩
      simp only [onS]
      rw [mCmds_end hr hs, preL_nil]
theorem look_twice (s : Ps) : lookK (lookS s) = lookK s ∧ lookS (lookS s) = lookS s := by
  cases s with
  | error f => exact ⟨rfl, rfl⟩
  | ok l =>
    cases hr : nextW l with
    | error f => rw [(look_err hr).2, (look_err hr).1]; exact ⟨rfl, rfl⟩
    | ok q =>
      obtain ⟨x, r⟩ := q
      rw [(look_ok hr).2]
      exact ⟨rfl, (look_ok hr).2⟩
theorem lift_set3 {P : World → Prop} {w : World} {b : Nat} {t : TypeId} {cs : Array Value} {v0 v1 v2 : Value} (hq : w.heap[b]? = some (.cells cs t (0, 0))) (hs : cs.size = 3) (h : ∀ wt, wt.heap[b]? = some (.cells [v0, v1, v2].toArray t (0, 0)) → Turned w wt b → P wt) : P ((((w.setCell ⟨b, 0, none⟩ v0).setCell ⟨b, 1, none⟩ v1).setCell ⟨b, 2, none⟩ v2).drew) := by
  have h1 := heap_setCells_splice hq (o := 0) [v0, v1, v2] (by simp; omega)
  have hd : cs.toList.drop (0 + [v0, v1, v2].length) = [] := List.drop_eq_nil_of_le (by simp; omega)
  rw [hd] at h1
  have ht := Turned.setCells [v0, v1, v2] 0 w b
  exact h _ (h1.trans (by simp)) ⟨ht.os, ht.tape, ht.output, ht.size, ht.block⟩
/-- What a script's reading tells. -/
def csR (src : Bs) : Px (List Cd) := if 20000 < src.length then .error (4, 0) else mCmds 200 (wordsOf src)
def csL (code : Int) (pos : Nat) (v : Value) : List Value := [.int .i64 code, .int .i64 (pos : Int), v]
def CsPost (w : World) (r : Px (List Cd)) (e : Ending) (w' : World) : Prop := Below w.heap.size w w' ∧ ∃ (code : Int) (pos : Nat) (la : Option Addr) (lc : Nat) (M : List CdX), e = .returned (.agg (csL code pos (.slice la M.length lc)).toArray) ∧ CO w' w.heap.size la lc M ∧ match r with
  | .error f => code = f.1 ∧ pos = f.2 ∧ M = []
  | .ok (vs, _) => code = 0 ∧ pos = 0 ∧ M.map Prod.fst = vs
theorem infoCs : (Tryz.prog.info? 35).map (·.size) = some 3 := by kernel_rfl
theorem csL_one (code : Int) (pos : Nat) (a : Option Addr) (n c : Nat) : ∀ v ∈ csL code pos (.slice a n c), v.oneCell' = true := by
  intro v hv
  simp [csL] at hv
  rcases hv with rfl | rfl | rfl <;> rfl
/-- The words of a new parser. -/
theorem WdsAt.owns {w : World} {base c : Nat} {a : Option Addr} {W : List Wd} (h : w.ownsRow base 72 4 (.slice a W.length c) W.length (wdsV W)) (hW : W ≠ []) : ∃ g, a = some ⟨g, 0, none⟩ ∧ base ≤ g ∧ g < w.heap.size ∧ WdsAt w g W ∧ W.length ≤ c := by
  obtain ⟨_, ⟨h1, h2⟩ | ⟨g, cap, cur, h1, h2, h3, h4, h5, h6, h7⟩⟩ := h
  · exact absurd (List.eq_nil_of_length_eq_zero h2) hW
  · injection h1 with e1 e2 e3
    subst e3
    refine ⟨g, e1, h2, lt_of_block' h3, fun j x hx i v hv => ?_, h4⟩
    have hj : j < W.length := (List.getElem?_eq_some_iff.1 hx).1
    have hi : i < 4 := by
      have := (List.getElem?_eq_some_iff.1 hv).1
      simpa [wdV] using this
    have hg : (wdsV W)[j * 4 + i]? = some v := by
      have : ∀ (L : List Wd) (j : Nat), L[j]? = some x → (wdsV L)[j * 4 + i]? = some v := by
        intro L
        induction L with
        | nil => intro j hj; simp at hj
        | cons y L ih =>
          intro j hj
          cases j with
          | zero =>
            simp at hj
            subst hj
            simp only [wdsV, List.flatMap_cons, Nat.zero_mul, Nat.zero_add]
            rw [List.getElem?_append_left (by simpa [wdV] using hi)]
            exact hv
          | succ j =>
            simp at hj
            have := ih j hj
            simp only [wdsV, List.flatMap_cons]
            rw [List.getElem?_append_right (by simp [wdV]; omega)]
            rw [show (j + 1) * 4 + i - (wdV y).length = j * 4 + i by simp [wdV]; omega]
            exact this
      exact this W j hx
    rw [← h7, List.getElem?_take] at hg
    split at hg
    · simp [World.cell?, h3]
      simpa using hg
    · cases hg
theorem wordsGo_len : ∀ (n : Nat) (l : Bs) (k : Nat), l.length < n → (wordsGo n l k).length ≤ l.length + 1 := by
  intro n
  induction n with
  | zero => intro l k h; omega
  | succ n ih =>
    intro l k hn
    cases l with
    | nil => simp [wordsGo]
    | cons b r =>
      have hr : r.length < n := by simp at hn; omega
      have i1 := ih r (k + 1) hr
      unfold wordsGo
      by_cases h1 : blankB b = true
      · rw [if_pos h1]
        simp only [List.length_cons]
        omega
      rw [if_neg h1]
      by_cases h2 : b = 59
      · rw [if_pos h2]
        have hp : 1 ≤ runOf lineP (b :: r) := run_pos (by rw [h2]; exact line59)
        have hd : ((b :: r).drop (runOf lineP (b :: r))).length < n := by rw [List.length_drop]; simp only [List.length_cons] at *; omega
        have := ih _ (k + runOf lineP (b :: r)) hd
        rw [List.length_drop] at this
        simp only [List.length_cons] at *
        omega
      rw [if_neg h2]
      by_cases h3 : b = 40
      · rw [if_pos h3]
        simp only [List.length_cons]
        omega
      rw [if_neg h3]
      by_cases h4 : b = 41
      · rw [if_pos h4]
        simp only [List.length_cons]
        omega
      rw [if_neg h4]
      by_cases h5 : b.toNat < 33 ∨ 126 < b.toNat
      · rw [if_pos h5]
        simp only [List.length_cons]
        omega
      rw [if_neg h5]
      have hp : 1 ≤ runOf wordB (b :: r) := run_pos (wordB_of h2 h3 h4 h5)
      have hd : ((b :: r).drop (runOf wordB (b :: r))).length < n := by rw [List.length_drop]; simp only [List.length_cons] at *; omega
      have := ih _ (k + runOf wordB (b :: r)) hd
      rw [List.length_drop] at this
      simp only [List.length_cons] at *
      omega
theorem wordsOf_len (src : Bs) : (wordsOf src).length ≤ src.length + 1 := by
  unfold wordsOf wordsAt
  have := wordsGo_len (src.length + 1 - 0) (src.drop 0) 0 (by simp)
  simpa using this
def zR : List Value := [.string ⟨#[]⟩, .int .i64 0, .slice none 0 0, .slice none 0 0, .slice none 0 0, .int .i64 0]
/-- In the loop over commands. -/
structure PrAt (w3 wr : World) (pb g rb : Nat) (W : List Wd) (c : Nat) (s : Ps) (la : Option Addr) (lc : Nat) (M : List CdX) : Prop where
  mo : MkO (some pb) w3 wr
  mb : MB wr pb g W c s zR
  rq : wr.heap[rb]? = some (.cells (csL 0 0 (.slice none 0 0)).toArray 35 (0, 0))
  co : CO wr w3.heap.size la lc M
  le : M.length ≤ 200 ∨ ∃ f, s = .error f
  lt : M.length ≤ 201
  pl : mCmds 200 W = preL (M.map Prod.fst) (onS s (mCmds (200 - M.length)))
theorem CO.base {w : World} {B B' : Nat} {a : Option Addr} {c : Nat} {M : List CdX} (h : CO w B a c M) (hb : B' ≤ B) : CO w B' a c M := ⟨owns_base h.row hb, fun x hx => by
  obtain ⟨la, lc, h1, h2⟩ := h.all x hx
  exact ⟨la, lc, h1, owns_base h2 hb⟩, h.pair⟩
theorem CO.turned {w w' : World} {B b : Nat} {a : Option Addr} {c : Nat} {M : List CdX} {t : TypeId} {cs : Array Value} (h : CO w B a c M) (ht : Turned w w' b) (hb : w.heap[b]? = some (.cells cs t (0, 0))) (h1 : t ≠ 67) (h2 : t ≠ 101) : CO w' B a c M := ⟨own_turn h.row ht hb h1, fun x hx => by
  obtain ⟨la, lc, e1, e2⟩ := h.all x hx
  exact ⟨la, lc, e1, own_turn e2 ht hb h2⟩, h.pair⟩
theorem lookS_code {s : Ps} {l : List Wd} (h : lookS s = .ok l) : codeS (lookS s) = 0 := by rw [h]; rfl
set_option maxRecDepth 100000 in
set_option maxHeartbeats 6400000 in
theorem mParseScript_any (src : Bs) (a : Option Addr) (c : Nat) (w : World) (hv : BysAt w a src) (hcap : src.length ≤ c) (hsm : src.length ≤ 1048576) : Calls Tryz.prog 13 #[.slice a src.length c] w (CsPost w (csR src)) := by
  have HV := hidX hv
  go_enter Tryz.func13, Tryz.ntmps13
  go_upto_region 1 with fail
  refine lift_alloc ?_
  intro w1 hW1 hq1
  have hrb : w.heap.size < w1.heap.size := lt_of_block' hq1
  by_cases hl : 20000 < src.length
  · have HR : Hid (csR src = .error (4, 0)) := show _ = _ from by unfold csR; rw [if_pos hl]
    have hl' : (20000 : Int) < (src.length : Int) := by omega
    have HW1 := hidX hW1
    clear hl hW1
    go_wp2_with (first | (refine wpList_store_blk (by rfl) 35 (.tmp 2) (.tmp 8) (by rfl) w.heap.size (csL 4 0 (.slice none 0 0)) (by rfl) (by rfl) _ 35 hq1 (by rfl) infoCs (csL_one _ _ _ _ _) ?_; intro w4 hb4 ht4) | fail)
    have hld := run_loadVar_mid (P := Tryz.prog) w4 w.heap.size 0 35 (csL 4 0 (.slice none 0 0)) _ (range_blk hb4.out) Tryz.underlying35 rfl infoCs
    (try go_frame)
    refine bodyPost_ret (v := .agg (csL 4 0 (.slice none 0 0)).toArray) (by simp [results, Tryz.results13, asAddr, hld]) rfl ⟨HW1.out.trans (ht4.out.below (Nat.le_refl _)), 4, 0, none, 0, [], rfl, CO.nil _ _, ?_⟩
    rw [HR.out]
    exact ⟨rfl, rfl, rfl⟩
  · have HR : Hid (csR src = mCmds 200 (wordsOf src)) := show _ = _ from by unfold csR; rw [if_neg hl]
    have hl' : ¬ (20000 : Int) < (src.length : Int) := by omega
    have HWO := hidX (wordsAt_ok src 0 (Nat.zero_le _))
    have HWS := hidX (l2Words_any src a c w1 (HV.out.below hW1) (by omega) hcap)
    have HQ1 := hidX hq1
    have HW1 := hidX hW1
    have HWL := hidX (wordsOf_len src)
    obtain ⟨W, hWW⟩ : ∃ W, W = wordsOf src := ⟨_, rfl⟩
    replace HWO : Hid ((∀ x ∈ W, WdOk x ∧ x.text.length ≤ src.length) ∧ WsOk W) := by rw [hWW]; exact HWO
    rw [← hWW] at HWS HR HWL
    clear hl hW1 hq1 hWW
    go_upto_region 4 with (first | (go_at_call 18; refine HWS.out.mono ?_; rintro e w2 ⟨⟨wa, cw, rfl, how⟩, hb2⟩) | fail)
    refine lift_alloc ?_
    intro w3 hW3 hq3
    obtain ⟨g, rfl, hg1, hg2, hwd, hcw⟩ := WdsAt.owns how HWO.out.2.ne
    have hp3 : w2.heap.size < w3.heap.size := lt_of_block' hq3
    have hs2 := hb2.size
    have HM3 := hidX (show MB w3 w2.heap.size g W cw (.ok W) zR from ⟨⟨0, 0, 0, hq3, List.length_pos_iff.2 HWO.out.2.ne, rfl, rfl, by simp⟩, hwd.block (hW3.block g hg2), by omega, fun x hx => ⟨(HWO.out.1 x hx).1, by have := (HWO.out.1 x hx).2; omega⟩, HWO.out.2, hcw, by have := HWL.out; omega⟩)
    have HRQ3 := hidX ((hW3.block w.heap.size (by omega)).trans ((hb2.block w.heap.size hrb).trans HQ1.out))
    have BL3 := hidX (HW1.out.trans ((hb2.mono (Nat.le_of_lt hrb)).trans (hW3.mono (by omega))) : Below w.heap.size w w3)
    have HP3 := hidX (show PrAt w3 w3 w2.heap.size g w.heap.size W cw (.ok W) none 0 [] from ⟨MkO.refl _ _, HM3.out, HRQ3.out, CO.nil _ _, .inl (by simp), by simp, by
      show mCmds 200 W = preL [] (mCmds 200 W)
      unfold preL
      cases mCmds 200 W <;> rfl⟩)
    have hpb : w2.heap.size < w3.heap.size := hp3
    have hwp : w.heap.size < w2.heap.size := by omega
    clear hW3 hq3 hwd hcw how hb2 HWS HQ1 HW1 HM3 HRQ3 hv hl' HV
    go_wp2_with fail
    go_loopw [4] (fun v wr => ∃ la lc M s, v = .slice la M.length lc ∧ PrAt w3 wr w2.heap.size g w.heap.size W cw s la lc M) (fun v _ => 202 - sliceLen v)
    case atStart => exact ⟨none, 0, [], _, rfl, HP3.out⟩
    case round =>
      obtain ⟨la, lc, M, s, rfl, hpr⟩ := hrel
      have PR := hidX hpr
      have hMl := hpr.lt
      have c2 := hpr.mb.code
      have hpr' := hpr.mo.rest.size
      clear hpr HP3
      cases s with
      | error f =>
        have hne := PR.out.mb.code_err
        have hne' : (f.1 == 0) = false := by simpa using hne
        have hne2 : (f.1 != 0) = true := by simpa using hne
        have HRE : Hid (csR src = .error f) := show _ = _ from by rw [HR.out, PR.out.pl]; rfl
        obtain ⟨k, cd, pos, hq, hk, e1, e2, _⟩ := PR.out.mb.st
        subst e1
        subst e2
        have d2 := cell_of hq (j := 2) rfl
        have d3 := cell_of hq (j := 3) rfl
        have b0 := cell_of PR.out.rq (j := 0) rfl
        have b1 := cell_of PR.out.rq (j := 1) rfl
        have b2 := cell_of PR.out.rq (j := 2) rfl
        have z0 := froz_of PR.out.rq 0
        have z1 := froz_of PR.out.rq 1
        have z2 := froz_of PR.out.rq 2
        have hpl := PR.out.mb.lt
        have hrl : w.heap.size < wr.heap.size := lt_of_block' PR.out.rq
        clear c2 hq
        go_upto_region 10 with fail
        go_region
        refine lift_set3 PR.out.rq (by rfl) ?_
        intro w4 hb4 ht4
        clear d2 d3 b0 b1 b2 z0 z1 z2
        have hld := run_loadVar_mid (P := Tryz.prog) w4 w.heap.size 0 35 (csL f.1 f.2 (.slice none 0 0)) _ (range_blk hb4) Tryz.underlying35 rfl infoCs
        go_wp2_with fail
        (try go_frame)
        refine bodyPost_ret (v := .agg (csL f.1 f.2 (.slice none 0 0)).toArray) (by simp [results, Tryz.results13, asAddr, hld]) rfl ⟨(BL3.out.trans (PR.out.mo.below (by omega) (fun g e => by injection e; omega))).trans (ht4.below (Nat.le_refl _)), f.1, f.2, none, 0, [], rfl, CO.nil _ _, ?_⟩
        rw [HRE.out]
        exact ⟨rfl, rfl, rfl⟩
      | ok l =>
        simp only [codeS] at c2
        have hM2 : M.length ≤ 200 := PR.out.le.elim id (fun e => by obtain ⟨f, e⟩ := e; cases e)
        have HLK := hidX (look_any wr w2.heap.size g W cw (.ok l) zR PR.out.mb)
        unfold LkPost at HLK
        have HLT := hidX (look_twice (.ok l))
        have HK2 := hidX (fun u (hu : MB u w2.heap.size g W cw (lookS (.ok l)) zR) => look_any u w2.heap.size g W cw (lookS (.ok l)) zR hu)
        unfold LkPost at HK2
        rw [HLT.out.1, HLT.out.2] at HK2
        have HMO := hidX (fun v hv => cmds_more (n := M.length) PR.out.mb · rfl hM2 v hv (M.map Prod.fst))
        have HCE := hidX (fun h => cmds_end (n := 200 - M.length) PR.out.mb rfl h (M.map Prod.fst))
        have HLM : Hid (limS M.length (.ok l) = if lookK (.ok l) = 1 ∧ 200 ≤ M.length then failS 4 (lookS (.ok l)) else lookS (.ok l)) := show _ = _ from rfl
        obtain ⟨K, hK⟩ : ∃ K, K = lookK (.ok l) := ⟨_, rfl⟩
        rw [← hK] at HLK HK2 HMO HCE HLM
        have hpl := PR.out.mb.lt
        have hrl : w.heap.size < wr.heap.size := lt_of_block' PR.out.rq
        clear hK HLT
        by_cases h0 : K = 0
        · subst h0
          obtain ⟨l', hce, hls⟩ := HCE.out rfl
          have HRE : Hid (csR src = .ok (M.map Prod.fst, l')) := show _ = _ from by rw [HR.out, PR.out.pl]; exact hce
          have HLS := hidX hls
          clear hce hls HK2 HMO HCE HLM
          go_upto_region 11 with (first | (go_at_call 19; refine HLK.out.mono ?_; rintro e w4 ⟨rfl, hm4, hb4⟩; have c24 := hb4.code; rw [lookS_code HLS.out] at c24) | fail)
          have hs4 := hm4.rest.size
          have hrq := (hm4.block w.heap.size hrl (fun e => by injection e; omega)).trans PR.out.rq
          have CO4 := hidX (PR.out.co.mko hm4 hpb)
          have M4 := hidX (PR.out.mo.trans hm4)
          clear hm4 hb4 c24 c2
          go_wp2_with (first | (refine wpList_store_blk (by rfl) 35 (.tmp 2) (.tmp 53) (by rfl) w.heap.size (csL 0 0 (.slice la M.length lc)) (by rfl) (by rfl) _ 35 hrq (by rfl) infoCs (csL_one _ _ _ _ _) ?_; intro w5 hb5 ht5) | fail)
          have hld := run_loadVar_mid (P := Tryz.prog) w5 w.heap.size 0 35 (csL 0 0 (.slice la M.length lc)) _ (range_blk hb5.out) Tryz.underlying35 rfl infoCs
          (try go_frame)
          refine bodyPost_ret (v := .agg (csL 0 0 (.slice la M.length lc)).toArray) (by simp [results, Tryz.results13, asAddr, hld]) rfl ⟨(BL3.out.trans (M4.out.below (by omega) (fun g e => by injection e; omega))).trans (ht5.out.below (Nat.le_refl _)), 0, 0, la, lc, M, rfl, (CO4.out.turned ht5.out hrq (by decide) (by decide)).base BL3.out.size, ?_⟩
          rw [HRE.out]
          exact ⟨rfl, rfl, rfl⟩
        · have h0' : (K != 0) = true := by simpa using h0
          by_cases h1 : K = 1
          · subst h1
            by_cases hl2 : 200 ≤ M.length
            · have hl3 : (200 : Int) ≤ (M.length : Int) := by omega
              have HF := hidX (fun u (hu : MB u w2.heap.size g W cw (lookS (.ok l)) zR) => fail_any u w2.heap.size g W cw (lookS (.ok l)) zR 4 (by decide) hu)
              rw [if_pos ⟨rfl, hl2⟩] at HLM
              clear hl2
              go_upto_region 6 with (first | (go_at_call 19; refine HLK.out.mono ?_; rintro e w4 ⟨rfl, hm4, hb4⟩) | fail)
              have hs4 := hm4.rest.size
              clear c2
              go_upto_region 8 with (first | (go_at_call 19; refine (HK2.out _ hb4).mono ?_; rintro e w5 ⟨rfl, hm5, hb5⟩) | (go_at_call 20; refine (HF.out _ hb5).mono ?_; rintro e w6 ⟨rfl, hm6, hb6⟩) | fail)
              have hs5 := hm5.rest.size
              have MR := hidX (show MkO (some w2.heap.size) wr w6 from by first | exact (hm4.trans hm5).trans hm6 | exact hm4.trans hm5)
              have hs6 : wr.heap.size ≤ w6.heap.size := MR.out.rest.size
              have M6 := hidX (PR.out.mo.trans MR.out)
              have CO6 := hidX (PR.out.co.mko MR.out hpb)
              have HRQ6 := hidX ((MR.out.block w.heap.size hrl (fun e => by injection e; omega)).trans PR.out.rq)
              have HB6 := hidX (show MB w6 w2.heap.size g W cw (limS M.length (.ok l)) zR from by rw [HLM.out]; first | exact hb6 | exact hb5)
              have HCM := hidX (fun u (hu : MB u w2.heap.size g W cw (limS M.length (.ok l)) zR) => mcommand_any u w2.heap.size g W cw (limS M.length (.ok l)) zR hu)
              clear HLM hm4 hb4 hb5 hm5 HLK HK2
              go_wp2_with (first | (go_at_call 28; refine (HCM.out _ HB6.out).mono ?_; rintro e w7 ⟨hm7, ⟨v, ⟨va, vc, rfl, ho7⟩, hv7⟩, hb7⟩; unfold cdL; have M7 := hidX (M6.out.trans hm7); have CO7 := hidX (CO6.out.mko hm7 hpb); have hs7 := hm7.rest.size; have HA7 := hidX (fun o' => (Below.refl _ _).alloc (Nat.le_refl _) o' : ∀ o', Below w7.heap.size w7 (w7.alloc o')); have OA := hidX (fun o' => CO7.out.mko (MkO.of_below (HA7.out o')) hpb)) | (at_builtin; refine wpList_append_any (by rfl) (.tmp 33) (.tmp 36) 33 (by rfl) w3.heap.size 67 _ 4 56 Tryz.underlying33 infoCF (by rfl) (by omega) _ M.length _ (by rfl) (OA.out _).row (some ⟨_, 0, none⟩) 1 1 (by rfl) (cdC (v, .slice va v.slots.length vc)) (by rfl) (fun e => by cases e) (news_new _ _ _ _ (by simp)) (cdL_one _ _ _ _) (by unfold maxLen; omega) (by omega) (by simp; omega) ?_; intro a8 c8 w8 ho8 hg8 hl8) | fail)
              have hrow : ∀ k, (Value.slice la M.length lc).ownBlock = some k → w3.heap.size ≤ k := fun k hk => (CO7.out.row.lt k hk).1
              have TY := hidX (fun o' g hg => own_type (OA.out o').row (k := g) hg)
              have NX := hidX (show CdP w7 w3.heap.size (v, .slice va v.slots.length vc) from ⟨va, vc, rfl, owns_base ho7 (by omega)⟩)
              have M8 := hidX ((M7.out.trans (MkO.of_below (HA7.out _))).grown hg8.out hrow)
              have HBA := hidX (fun o' => hb7.below (HA7.out o'))
              have HB8 := hidX ((HBA.out _).blocks (hg8.out.block w2.heap.size (HBA.out _).lt (fun e => by have := hrow _ e.symm; omega)) (hg8.out.block g (HBA.out _).glt (fun e => by have := hrow _ e.symm; omega)))
              have HRA := hidX (fun o' => ((HA7.out o').block w.heap.size (by omega)).trans ((hm7.block w.heap.size (by omega) (fun e => by injection e; omega)).trans HRQ6.out))
              have HR8 := hidX (box_grown (HRA.out _) hg8.out (TY.out _) (by decide))
              have C8 := hidX (show CO w8 w3.heap.size a8 c8 (M ++ [((v, .slice va v.slots.length vc) : CdX)]) from ⟨by simpa using ho8.out, fun x hx => by
                rcases List.mem_append.1 hx with hx | hx
                · exact ((OA.out _).all x hx).grown hg8.out (TY.out _)
                · simp at hx
                  subst hx
                  exact (NX.out.mko (MkO.of_below (HA7.out _)) hpb).grown hg8.out (TY.out _), CO6.out.newer (Nat.le_refl _) ho7⟩)
              have PR9 := hidX (show PrAt w3 w8 w2.heap.size g w.heap.size W cw (stS (onS (limS M.length (.ok l)) cmdM)) a8 c8 (M ++ [((v, .slice va v.slots.length vc) : CdX)]) from ⟨M8.out, HB8.out, HR8.out, C8.out, by
                have := (HMO.out h0 v hv7).2
                simpa using this, by simp; omega, by
                rw [PR.out.pl, (HMO.out h0 v hv7).1]
                simp⟩)
              go_roundw
              case rel => exact ⟨a8, c8, _, _, by simp, PR9.out⟩
              case measure => (simp [sliceLen]; omega)
            · have hl3 : (M.length : Int) < 200 := by omega
              rw [if_neg (fun e => hl2 e.2)] at HLM
              clear hl2
              go_upto_region 6 with (first | (go_at_call 19; refine HLK.out.mono ?_; rintro e w4 ⟨rfl, hm4, hb4⟩) | fail)
              have hs4 := hm4.rest.size
              clear c2
              go_upto_region 8 with (first | (go_at_call 19; refine (HK2.out _ hb4).mono ?_; rintro e w5 ⟨rfl, hm5, hb5⟩) | fail)
              have hs5 := hm5.rest.size
              have MR := hidX (show MkO (some w2.heap.size) wr w5 from by first | exact (hm4.trans hm5).trans hm6 | exact hm4.trans hm5)
              have hs6 : wr.heap.size ≤ w5.heap.size := MR.out.rest.size
              have M6 := hidX (PR.out.mo.trans MR.out)
              have CO6 := hidX (PR.out.co.mko MR.out hpb)
              have HRQ6 := hidX ((MR.out.block w.heap.size hrl (fun e => by injection e; omega)).trans PR.out.rq)
              have HB6 := hidX (show MB w5 w2.heap.size g W cw (limS M.length (.ok l)) zR from by rw [HLM.out]; first | exact hb6 | exact hb5)
              have HCM := hidX (fun u (hu : MB u w2.heap.size g W cw (limS M.length (.ok l)) zR) => mcommand_any u w2.heap.size g W cw (limS M.length (.ok l)) zR hu)
              clear HLM hm4 hb4 hb5 hm5 HLK HK2
              go_wp2_with (first | (go_at_call 28; refine (HCM.out _ HB6.out).mono ?_; rintro e w7 ⟨hm7, ⟨v, ⟨va, vc, rfl, ho7⟩, hv7⟩, hb7⟩; unfold cdL; have M7 := hidX (M6.out.trans hm7); have CO7 := hidX (CO6.out.mko hm7 hpb); have hs7 := hm7.rest.size; have HA7 := hidX (fun o' => (Below.refl _ _).alloc (Nat.le_refl _) o' : ∀ o', Below w7.heap.size w7 (w7.alloc o')); have OA := hidX (fun o' => CO7.out.mko (MkO.of_below (HA7.out o')) hpb)) | (at_builtin; refine wpList_append_any (by rfl) (.tmp 33) (.tmp 36) 33 (by rfl) w3.heap.size 67 _ 4 56 Tryz.underlying33 infoCF (by rfl) (by omega) _ M.length _ (by rfl) (OA.out _).row (some ⟨_, 0, none⟩) 1 1 (by rfl) (cdC (v, .slice va v.slots.length vc)) (by rfl) (fun e => by cases e) (news_new _ _ _ _ (by simp)) (cdL_one _ _ _ _) (by unfold maxLen; omega) (by omega) (by simp; omega) ?_; intro a8 c8 w8 ho8 hg8 hl8) | fail)
              have hrow : ∀ k, (Value.slice la M.length lc).ownBlock = some k → w3.heap.size ≤ k := fun k hk => (CO7.out.row.lt k hk).1
              have TY := hidX (fun o' g hg => own_type (OA.out o').row (k := g) hg)
              have NX := hidX (show CdP w7 w3.heap.size (v, .slice va v.slots.length vc) from ⟨va, vc, rfl, owns_base ho7 (by omega)⟩)
              have M8 := hidX ((M7.out.trans (MkO.of_below (HA7.out _))).grown hg8.out hrow)
              have HBA := hidX (fun o' => hb7.below (HA7.out o'))
              have HB8 := hidX ((HBA.out _).blocks (hg8.out.block w2.heap.size (HBA.out _).lt (fun e => by have := hrow _ e.symm; omega)) (hg8.out.block g (HBA.out _).glt (fun e => by have := hrow _ e.symm; omega)))
              have HRA := hidX (fun o' => ((HA7.out o').block w.heap.size (by omega)).trans ((hm7.block w.heap.size (by omega) (fun e => by injection e; omega)).trans HRQ6.out))
              have HR8 := hidX (box_grown (HRA.out _) hg8.out (TY.out _) (by decide))
              have C8 := hidX (show CO w8 w3.heap.size a8 c8 (M ++ [((v, .slice va v.slots.length vc) : CdX)]) from ⟨by simpa using ho8.out, fun x hx => by
                rcases List.mem_append.1 hx with hx | hx
                · exact ((OA.out _).all x hx).grown hg8.out (TY.out _)
                · simp at hx
                  subst hx
                  exact (NX.out.mko (MkO.of_below (HA7.out _)) hpb).grown hg8.out (TY.out _), CO6.out.newer (Nat.le_refl _) ho7⟩)
              have PR9 := hidX (show PrAt w3 w8 w2.heap.size g w.heap.size W cw (stS (onS (limS M.length (.ok l)) cmdM)) a8 c8 (M ++ [((v, .slice va v.slots.length vc) : CdX)]) from ⟨M8.out, HB8.out, HR8.out, C8.out, by
                have := (HMO.out h0 v hv7).2
                simpa using this, by simp; omega, by
                rw [PR.out.pl, (HMO.out h0 v hv7).1]
                simp⟩)
              go_roundw
              case rel => exact ⟨a8, c8, _, _, by simp, PR9.out⟩
              case measure => (simp [sliceLen]; omega)
          · have h1' : (K == 1) = false := by simpa using h1
            rw [if_neg (fun e => h1 e.1)] at HLM
            clear h1
            go_upto_region 6 with (first | (go_at_call 19; refine HLK.out.mono ?_; rintro e w4 ⟨rfl, hm4, hb4⟩) | fail)
            have hs4 := hm4.rest.size
            clear c2
            go_upto_region 8 with (first | (go_at_call 19; refine (HK2.out _ hb4).mono ?_; rintro e w5 ⟨rfl, hm5, hb5⟩) | fail)
            have hs5 := hm5.rest.size
            have MR := hidX (show MkO (some w2.heap.size) wr w5 from by first | exact (hm4.trans hm5).trans hm6 | exact hm4.trans hm5)
            have hs6 : wr.heap.size ≤ w5.heap.size := MR.out.rest.size
            have M6 := hidX (PR.out.mo.trans MR.out)
            have CO6 := hidX (PR.out.co.mko MR.out hpb)
            have HRQ6 := hidX ((MR.out.block w.heap.size hrl (fun e => by injection e; omega)).trans PR.out.rq)
            have HB6 := hidX (show MB w5 w2.heap.size g W cw (limS M.length (.ok l)) zR from by rw [HLM.out]; first | exact hb6 | exact hb5)
            have HCM := hidX (fun u (hu : MB u w2.heap.size g W cw (limS M.length (.ok l)) zR) => mcommand_any u w2.heap.size g W cw (limS M.length (.ok l)) zR hu)
            clear HLM hm4 hb4 hb5 hm5 HLK HK2
            go_wp2_with (first | (go_at_call 28; refine (HCM.out _ HB6.out).mono ?_; rintro e w7 ⟨hm7, ⟨v, ⟨va, vc, rfl, ho7⟩, hv7⟩, hb7⟩; unfold cdL; have M7 := hidX (M6.out.trans hm7); have CO7 := hidX (CO6.out.mko hm7 hpb); have hs7 := hm7.rest.size; have HA7 := hidX (fun o' => (Below.refl _ _).alloc (Nat.le_refl _) o' : ∀ o', Below w7.heap.size w7 (w7.alloc o')); have OA := hidX (fun o' => CO7.out.mko (MkO.of_below (HA7.out o')) hpb)) | (at_builtin; refine wpList_append_any (by rfl) (.tmp 33) (.tmp 36) 33 (by rfl) w3.heap.size 67 _ 4 56 Tryz.underlying33 infoCF (by rfl) (by omega) _ M.length _ (by rfl) (OA.out _).row (some ⟨_, 0, none⟩) 1 1 (by rfl) (cdC (v, .slice va v.slots.length vc)) (by rfl) (fun e => by cases e) (news_new _ _ _ _ (by simp)) (cdL_one _ _ _ _) (by unfold maxLen; omega) (by omega) (by simp; omega) ?_; intro a8 c8 w8 ho8 hg8 hl8) | fail)
            have hrow : ∀ k, (Value.slice la M.length lc).ownBlock = some k → w3.heap.size ≤ k := fun k hk => (CO7.out.row.lt k hk).1
            have TY := hidX (fun o' g hg => own_type (OA.out o').row (k := g) hg)
            have NX := hidX (show CdP w7 w3.heap.size (v, .slice va v.slots.length vc) from ⟨va, vc, rfl, owns_base ho7 (by omega)⟩)
            have M8 := hidX ((M7.out.trans (MkO.of_below (HA7.out _))).grown hg8.out hrow)
            have HBA := hidX (fun o' => hb7.below (HA7.out o'))
            have HB8 := hidX ((HBA.out _).blocks (hg8.out.block w2.heap.size (HBA.out _).lt (fun e => by have := hrow _ e.symm; omega)) (hg8.out.block g (HBA.out _).glt (fun e => by have := hrow _ e.symm; omega)))
            have HRA := hidX (fun o' => ((HA7.out o').block w.heap.size (by omega)).trans ((hm7.block w.heap.size (by omega) (fun e => by injection e; omega)).trans HRQ6.out))
            have HR8 := hidX (box_grown (HRA.out _) hg8.out (TY.out _) (by decide))
            have C8 := hidX (show CO w8 w3.heap.size a8 c8 (M ++ [((v, .slice va v.slots.length vc) : CdX)]) from ⟨by simpa using ho8.out, fun x hx => by
              rcases List.mem_append.1 hx with hx | hx
              · exact ((OA.out _).all x hx).grown hg8.out (TY.out _)
              · simp at hx
                subst hx
                exact (NX.out.mko (MkO.of_below (HA7.out _)) hpb).grown hg8.out (TY.out _), CO6.out.newer (Nat.le_refl _) ho7⟩)
            have PR9 := hidX (show PrAt w3 w8 w2.heap.size g w.heap.size W cw (stS (onS (limS M.length (.ok l)) cmdM)) a8 c8 (M ++ [((v, .slice va v.slots.length vc) : CdX)]) from ⟨M8.out, HB8.out, HR8.out, C8.out, by
              have := (HMO.out h0 v hv7).2
              simpa using this, by simp; omega, by
              rw [PR.out.pl, (HMO.out h0 v hv7).1]
              simp⟩)
            go_roundw
            case rel => exact ⟨a8, c8, _, _, by simp, PR9.out⟩
            case measure => (simp [sliceLen]; omega)
end Go.Proofs.YtdhpoagjmiligaaGreatDoor
