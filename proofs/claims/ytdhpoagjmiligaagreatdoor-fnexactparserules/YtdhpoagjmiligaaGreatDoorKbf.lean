/-
  OUR OWN TEXT. Mr4, Mr5, Mr6, Mr7, one behind the other.
-/
import Derived.Test.YtdhpoagjmiligaaGreatDoorKbe
import Derived.Test.YtdhpoagjmiligaaGreatDoorKbc
import Derived.Deep.CutBlock
import Derived.Deep.DeepCutAuto
import Derived.Test.YtdhpoagjmiligaaGreatDoorKba
namespace Go.Proofs.YtdhpoagjmiligaaGreatDoor
open Go.RowKit

/-- One more of a list. -/
theorem itemG_more {α : Type} {rd : List Wd → Px α} {w : World} {pb g : Nat} {W : List Wd} {c : Nat} {s : Ps} {R : List Value} {n : Nat} (hM : MB w pb g W c s R) (hb : itemB (n : Int) 6 s = true) (v : α) (hv : ∀ y l, onS (itemS (n : Int) 6 s) rd = .ok (y, l) → y = v) (M : List α) : n < 6 ∧ preL M (onS s (pList rd (6 - n))) = preL (M ++ [v]) (onS (stS (onS (itemS (n : Int) 6 s) rd)) (pList rd (6 - (n + 1)))) := by
  unfold itemB at hb
  simp only [Bool.not_eq_true', Bool.or_eq_false_iff, decide_eq_false_iff_not] at hb
  obtain ⟨h1, h2, h0, hm⟩ := hb
  have hS : itemS (n : Int) 6 s = lookS s := by unfold itemS; rw [if_neg (fun e => e.elim h1 h2), if_neg h0, if_neg hm]
  rw [hS] at hv ⊢
  refine ⟨by omega, ?_⟩
  cases s with
  | error f => exact absurd rfl h1
  | ok l =>
    obtain ⟨x, r, rfl, hx, _⟩ := hM.head
    cases hr : nextW (x :: r) with
    | error f => exact absurd (look_err hr).1 h1
    | ok p =>
      obtain ⟨y, r'⟩ := p
      obtain ⟨rfl, _⟩ := nextW_head hr
      rw [(look_ok hr).1] at h2
      rw [(look_ok hr).2] at hv ⊢
      have hp : pkW y ≠ 41 := fun e => h2 ((rel41 y hx).2 e)
      obtain ⟨m, hm'⟩ : ∃ m, 6 - n = m + 1 := ⟨6 - (n + 1), by omega⟩
      rw [hm', show 6 - (n + 1) = m by omega]
      simp only [onS] at hv ⊢
      cases hvv : rd (y :: r) with
      | error f =>
        rw [pList_bad hr hp hvv]
        rfl
      | ok q =>
        obtain ⟨v', l1⟩ := q
        rw [pList_step hr hp hvv, hv v' l1 hvv]
        rfl
theorem itemG_end {α : Type} {rd : List Wd → Px α} (hend : ∀ l x r, nextW l = .ok (x, r) → pkW x = 0 → rd l = .error (3, x.pos)) {w : World} {pb g : Nat} {W : List Wd} {c : Nat} {s : Ps} {R : List Value} {n : Nat} (hM : MB w pb g W c s R) (hb : itemB (n : Int) 6 s = false) (hn : n ≤ 6) (M : List α) : (∃ f, preL M (onS s (pList rd (6 - n))) = .error f ∧ onS (itemS (n : Int) 6 s) (takeW 41) = .error f) ∨ ∃ x l, preL M (onS s (pList rd (6 - n))) = .ok (M, l) ∧ onS (itemS (n : Int) 6 s) (takeW 41) = .ok (x, l) := by
  cases s with
  | error f => exact .inl ⟨f, rfl, rfl⟩
  | ok l =>
    obtain ⟨x, r, rfl, hx, _⟩ := hM.head
    cases hr : nextW (x :: r) with
    | error f =>
      refine .inl ⟨f, ?_, ?_⟩
      · simp only [onS]
        rw [pList_err hr]
        rfl
      · unfold itemS
        rw [if_pos (.inl (look_err hr).1), (look_err hr).2]
        rfl
    | ok p =>
      obtain ⟨y, r'⟩ := p
      obtain ⟨rfl, _⟩ := nextW_head hr
      have h1 := kind_low hx
      unfold itemS
      unfold itemB at hb
      rw [(look_ok hr).1] at hb ⊢
      rw [(look_ok hr).2]
      simp only [onS]
      by_cases h2 : y.kind = 2
      · refine .inr ⟨y, r', ?_, ?_⟩
        · rw [pList_end hr ((rel41 y hx).1 h2), preL_nil]
        · rw [if_pos (.inr h2)]
          simp only [takeW, hr]
          rw [if_pos ((rel41 y hx).1 h2)]
      · have hp : pkW y ≠ 41 := fun e => h2 ((rel41 y hx).2 e)
        rw [if_neg (fun e => e.elim h1 h2)]
        by_cases h0 : y.kind = 0
        · have hp0 : pkW y = 0 := (pk_rel hx).2.2.2.2.2.1 h0
          refine .inl ⟨(3, y.pos), ?_, ?_⟩
          · cases hk : 6 - n with
            | zero => rw [pList_zero hr hp, if_pos hp0]; rfl
            | succ m => rw [pList_bad hr hp (hend _ _ _ hr hp0)]; rfl
          · rw [if_pos h0]
            rfl
        · have hp0 : pkW y ≠ 0 := fun e => h0 ((pk_rel hx).2.2.2.2.2.2 e)
          simp [h1, h2, h0] at hb
          rw [if_neg h0, if_pos hb, show 6 - n = 0 by omega]
          refine .inl ⟨(4, y.pos), ?_, rfl⟩
          rw [pList_zero hr hp, if_neg hp0]
          rfl
theorem pTerm_endM (l : List Wd) (x : Wd) (r : List Wd) (h : nextW l = .ok (x, r)) (hx : pkW x = 0) : pTerm l = .error (3, x.pos) := by
  unfold pTerm
  rw [h, andP_ok, if_neg (by omega), if_neg (by omega), if_neg (by omega), if_neg (by omega)]
/-- A pattern's head: whether it is denied, and its class. -/
def phM (l : List Wd) : Px (Bool × Bs) := match nextW l with
  | .error f => .error f
  | .ok (x, r) => if pkW x = 97 ∧ ptW x = notT then andP (pClass r) fun cl l1 => .ok ((true, cl), l1) else andP (pClass l) fun cl l1 => .ok ((false, cl), l1)
theorem pat_eq (l : List Wd) : pPat l = andP (phM l) fun h l2 => andP (pList pTerm 6 l2) fun ts l3 => .ok (⟨h.1, mkS h.2, ts⟩, l3) := by
  unfold pPat phM
  cases hr : nextW l with
  | error f => simp only [takeW, hr]; rfl
  | ok q =>
    obtain ⟨x, r⟩ := q
    by_cases hp : pkW x = 97
    · have ht : takeW 97 l = .ok (x, r) := by simp only [takeW, hr, if_pos hp]
      rw [ht, andP_ok]
      by_cases hn : ptW x = notT
      · rw [if_pos hn]
        simp only
        rw [if_pos ⟨hp, hn⟩]
        cases pClass r with
        | error f => rfl
        | ok q => rfl
      · rw [if_neg hn]
        simp only
        rw [if_neg (fun e => hn e.2)]
        have hc : pClass l = .ok (ptW x, r) := by simp only [pClass, ht, if_neg hn]
        rw [hc]
        rfl
    · have ht : takeW 97 l = .error (3, x.pos) := by simp only [takeW, hr, if_neg hp]
      rw [ht]
      simp only
      rw [if_neg (fun e => hp e.1)]
      have hc : pClass l = .error (3, x.pos) := by simp only [pClass, ht]
      rw [hc]
      rfl
/-- The model's pattern, its '(' and all. -/
def patM (l : List Wd) : Px Pt := andP (takeW 40 l) fun _ l1 => pPat l1
theorem ph_not {x : Wd} {r : List Wd} (hx : WdOk x) (h : nextW (x :: r) = .ok (x, r)) (hk : x.kind = 5) (ht : x.text = notT) : phM (x :: r) = andP (pClass r) fun cl l1 => .ok ((true, cl), l1) := by
  simp only [phM, h]
  rw [if_pos ⟨(rel97 x hx).1 hk, (ptW_sym hx hk).trans ht⟩]
theorem ph_plain {w : World} {pb g : Nat} {W : List Wd} {c : Nat} {s : Ps} {R : List Value} (hM : MB w pb g W c s R) (h : ∀ x r, s = .ok (x :: r) → ¬ (x.kind = 5 ∧ x.text = notT)) : onS s phM = andP (onS (lookS s) pClass) fun cl l1 => .ok ((false, cl), l1) := by
  cases s with
  | error f => rfl
  | ok l =>
    obtain ⟨x, r, rfl, hx, _⟩ := hM.head
    cases hr : nextW (x :: r) with
    | error f =>
      rw [(look_err hr).2]
      simp only [onS, phM, hr]
      rfl
    | ok p =>
      obtain ⟨y, r'⟩ := p
      obtain ⟨rfl, _⟩ := nextW_head hr
      rw [(look_ok hr).2]
      simp only [onS, phM, hr]
      rw [if_neg]
      rintro ⟨h1, h2⟩
      have hk := (rel97 y hx).2 h1
      exact h y r rfl ⟨hk, (ptW_sym hx hk).symm.trans h2⟩
theorem pat_st (s : Ps) : onS s patM = andP (onS (stS (onS s (takeW 40))) phM) fun h l2 => andP (pList pTerm 6 l2) fun ts l3 => .ok (⟨h.1, mkS h.2, ts⟩, l3) := by
  cases s with
  | error f => rfl
  | ok l =>
    simp only [onS, patM]
    cases takeW 40 l with
    | error f => rfl
    | ok q => exact pat_eq q.2
/-- A pattern's end. -/
theorem pat_list {s s1 : Ps} {hd : Bool × Bs} {rt : Px Wd} {M : List Tm} {r : Px (Bool × Bs)} (he : onS s patM = andP r fun h l2 => andP (pList pTerm 6 l2) fun ts l3 => .ok (⟨h.1, mkS h.2, ts⟩, l3)) (hs : s1 = stS r) (hr : ∀ y l, r = .ok (y, l) → y = hd)
    (hE : (∃ f, onS s1 (pList pTerm 6) = .error f ∧ rt = .error f) ∨ ∃ x l, onS s1 (pList pTerm 6) = .ok (M, l) ∧ rt = .ok (x, l)) :
    (∃ f, onS s patM = .error f ∧ rt = .error f) ∨ ∃ x l, onS s patM = .ok (⟨hd.1, mkS hd.2, M⟩, l) ∧ rt = .ok (x, l) := by
  subst hs
  rw [he]
  cases hh : r with
  | error f =>
    rw [hh] at hE
    rcases hE with ⟨f', h1, h2⟩ | ⟨x, l, h1, h2⟩
    · simp only [stS, onS] at h1
      injection h1 with h1
      exact .inl ⟨f, rfl, by rw [h2, h1]⟩
    · cases h1
  | ok q =>
    obtain ⟨h', l2⟩ := q
    have e := hr h' l2 hh
    subst e
    rw [hh] at hE
    simp only [stS, onS] at hE
    rw [andP_ok]
    rcases hE with ⟨f', h1, h2⟩ | ⟨x, l, h1, h2⟩
    · exact .inl ⟨f', by rw [h1]; rfl, h2⟩
    · exact .inr ⟨x, l, by rw [h1]; rfl, h2⟩
end Go.Proofs.YtdhpoagjmiligaaGreatDoor

namespace Go.Proofs.YtdhpoagjmiligaaGreatDoor
open Go.RowKit
attribute [local go_sem ↓] Go.wp_at_zero Go.wp_at_succ

def phC (h : Bool × Bs) (v : Value) : List Value := [.bool h.1, .string (mkS h.2), v]
theorem phC_one (h : Bool × Bs) (a : Option Addr) (n c : Nat) : ∀ v ∈ phC h (.slice a n c), v.oneCell' = true := by
  intro v hv
  simp [phC] at hv
  rcases hv with rfl | rfl | rfl <;> rfl
def lenPt (cb : Nat) (w : World) : Nat := match w.cell? ⟨cb, 2, none⟩ with
  | some v => sliceLen v
  | none => 0
/-- Behind the look for 'not'. -/
structure PnAt (w wx : World) (pb g rb cb : Nat) (W : List Wd) (c : Nat) (R : List Value) (s1 : Ps) (b : Bool) : Prop where
  mo : MkO (some pb) w wx
  mb : MB wx pb g W c (lookS s1) R
  rq : wx.heap[rb]? = some (.cells (phC (false, []) (.slice none 0 0)).toArray 80 (0, 0))
  cq : wx.heap[cb]? = some (.cells (phC (false, []) (.slice none 0 0)).toArray 80 (0, 0))
  yes : b = true → ∃ x r, s1 = .ok (x :: r) ∧ lookS s1 = .ok (x :: r) ∧ nextW (x :: r) = .ok (x, r) ∧ WdOk x ∧ x.kind = 5 ∧ x.text = notT
  no : b = false → ∀ x r, s1 = .ok (x :: r) → ¬ (x.kind = 5 ∧ x.text = notT)
/-- Ahead of the class. -/
structure PcAt (w wx : World) (pb g rb cb : Nat) (W : List Wd) (c : Nat) (R : List Value) (r : Px (Bool × Bs)) (s' : Ps) (ng : Bool) : Prop where
  mo : MkO (some pb) w wx
  mb : MB wx pb g W c s' R
  rq : wx.heap[rb]? = some (.cells (phC (false, []) (.slice none 0 0)).toArray 80 (0, 0))
  cq : wx.heap[cb]? = some (.cells (phC (ng, []) (.slice none 0 0)).toArray 80 (0, 0))
  eq : r = andP (onS s' pClass) fun cl l1 => .ok ((ng, cl), l1)
/-- In a pattern's list of terms. -/
structure PlAt (w wr : World) (pb g rb cb : Nat) (W : List Wd) (c : Nat) (R : List Value) (h : Bool × Bs) (s5 sx : Ps) (la : Option Addr) (lc : Nat) (M : List Tm) : Prop where
  mo : MkO (some pb) w wr
  mb : MB wr pb g W c sx R
  rq : wr.heap[rb]? = some (.cells (phC (false, []) (.slice none 0 0)).toArray 80 (0, 0))
  cq : wr.heap[cb]? = some (.cells (phC h (.slice la M.length lc)).toArray 80 (0, 0))
  ow : wr.ownsRow w.heap.size 111 6 (.slice la M.length lc) M.length (M.flatMap tmC)
  le : M.length ≤ 6
  pl : onS s5 (pList pTerm 6) = preL M (onS sx (pList pTerm (6 - M.length)))
theorem ph_ok {s' : Ps} {ng : Bool} {cl : Bs} {r : Px (Bool × Bs)} (he : r = andP (onS s' pClass) fun cl l1 => .ok ((ng, cl), l1)) (hc : ∀ y l, onS s' pClass = .ok (y, l) → y = cl) : stS r = stS (onS s' pClass) ∧ ∀ y l, r = .ok (y, l) → y = (ng, cl) := by
  subst he
  cases hp : onS s' pClass with
  | error f => exact ⟨rfl, fun y l h => by cases h⟩
  | ok q =>
    obtain ⟨x, l1⟩ := q
    refine ⟨rfl, fun y l h => ?_⟩
    rw [andP_ok] at h
    injection h with h
    injection h with h _
    rw [← h, hc x l1 hp]
set_option maxRecDepth 100000 in
set_option maxHeartbeats 6400000 in
theorem mpattern_any (w : World) (pb g : Nat) (W : List Wd) (c : Nat) (s : Ps) (R : List Value) (h : MB w pb g W c s R) : Calls Tryz.prog 36 #[.pointer (some ⟨pb, 0, none⟩)] w (MPost w pb g W c R (Rpt w.heap.size) (onS s patM)) := by
  have HM := hidX h
  have hpb := h.lt
  have hgl := h.glt
  have hfar := h.far
  have hcap := h.caps
  have hlen := h.len
  clear h
  go_enter Tryz.func36, Tryz.ntmps36
  go_upto_region 1 with fail
  refine lift_alloc ?_
  intro w1 hW1 hq1
  have hrb : w.heap.size < w1.heap.size := lt_of_block' hq1
  have HTK := hidX (mtake_any w1 pb g W c s R 1 40 rel40 (by decide) (by decide) (HM.out.below hW1))
  have HQ1 := hidX hq1
  have M1 := hidX (MkO.of_below hW1 : MkO (some pb) w w1)
  clear hW1 hq1
  go_upto_region 2 with (first | (go_at_call 34; refine HTK.out.mono ?_; rintro e w2 ⟨hm2, ⟨y, he2, _⟩, hb2⟩; obtain rfl : e = .returned (wdA y) := he2; unfold wdA) | fail)
  obtain ⟨s1, hs1⟩ : ∃ s1, s1 = stS (onS s (takeW 40)) := ⟨_, rfl⟩
  rw [← hs1] at hb2
  have HS1 := hidX hs1
  have M2 := hidX (M1.out.trans hm2)
  have HB2 := hidX hb2
  have hs2 := hm2.rest.size
  have HRB2 := hidX ((hm2.block w.heap.size hrb (fun e => by injection e; omega)).trans HQ1.out)
  clear hm2 hb2 HTK HQ1 M1 hs1
  go_upto_region 3 with fail
  refine lift_alloc ?_
  intro w3 hW3 hq3
  have hl3 : w2.heap.size < w3.heap.size := lt_of_block' hq3
  have HB3 := hidX (HB2.out.below hW3)
  have M3 := hidX (M2.out.trans (MkO.of_below hW3))
  have HRB3 := hidX ((hW3.block w.heap.size (by omega)).trans HRB2.out)
  have HC3 := hidX hq3
  have hwx : w.heap.size < w2.heap.size := by omega
  clear hW3 hq3 HB2 M2 HRB2
  go_cut [22] (fun b wx => ∃ bb, b = .bool bb ∧ PnAt w wx pb g w.heap.size w2.heap.size W c R s1 bb)
  case first =>
    have HLK := hidX (fun u (hu : MB u pb g W c s1 R) => look_any u pb g W c s1 R hu)
    obtain ⟨K, hK⟩ : ∃ K, K = lookK s1 := ⟨_, rfl⟩
    unfold LkPost at HLK
    rw [← hK] at HLK
    have HPN : Hid (∀ wx bb, MkO (some pb) w3 wx → MB wx pb g W c (lookS s1) R → (bb = true → ∃ x r, s1 = .ok (x :: r) ∧ lookS s1 = .ok (x :: r) ∧ nextW (x :: r) = .ok (x, r) ∧ WdOk x ∧ x.kind = 5 ∧ x.text = notT) → (bb = false → ∀ x r, s1 = .ok (x :: r) → ¬ (x.kind = 5 ∧ x.text = notT)) → PnAt w wx pb g w.heap.size w2.heap.size W c R s1 bb) := show ∀ _, _ from fun wx bb hm hb hy hn => ⟨M3.out.trans hm, hb, (hm.block w.heap.size (by omega) (fun e => by injection e; omega)).trans HRB3.out, (hm.block w2.heap.size (by omega) (fun e => by injection e; omega)).trans HC3.out, hy, hn⟩
    by_cases hk : K = 5
    · obtain ⟨x, r, hs, hxk, hot, hls, hxo, hxl⟩ := look_yes HB3.out (by decide) (by decide) (hK.symm.trans hk)
      have HYES : Hid (x.text = notT → ∃ x r, s1 = .ok (x :: r) ∧ lookS s1 = .ok (x :: r) ∧ nextW (x :: r) = .ok (x, r) ∧ WdOk x ∧ x.kind = 5 ∧ x.text = notT) := show _ → _ from fun e => ⟨x, r, hs, hls, hot, hxo, hxk, e⟩
      have HNO : Hid (x.text ≠ notT → ∀ x r, s1 = .ok (x :: r) → ¬ (x.kind = 5 ∧ x.text = notT)) := show _ → _ from fun e y r' e' => fun e2 => e (by
        rw [hs] at e'
        injection e' with e'
        injection e' with e' _
        rw [e']
        exact e2.2)
      have HLS := hidX hls
      rw [hls] at HLK
      have e1 : (K == 5) = true := by simp [hk]
      rw [hs] at HLK
      have HB4 := hidX (show MB w3 pb g W c (.ok (x :: r)) R by have := HB3.out; rw [hs] at this; exact this)
      obtain ⟨hq, hkl, hrg, hd, hdr⟩ := HB4.out.cells
      have c0 := cell_of hq (j := 0) rfl
      have c1 := cell_of hq (j := 1) rfl
      have c2 := hrg 2 _ rfl
      obtain ⟨k, hkk⟩ : ∃ k, k = kOf W r := ⟨_, rfl⟩
      rw [← hkk] at c1 c2 hkl
      have HKK := hidX hkk
      have hbq := beq_lit (mkS x.text) notT
      rw [bs_mkS] at hbq
      have hp3 := HB3.out.lt
      have hg3 := HB3.out.glt
      clear hk hK hxk hot hls hq hrg hd hdr hkk hs HB3
      by_cases ht : x.text = notT
      · have HY := hidX (HYES.out ht)
        rw [decide_eq_true ht] at hbq
        replace hbq : ((mkS x.text).toList == [110, 111, 116]) = true := hbq
        clear ht HYES HNO
        refine wp_region_noPanic ?_
        refine wp_region_held_drew (S := (fun u => u.cell? ⟨pb, 0, none⟩ = some (.slice (some ⟨g, 0, none⟩) W.length c) ∧ u.cell? ⟨pb, 1, none⟩ = some (.int .i64 (k : Int)) ∧ u.cell? ⟨g, k * 4 + 2, none⟩ = some (.string (mkS x.text)))) (by kernel_rfl) ?_ (fun hHeld => ?_)
        · (try dsimp only)
          exact ⟨c0, c1, c2⟩
        refine tk 0 hHeld ?_
        (try simp only [pA, pZ, pS])
        refine wpAnyH_ready (rs := [1]) (by kernel_rfl) (by simp) ?_
        refine AllReadyH.cons (o := ?o1) ?ho1 (fun K hK => ?step1) AllReadyH.nil
        case ho1 => (simp only [List.getElem?_toArray, List.getElem?_cons_succ, List.getElem?_cons_zero]; rfl)
        go_simp
        (go_at_call 19; refine (HLK.out _ (HB4.out.below (Below.refl _ _).drew)).mono ?_; rintro e w2 ⟨rfl, hm2, hb2⟩; have hq2 := hb2.cells.1; have hg2 := hb2.cells.2.2.1 2 _ rfl; rw [← HKK.out] at hq2 hg2; have u0 := cell_of hq2 (j := 0) rfl; have u1 := cell_of hq2 (j := 1) rfl; clear hq2)
        (try go_wp2_with fail)
        refine hK.out _ _ ?hS1 (fun hHeld' => ?rest1)
        case hS1 => ((try dsimp only); exact ⟨u0, u1, hg2⟩)
        clear hK K
        (first | simp only [pA, pZ, pS] | simp only [pN] | skip)
        clear hHeld
        have hHeld := hHeld'
        clear hHeld'
        refine tk 2 hHeld ?_
        (try simp only [pA, pZ, pS])
        refine tk 3 hHeld ?_
        (try simp only [pA, pZ, pS])
        refine tk 4 hHeld ?_
        (try simp only [pA, pZ, pS])
        refine tk 5 hHeld ?_
        (try simp only [pA, pZ, pS])
        refine tk 6 hHeld ?_
        (try simp only [pA, pZ, pS])
        refine tk 7 hHeld ?_
        (try simp only [pA, pZ, pS])
        refine tk 8 hHeld ?_
        (try simp only [pA, pZ, pS])
        refine tk 9 hHeld ?_
        (try simp only [pA, pZ, pS])
        refine tk 10 hHeld ?_
        (try simp only [pA, pZ, pS])
        refine tk 11 hHeld ?_
        (try simp only [pA, pZ, pS])
        refine tk 12 hHeld ?_
        (try simp only [pA, pZ, pS])
        refine tk 13 hHeld ?_
        (try simp only [pA, pZ, pS])
        refine tk 14 hHeld ?_
        (try simp only [pA, pZ, pS])
        refine tk 15 hHeld ?_
        (try simp only [pA, pZ, pS])
        refine tk 16 hHeld ?_
        (try simp only [pA, pZ, pS])
        refine wpAnyH_done (by kernel_rfl) ?_ _
        refine NoPanic.normal ?_
        go_wp2_with fail
        go_meet
        exact ⟨true, rfl, HPN.out _ true (MkO.trans ((MkO.refl _ _).drew) hm2) (by rw [HLS.out]; exact hb2) (fun _ => HY.out) (fun e => by cases e)⟩
      · have HN := hidX (HNO.out ht)
        rw [decide_eq_false ht] at hbq
        replace hbq : ((mkS x.text).toList == [110, 111, 116]) = false := hbq
        clear ht HYES HNO
        refine wp_region_noPanic ?_
        refine wp_region_held_drew (S := (fun u => u.cell? ⟨pb, 0, none⟩ = some (.slice (some ⟨g, 0, none⟩) W.length c) ∧ u.cell? ⟨pb, 1, none⟩ = some (.int .i64 (k : Int)) ∧ u.cell? ⟨g, k * 4 + 2, none⟩ = some (.string (mkS x.text)))) (by kernel_rfl) ?_ (fun hHeld => ?_)
        · (try dsimp only)
          exact ⟨c0, c1, c2⟩
        refine tk 0 hHeld ?_
        (try simp only [pA, pZ, pS])
        refine wpAnyH_ready (rs := [1]) (by kernel_rfl) (by simp) ?_
        refine AllReadyH.cons (o := ?o2) ?ho2 (fun K hK => ?step2) AllReadyH.nil
        case ho2 => (simp only [List.getElem?_toArray, List.getElem?_cons_succ, List.getElem?_cons_zero]; rfl)
        go_simp
        (go_at_call 19; refine (HLK.out _ (HB4.out.below (Below.refl _ _).drew)).mono ?_; rintro e w2 ⟨rfl, hm2, hb2⟩; have hq2 := hb2.cells.1; have hg2 := hb2.cells.2.2.1 2 _ rfl; rw [← HKK.out] at hq2 hg2; have u0 := cell_of hq2 (j := 0) rfl; have u1 := cell_of hq2 (j := 1) rfl; clear hq2)
        (try go_wp2_with fail)
        refine hK.out _ _ ?hS2 (fun hHeld' => ?rest2)
        case hS2 => ((try dsimp only); exact ⟨u0, u1, hg2⟩)
        clear hK K
        (first | simp only [pA, pZ, pS] | simp only [pN] | skip)
        clear hHeld
        have hHeld := hHeld'
        clear hHeld'
        refine tk 2 hHeld ?_
        (try simp only [pA, pZ, pS])
        refine tk 3 hHeld ?_
        (try simp only [pA, pZ, pS])
        refine tk 4 hHeld ?_
        (try simp only [pA, pZ, pS])
        refine tk 5 hHeld ?_
        (try simp only [pA, pZ, pS])
        refine tk 6 hHeld ?_
        (try simp only [pA, pZ, pS])
        refine tk 7 hHeld ?_
        (try simp only [pA, pZ, pS])
        refine tk 8 hHeld ?_
        (try simp only [pA, pZ, pS])
        refine tk 9 hHeld ?_
        (try simp only [pA, pZ, pS])
        refine tk 10 hHeld ?_
        (try simp only [pA, pZ, pS])
        refine tk 11 hHeld ?_
        (try simp only [pA, pZ, pS])
        refine tk 12 hHeld ?_
        (try simp only [pA, pZ, pS])
        refine tk 13 hHeld ?_
        (try simp only [pA, pZ, pS])
        refine tk 14 hHeld ?_
        (try simp only [pA, pZ, pS])
        refine tk 15 hHeld ?_
        (try simp only [pA, pZ, pS])
        refine tk 16 hHeld ?_
        (try simp only [pA, pZ, pS])
        refine wpAnyH_done (by kernel_rfl) ?_ _
        refine NoPanic.normal ?_
        go_wp2_with fail
        go_meet
        exact ⟨false, rfl, HPN.out _ false (MkO.trans ((MkO.refl _ _).drew) hm2) (by rw [HLS.out]; exact hb2) (fun e => by cases e) (fun _ => HN.out)⟩
    · have HN : Hid (∀ x r, s1 = .ok (x :: r) → ¬ (x.kind = 5 ∧ x.text = notT)) := show ∀ _, _ from fun y r' e => fun e' => hk (by
        have := (look_ok (nextN (r := r') (show ¬ y.kind = 7 by omega) (show ¬ y.kind = 8 by omega))).1
        rw [hK, e, this]
        exact e'.1)
      have e1 : (K == 5) = false := by simp [hk]
      have HB4 := hidX HB3.out
      clear hk hK HB3
      refine wp_region_noPanic ?_
      refine wp_region_held_drew (S := (fun _ => True)) (by kernel_rfl) ?_ (fun hHeld => ?_)
      · (try dsimp only)
        all_goals trivial
      refine tk 0 hHeld ?_
      (try simp only [pA, pZ, pS])
      refine wpAnyH_ready (rs := [1]) (by kernel_rfl) (by simp) ?_
      refine AllReadyH.cons (o := ?o3) ?ho3 (fun K hK => ?step3) AllReadyH.nil
      case ho3 => (simp only [List.getElem?_toArray, List.getElem?_cons_succ, List.getElem?_cons_zero]; rfl)
      go_simp
      (go_at_call 19; refine (HLK.out _ (HB4.out.below (Below.refl _ _).drew)).mono ?_; rintro e w2 ⟨rfl, hm2, hb2⟩)
      (try go_wp2_with fail)
      refine hK.out _ _ ?hS3 (fun hHeld' => ?rest3)
      case hS3 => ((try dsimp only); all_goals trivial)
      clear hK K
      (first | simp only [pA, pZ, pS] | simp only [pN] | skip)
      clear hHeld
      have hHeld := hHeld'
      clear hHeld'
      refine tk 2 hHeld ?_
      (try simp only [pA, pZ, pS])
      refine tk 3 hHeld ?_
      (try simp only [pA, pZ, pS])
      refine tn 4 hHeld ?_
      refine tn 5 hHeld ?_
      refine tn 6 hHeld ?_
      refine tn 7 hHeld ?_
      (try simp only [pA, pZ, pS])
      refine tn 8 hHeld ?_
      refine tn 9 hHeld ?_
      refine tn 10 hHeld ?_
      refine tn 11 hHeld ?_
      (try simp only [pA, pZ, pS])
      refine tn 12 hHeld ?_
      refine tn 13 hHeld ?_
      refine tn 14 hHeld ?_
      refine tn 15 hHeld ?_
      (try simp only [pA, pZ, pS])
      refine tk 16 hHeld ?_
      (try simp only [pA, pZ, pS])
      refine wpAnyH_done (by kernel_rfl) ?_ _
      refine NoPanic.normal ?_
      go_wp2_with fail
      go_meet
      exact ⟨false, rfl, HPN.out _ false (MkO.trans ((MkO.refl _ _).drew) hm2) hb2 (fun e => by cases e) (fun _ => HN.out)⟩
  case rest =>
    obtain ⟨bb, hbv, hpn⟩ := hcut
    obtain ⟨w4, rfl⟩ : ∃ v, v = wc := ⟨wc, rfl⟩
    subst hbv
    have HPN := hidX hpn
    have hcl : w2.heap.size < w4.heap.size := lt_of_block' hpn.cq
    have hg4 := hpn.mb.glt
    clear M3 HRB3 HC3 hpn
    go_upto_if 22 with fail
    go_cut [] (fun wx => ∃ s' ng, PcAt w wx pb g w.heap.size w2.heap.size W c R (onS s1 phM) s' ng)
    case first =>
      cases bb with
      | true =>
        obtain ⟨x, r, hs, hls, hot, hxo, hxk, hxt⟩ := HPN.out.yes rfl
        have HEQ : Hid (onS s1 phM = andP (onS (.ok r) pClass) fun cl l1 => .ok ((true, cl), l1)) := show _ = _ from by rw [hs]; exact ph_not hxo hot hxk hxt
        have HX : Hid (x.kind ≠ 0) := show x.kind ≠ 0 from by omega
        have hb4 := HPN.out.mb
        rw [hls] at hb4
        obtain ⟨hq4, hkl4, hrg4, hd4, hdr4⟩ := hb4.cells
        have d1 := cell_of hq4 (j := 1) rfl
        have z1 := froz_of hq4 1
        have HQ4 := hidX hq4
        have HB4 := hidX hb4
        clear hs hls hot hxo hxk hxt hq4 hrg4 hd4 hdr4 hb4
        go_upto_region 5 with fail
        refine lift_setW HQ4.out ?_
        intro w5 hq5 ht5
        replace hq5 : w5.heap[pb]? = some (.cells (.slice (some ⟨g, 0, none⟩) W.length c :: .int .i64 ((kOf W r + 1 : Nat) : Int) :: .int .i64 0 :: .int .i64 ((0 : Nat) : Int) :: R).toArray 48 (0, 0)) := by
          rw [hq5]
          simp
        have HB5 := hidX (HB4.out.next HX.out ht5 hq5)
        have M5 := hidX (HPN.out.mo.trans ht5.mko)
        have s5 := ht5.size
        have HR5 := hidX ((ht5.block w.heap.size (by omega)).trans HPN.out.rq)
        have hc5 := (ht5.block w2.heap.size (by omega)).trans HPN.out.cq
        have f0 := cell_of hc5 (j := 0) rfl
        have y0 := froz_of hc5 0
        have HC5 := hidX hc5
        have hl5 : w2.heap.size < w5.heap.size := lt_of_block' hc5
        clear hq5 ht5 hc5 d1 z1 HQ4
        go_wp2_with fail
        refine lift_setW HC5.out ?_
        intro w6 hq6 ht6
        clear f0 y0
        go_meet
        exact ⟨.ok r, true, M5.out.turn ht6 (by omega), HB5.out.turned ht6 (by omega) (by omega), (ht6.block w.heap.size (by omega)).trans HR5.out, by simpa [phC] using hq6, HEQ.out⟩
      | false =>
        go_wp2_with fail
        go_meet
        refine ⟨lookS s1, false, HPN.out.mo, HPN.out.mb, HPN.out.rq, HPN.out.cq, ?_⟩
        have hno := HPN.out.no rfl
        clear hcl
        exact ph_plain HB3.out hno
    case rest =>
      obtain ⟨s', ng, hpc⟩ := hcut
      obtain ⟨w5, rfl⟩ : ∃ v, v = wc := ⟨wc, rfl⟩
      have HPC := hidX hpc
      have hcl5 : w2.heap.size < w5.heap.size := lt_of_block' hpc.cq
      have HCL := hidX (mclass_any w5 pb g W c s' R hpc.mb)
      clear hpc hcl HPN hg4
      go_upto_region 7 with (first | (go_at_call 59; refine HCL.out.mono ?_; rintro e w6 ⟨hm6, ⟨cl, he6, hcl6⟩, hb6⟩; obtain rfl : e = .returned (.string (mkS cl)) := he6; have hs6 := hm6.rest.size; have hq6 := (hm6.block w2.heap.size (by omega) (fun e => by injection e; omega)).trans HPC.out.cq; have d1 := cell_of hq6 (j := 1) rfl; have e1 := froz_of hq6 1) | fail)
      refine lift_setW hq6 ?_
      intro w7 hq7 ht7
      have HP := hidX (ph_ok HPC.out.eq hcl6)
      obtain ⟨hd, hhd⟩ : ∃ hd : Bool × Bs, hd = (ng, cl) := ⟨_, rfl⟩
      have HHD := hidX hhd
      have HR := hidX (show PlAt w w7 pb g w.heap.size w2.heap.size W c R hd (stS (onS s1 phM)) (stS (onS s1 phM)) none 0 [] from ⟨(HPC.out.mo.trans hm6).turn ht7 (by omega), by rw [HP.out.1]; exact hb6.turned ht7 (by omega) (by have := hb6.glt; omega), (ht7.block w.heap.size (by omega)).trans ((hm6.block w.heap.size (by omega) (fun e => by injection e; omega)).trans HPC.out.rq), by rw [hhd]; simpa [phC] using hq7, World.ownsRow_nil _ _ _ _, by simp, by unfold preL; cases onS (stS (onS s1 phM)) (pList pTerm 6) <;> rfl⟩)
      clear hm6 hb6 hq6 hq7 ht7 d1 e1 hcl6 HCL hhd HPC
      go_wp2_with fail
      go_loopw [] (fun wr => ∃ la lc M sx, PlAt w wr pb g w.heap.size w2.heap.size W c R hd (stS (onS s1 phM)) sx la lc M) (fun wr => 6 - lenPt w2.heap.size wr)
      case atStart => exact ⟨none, 0, [], _, HR.out⟩
      case round =>
        obtain ⟨la, lc, M, sx, hls⟩ := hrel
        have LS := hidX hls
        have c3 := cell_of hls.cq (j := 2) rfl
        have hML := hls.le
        have HML : Hid (lenPt w2.heap.size wr = M.length) := show _ = _ from by unfold lenPt; rw [c3]; rfl
        have HIT := hidX (mitem_any wr pb g W c sx R (M.length : Int) 6 hls.mb)
        have hclr : w2.heap.size < wr.heap.size := lt_of_block' hls.cq
        have hglr : g < wr.heap.size := hls.mb.glt
        unfold ItPost at HIT
        clear hls HR
        cases hI : itemB (M.length : Int) 6 sx with
        | false =>
          have HE := hidX (itemG_end (rd := pTerm) pTerm_endM LS.out.mb hI hML M)
          rw [hI] at HIT
          have HTK := hidX (fun u (hu : MB u pb g W c (itemS (M.length : Int) 6 sx) R) => mtake_any u pb g W c (itemS (M.length : Int) 6 sx) R 2 41 rel41 (by decide) (by decide) hu)
          clear hI
          go_upto_region 10 with (first | (go_at_call 60; refine HIT.out.mono ?_; rintro e w6 ⟨rfl, hm6, hb6⟩) | (go_at_call 34; refine (HTK.out _ hb6).mono ?_; rintro e w7 ⟨hm7, ⟨y7, he7, _⟩, hb7⟩; obtain rfl : e = .returned (wdA y7) := he7; unfold wdA) | fail)
          have hs6 := hm6.rest.size
          have hs7 := hm7.rest.size
          have M7 := hidX (hm6.trans hm7)
          have hrq := (M7.out.block w.heap.size (by omega) (fun e => by injection e; omega)).trans LS.out.rq
          have hcq := (M7.out.block w2.heap.size (by omega) (fun e => by injection e; omega)).trans LS.out.cq
          have OW7 := hidX (own_mko LS.out.ow M7.out hpb)
          have HB7 := hidX hb7
          clear hm6 hb6 hm7 hb7 HTK HIT c3
          go_wp2_with (first | (refine wpList_load_blk (by rfl) 80 (.tmp 3) (by rfl) w2.heap.size (phC hd (.slice la M.length lc)) (by rfl) 80 (0, 0) hcq _ Tryz.underlying80 rfl infoPtP ?_) | (refine wpList_store_blk (by rfl) 80 (.tmp 2) (.tmp 48) (by rfl) w.heap.size (phC hd (.slice la M.length lc)) (by rfl) (by rfl) _ 80 hrq (by rfl) infoPtP (phC_one _ _ _ _) ?_; intro w8 hb8 ht8) | fail)
          have hld := run_loadVar_mid (P := Tryz.prog) w8 w.heap.size 0 80 (phC hd (.slice la M.length lc)) _ (range_blk hb8.out) Tryz.underlying80 rfl infoPtP
          (try go_frame)
          refine bodyPost_ret (v := .agg (phC hd (.slice la M.length lc)).toArray) (by simp [results, Tryz.results36, asAddr, hld]) rfl ?_
          have M8 := ((LS.out.mo.trans M7.out).turn ht8.out (Nat.le_refl _))
          have HB8 := HB7.out.turned ht8.out (by omega) (by omega)
          have OW8 := own_turn OW7.out ht8.out hrq (by decide)
          have HE2 := HE.out
          rw [← LS.out.pl] at HE2
          have hpe := pat_st s
          rw [← HS1.out] at hpe
          rcases pat_list hpe rfl (fun y l e => (HP.out.2 y l e).trans HHD.out.symm) HE2 with ⟨f, h1, h2⟩ | ⟨x, l, h1, h2⟩
          · rw [h2] at HB8
            exact MPost.err ⟨hd.1, mkS hd.2, M⟩ h1 M8 ⟨la, lc, rfl, OW8⟩ HB8
          · rw [h2] at HB8
            exact MPost.good h1 M8 ⟨la, lc, rfl, OW8⟩ HB8
        | true =>
          rw [hI] at HIT
          have HVA := hidX (fun u (hu : MB u pb g W c (itemS (M.length : Int) 6 sx) R) => mterm_any u pb g W c (itemS (M.length : Int) 6 sx) R hu)
          have HMO := hidX (itemG_more (rd := pTerm) LS.out.mb hI)
          clear hI
          go_upto_region 8 with (first | (go_at_call 60; refine HIT.out.mono ?_; rintro e w6 ⟨rfl, hm6, hb6⟩) | fail)
          have hs6 := hm6.rest.size
          have hcq6 := (hm6.block w2.heap.size (by omega) (fun e => by injection e; omega)).trans LS.out.cq
          have c36 := cell_of hcq6 (j := 2) rfl
          have HCQ6 := hidX hcq6
          have HRQ6 := hidX ((hm6.block w.heap.size (by omega) (fun e => by injection e; omega)).trans LS.out.rq)
          have OW6 := hidX (own_mko LS.out.ow hm6 hpb)
          have HB6 := hidX hb6
          have M6 := hidX (LS.out.mo.trans hm6)
          clear hm6 hb6 hcq6 HIT c3
          refine wp_region_noPanic ?_
          refine wp_region_held_drew (S := (fun _ => True)) (by kernel_rfl) ?_ (fun hHeld => ?_)
          · (try dsimp only)
            all_goals trivial
          refine tk 0 hHeld ?_
          (try simp only [pA, pZ, pS])
          refine tk 2 hHeld ?_
          (try simp only [pA, pZ, pS])
          refine wpAnyH_ready (rs := [1, 3]) (by kernel_rfl) (by simp) ?_
          refine AllReadyH.cons (o := ?o4) ?ho4 (fun K hK => ?step4) (AllReadyH.cons (o := ?o5) ?ho5 (fun K hK => ?step5) AllReadyH.nil)
          case ho4 => (simp only [List.getElem?_toArray, List.getElem?_cons_succ, List.getElem?_cons_zero]; rfl)
          case ho5 => (simp only [List.getElem?_toArray, List.getElem?_cons_succ, List.getElem?_cons_zero]; rfl)
          case step4 =>
            go_simp
            refine hK.out _ _ ?hS6 (fun hHeld' => ?rest6)
            case hS6 => ((try dsimp only); all_goals trivial)
            clear hK K
            (try simp only [pA, pZ, pS])
            clear hHeld
            have hHeld := hHeld'
            clear hHeld'
            refine wpAnyH_ready (rs := [3]) (by kernel_rfl) (by simp) ?_
            refine AllReadyH.cons (o := ?o7) ?ho7 (fun K hK => ?step7) AllReadyH.nil
            case ho7 => (simp only [List.getElem?_toArray, List.getElem?_cons_succ, List.getElem?_cons_zero]; rfl)
            go_simp
            (go_at_call 71; refine (HVA.out _ (HB6.out.below ((Below.refl _ _).drew))).mono ?_; rintro e w7 ⟨hm7, ⟨v, he7, hv7⟩, hb7⟩; obtain rfl : e = .returned (.agg #[.int .i64 v.kind, .int .i64 v.op, .string v.var, .int .i64 v.val.kind, .int .i64 v.val.num, .string v.val.sym]) := he7; have hs7 := hm7.rest.size; simp only [World.drew_size'] at hs7; have hcq7 := (hm7.block w2.heap.size (show w2.heap.size < w6.heap.size by omega) (fun e => by injection e; omega)).trans HCQ6.out; have c37 := cell_of hcq7 (j := 2) rfl)
            refine hK.out _ _ ?hS8 (fun hHeld' => ?rest8)
            case hS8 => ((try dsimp only); all_goals trivial)
            clear hK K
            (try simp only [pA, pZ, pS])
            clear hHeld
            have hHeld := hHeld'
            clear hHeld'
            refine wpAnyH_ready (rs := [4]) (by kernel_rfl) (by simp) ?_
            refine AllReadyH.cons (o := ?o9) ?ho9 (fun K hK => ?step9) AllReadyH.nil
            case ho9 => (simp only [List.getElem?_toArray, List.getElem?_cons_succ, List.getElem?_cons_zero]; rfl)
            go_simp
            have HA7 := hidX (fun o' => (Below.refl _ _).alloc (Nat.le_refl _) o' : ∀ o', Below w7.heap.size w7 (w7.alloc o')); have c37a : ∀ o', (w7.alloc o').cell? ⟨w2.heap.size, 2, none⟩ = some (.slice la M.length lc) := fun o' => cell_below (HA7.out o') c37
            refine hK.out _ _ ?hS10 (fun hHeld' => ?rest10)
            case hS10 => ((try dsimp only); all_goals trivial)
            clear hK K
            (try simp only [pA, pZ, pS])
            clear hHeld
            have hHeld := hHeld'
            clear hHeld'
            have M7 := hidX ((M6.out.drew).trans hm7)
            have OW7 := hidX (own_mko (own_bel OW6.out ((Below.refl _ _).drew)) hm7 hpb)
            have hws7 : w.heap.size ≤ w7.heap.size := by omega
            refine wpAnyH_ready (rs := [5]) (by kernel_rfl) (by simp) ?_
            refine AllReadyH.cons (o := ?o11) ?ho11 (fun K hK => ?step11) AllReadyH.nil
            case ho11 => (simp only [List.getElem?_toArray, List.getElem?_cons_succ, List.getElem?_cons_zero]; rfl)
            (refine step_append_any (by rfl) (.tmp 40) (.tmp 43) 78 (by rfl) w.heap.size 111 _ 6 64 Tryz.underlying78 infoTF1 (by rfl) (by omega) _ M.length _ (by rfl) (own_bel OW7.out (HA7.out _)) (some ⟨_, 0, none⟩) 1 1 (by rfl) (tmC v) (by rfl) (fun e => by cases e) (news_new _ _ _ _ (by simp)) (tmC_one v) (by unfold maxLen; omega) (by omega) (by simp; omega) ?_; intro a8 c8 w8 ho8 hg8 hl8)
            refine hK.out _ _ ?hS12 (fun hHeld' => ?rest12)
            case hS12 => ((try dsimp only); all_goals trivial)
            clear hK K
            (try simp only [pA, pZ, pS])
            clear hHeld
            have hHeld := hHeld'
            clear hHeld'
            have hrow : ∀ k, (Value.slice la M.length lc).ownBlock = some k → w.heap.size ≤ k := fun k hk => (OW7.out.lt k hk).1
            have TY := hidX (fun o' g hg => own_type (own_bel OW7.out (HA7.out o')) (k := g) hg)
            have M8 := hidX ((M7.out.trans (MkO.of_below (HA7.out _))).grown hg8.out hrow)
            have HBA := hidX (fun o' => hb7.below (HA7.out o'))
            have HB8 := hidX ((HBA.out _).blocks (hg8.out.block pb (HBA.out _).lt (fun e => by have := hrow pb e.symm; omega)) (hg8.out.block g (HBA.out _).glt (fun e => by have := hrow g e.symm; omega)))
            have HCA := hidX (fun o' => ((HA7.out o').block w2.heap.size (by omega)).trans hcq7)
            have HC8 := hidX (box_grown (HCA.out _) hg8.out (TY.out _) (by decide))
            have HRA := hidX (fun o' => ((HA7.out o').block w.heap.size (by omega)).trans ((hm7.block w.heap.size (show w.heap.size < w6.heap.size by omega) (fun e => by injection e; omega)).trans HRQ6.out))
            have HR8 := hidX (box_grown (HRA.out _) hg8.out (TY.out _) (by decide))
            have f3 := cell_of HC8.out (j := 2) rfl
            have g3 := froz_of HC8.out 2
            have hs8 : w2.heap.size < w8.heap.size := lt_of_block' HC8.out
            refine tk 6 hHeld ?_
            (try simp only [pA, pZ, pS])
            refine wpAnyH_ready (rs := [7]) (by kernel_rfl) (by simp) ?_
            refine AllReadyH.cons (o := ?o13) ?ho13 (fun K hK => ?step13) AllReadyH.nil
            case ho13 => (simp only [List.getElem?_toArray, List.getElem?_cons_succ, List.getElem?_cons_zero]; rfl)
            go_simp
            refine hK.out _ _ ?hS14 (fun hHeld' => ?rest14)
            case hS14 => ((try dsimp only); all_goals trivial)
            clear hK K
            (try dsimp only)
            clear hHeld
            have hHeld := hHeld'
            clear hHeld'
            refine wpAnyH_done (by kernel_rfl) ?_ _
            refine NoPanic.normal ?_
            clear hHeld
            refine lift_setW HC8.out ?_
            intro w9 hq9 ht9
            replace hq9 : w9.heap[w2.heap.size]? = some (.cells (phC hd (.slice a8 (M.length + 1) c8)).toArray 80 (0, 0)) := by
              rw [hq9]
              simp [phC]
            obtain ⟨hn6, hpl⟩ := HMO.out v hv7 M
            have L9 := hidX (show PlAt w w9 pb g w.heap.size w2.heap.size W c R hd (stS (onS s1 phM)) (stS (onS (itemS (M.length : Int) 6 sx) pTerm)) a8 c8 (M ++ [v]) from ⟨M8.out.turn ht9 (by omega), HB8.out.turned ht9 (by omega) (by omega), (ht9.block w.heap.size (by omega)).trans HR8.out, by simpa using hq9, by simpa using own_turn ho8.out ht9 HC8.out (by decide), by simp; omega, by rw [LS.out.pl, hpl]; simp⟩)
            have HL9 : Hid (lenPt w2.heap.size w9 = M.length + 1) := show _ = _ from by unfold lenPt; rw [cell_of hq9 (j := 2) rfl]; rfl
            clear hq9 ht9 f3 g3 hpl
            go_wp2_with fail
            go_roundw
            case rel => exact ⟨a8, c8, M ++ [v], _, L9.out⟩
            case measure =>
              change 6 - lenPt w2.heap.size w9 < 6 - lenPt w2.heap.size wr
              rw [HL9.out, HML.out]
              omega
          case step5 =>
            go_simp
            (go_at_call 71; refine (HVA.out _ (HB6.out.below ((Below.refl _ _).drew))).mono ?_; rintro e w7 ⟨hm7, ⟨v, he7, hv7⟩, hb7⟩; obtain rfl : e = .returned (.agg #[.int .i64 v.kind, .int .i64 v.op, .string v.var, .int .i64 v.val.kind, .int .i64 v.val.num, .string v.val.sym]) := he7; have hs7 := hm7.rest.size; simp only [World.drew_size'] at hs7; have hcq7 := (hm7.block w2.heap.size (show w2.heap.size < w6.heap.size by omega) (fun e => by injection e; omega)).trans HCQ6.out; have c37 := cell_of hcq7 (j := 2) rfl)
            refine hK.out _ _ ?hS15 (fun hHeld' => ?rest15)
            case hS15 => ((try dsimp only); all_goals trivial)
            clear hK K
            (try simp only [pA, pZ, pS])
            clear hHeld
            have hHeld := hHeld'
            clear hHeld'
            refine wpAnyH_ready (rs := [1, 4]) (by kernel_rfl) (by simp) ?_
            refine AllReadyH.cons (o := ?o16) ?ho16 (fun K hK => ?step16) (AllReadyH.cons (o := ?o17) ?ho17 (fun K hK => ?step17) AllReadyH.nil)
            case ho16 => (simp only [List.getElem?_toArray, List.getElem?_cons_succ, List.getElem?_cons_zero]; rfl)
            case ho17 => (simp only [List.getElem?_toArray, List.getElem?_cons_succ, List.getElem?_cons_zero]; rfl)
            case step16 =>
              go_simp
              refine hK.out _ _ ?hS18 (fun hHeld' => ?rest18)
              case hS18 => ((try dsimp only); all_goals trivial)
              clear hK K
              (try simp only [pA, pZ, pS])
              clear hHeld
              have hHeld := hHeld'
              clear hHeld'
              refine wpAnyH_ready (rs := [4]) (by kernel_rfl) (by simp) ?_
              refine AllReadyH.cons (o := ?o19) ?ho19 (fun K hK => ?step19) AllReadyH.nil
              case ho19 => (simp only [List.getElem?_toArray, List.getElem?_cons_succ, List.getElem?_cons_zero]; rfl)
              go_simp
              have HA7 := hidX (fun o' => (Below.refl _ _).alloc (Nat.le_refl _) o' : ∀ o', Below w7.heap.size w7 (w7.alloc o')); have c37a : ∀ o', (w7.alloc o').cell? ⟨w2.heap.size, 2, none⟩ = some (.slice la M.length lc) := fun o' => cell_below (HA7.out o') c37
              refine hK.out _ _ ?hS20 (fun hHeld' => ?rest20)
              case hS20 => ((try dsimp only); all_goals trivial)
              clear hK K
              (try simp only [pA, pZ, pS])
              clear hHeld
              have hHeld := hHeld'
              clear hHeld'
              have M7 := hidX ((M6.out.drew).trans hm7)
              have OW7 := hidX (own_mko (own_bel OW6.out ((Below.refl _ _).drew)) hm7 hpb)
              have hws7 : w.heap.size ≤ w7.heap.size := by omega
              refine wpAnyH_ready (rs := [5]) (by kernel_rfl) (by simp) ?_
              refine AllReadyH.cons (o := ?o21) ?ho21 (fun K hK => ?step21) AllReadyH.nil
              case ho21 => (simp only [List.getElem?_toArray, List.getElem?_cons_succ, List.getElem?_cons_zero]; rfl)
              (refine step_append_any (by rfl) (.tmp 40) (.tmp 43) 78 (by rfl) w.heap.size 111 _ 6 64 Tryz.underlying78 infoTF1 (by rfl) (by omega) _ M.length _ (by rfl) (own_bel OW7.out (HA7.out _)) (some ⟨_, 0, none⟩) 1 1 (by rfl) (tmC v) (by rfl) (fun e => by cases e) (news_new _ _ _ _ (by simp)) (tmC_one v) (by unfold maxLen; omega) (by omega) (by simp; omega) ?_; intro a8 c8 w8 ho8 hg8 hl8)
              refine hK.out _ _ ?hS22 (fun hHeld' => ?rest22)
              case hS22 => ((try dsimp only); all_goals trivial)
              clear hK K
              (try simp only [pA, pZ, pS])
              clear hHeld
              have hHeld := hHeld'
              clear hHeld'
              have hrow : ∀ k, (Value.slice la M.length lc).ownBlock = some k → w.heap.size ≤ k := fun k hk => (OW7.out.lt k hk).1
              have TY := hidX (fun o' g hg => own_type (own_bel OW7.out (HA7.out o')) (k := g) hg)
              have M8 := hidX ((M7.out.trans (MkO.of_below (HA7.out _))).grown hg8.out hrow)
              have HBA := hidX (fun o' => hb7.below (HA7.out o'))
              have HB8 := hidX ((HBA.out _).blocks (hg8.out.block pb (HBA.out _).lt (fun e => by have := hrow pb e.symm; omega)) (hg8.out.block g (HBA.out _).glt (fun e => by have := hrow g e.symm; omega)))
              have HCA := hidX (fun o' => ((HA7.out o').block w2.heap.size (by omega)).trans hcq7)
              have HC8 := hidX (box_grown (HCA.out _) hg8.out (TY.out _) (by decide))
              have HRA := hidX (fun o' => ((HA7.out o').block w.heap.size (by omega)).trans ((hm7.block w.heap.size (show w.heap.size < w6.heap.size by omega) (fun e => by injection e; omega)).trans HRQ6.out))
              have HR8 := hidX (box_grown (HRA.out _) hg8.out (TY.out _) (by decide))
              have f3 := cell_of HC8.out (j := 2) rfl
              have g3 := froz_of HC8.out 2
              have hs8 : w2.heap.size < w8.heap.size := lt_of_block' HC8.out
              refine tk 6 hHeld ?_
              (try simp only [pA, pZ, pS])
              refine wpAnyH_ready (rs := [7]) (by kernel_rfl) (by simp) ?_
              refine AllReadyH.cons (o := ?o23) ?ho23 (fun K hK => ?step23) AllReadyH.nil
              case ho23 => (simp only [List.getElem?_toArray, List.getElem?_cons_succ, List.getElem?_cons_zero]; rfl)
              go_simp
              refine hK.out _ _ ?hS24 (fun hHeld' => ?rest24)
              case hS24 => ((try dsimp only); all_goals trivial)
              clear hK K
              (try dsimp only)
              clear hHeld
              have hHeld := hHeld'
              clear hHeld'
              refine wpAnyH_done (by kernel_rfl) ?_ _
              refine NoPanic.normal ?_
              clear hHeld
              refine lift_setW HC8.out ?_
              intro w9 hq9 ht9
              replace hq9 : w9.heap[w2.heap.size]? = some (.cells (phC hd (.slice a8 (M.length + 1) c8)).toArray 80 (0, 0)) := by
                rw [hq9]
                simp [phC]
              obtain ⟨hn6, hpl⟩ := HMO.out v hv7 M
              have L9 := hidX (show PlAt w w9 pb g w.heap.size w2.heap.size W c R hd (stS (onS s1 phM)) (stS (onS (itemS (M.length : Int) 6 sx) pTerm)) a8 c8 (M ++ [v]) from ⟨M8.out.turn ht9 (by omega), HB8.out.turned ht9 (by omega) (by omega), (ht9.block w.heap.size (by omega)).trans HR8.out, by simpa using hq9, by simpa using own_turn ho8.out ht9 HC8.out (by decide), by simp; omega, by rw [LS.out.pl, hpl]; simp⟩)
              have HL9 : Hid (lenPt w2.heap.size w9 = M.length + 1) := show _ = _ from by unfold lenPt; rw [cell_of hq9 (j := 2) rfl]; rfl
              clear hq9 ht9 f3 g3 hpl
              go_wp2_with fail
              go_roundw
              case rel => exact ⟨a8, c8, M ++ [v], _, L9.out⟩
              case measure =>
                change 6 - lenPt w2.heap.size w9 < 6 - lenPt w2.heap.size wr
                rw [HL9.out, HML.out]
                omega
            case step17 =>
              go_simp
              have HA7 := hidX (fun o' => (Below.refl _ _).alloc (Nat.le_refl _) o' : ∀ o', Below w7.heap.size w7 (w7.alloc o')); have c37a : ∀ o', (w7.alloc o').cell? ⟨w2.heap.size, 2, none⟩ = some (.slice la M.length lc) := fun o' => cell_below (HA7.out o') c37
              refine hK.out _ _ ?hS25 (fun hHeld' => ?rest25)
              case hS25 => ((try dsimp only); all_goals trivial)
              clear hK K
              (try simp only [pA, pZ, pS])
              clear hHeld
              have hHeld := hHeld'
              clear hHeld'
              refine wpAnyH_ready (rs := [1]) (by kernel_rfl) (by simp) ?_
              refine AllReadyH.cons (o := ?o26) ?ho26 (fun K hK => ?step26) AllReadyH.nil
              case ho26 => (simp only [List.getElem?_toArray, List.getElem?_cons_succ, List.getElem?_cons_zero]; rfl)
              go_simp
              refine hK.out _ _ ?hS27 (fun hHeld' => ?rest27)
              case hS27 => ((try dsimp only); all_goals trivial)
              clear hK K
              (try simp only [pA, pZ, pS])
              clear hHeld
              have hHeld := hHeld'
              clear hHeld'
              have M7 := hidX ((M6.out.drew).trans hm7)
              have OW7 := hidX (own_mko (own_bel OW6.out ((Below.refl _ _).drew)) hm7 hpb)
              have hws7 : w.heap.size ≤ w7.heap.size := by omega
              refine wpAnyH_ready (rs := [5]) (by kernel_rfl) (by simp) ?_
              refine AllReadyH.cons (o := ?o28) ?ho28 (fun K hK => ?step28) AllReadyH.nil
              case ho28 => (simp only [List.getElem?_toArray, List.getElem?_cons_succ, List.getElem?_cons_zero]; rfl)
              (refine step_append_any (by rfl) (.tmp 40) (.tmp 43) 78 (by rfl) w.heap.size 111 _ 6 64 Tryz.underlying78 infoTF1 (by rfl) (by omega) _ M.length _ (by rfl) (own_bel OW7.out (HA7.out _)) (some ⟨_, 0, none⟩) 1 1 (by rfl) (tmC v) (by rfl) (fun e => by cases e) (news_new _ _ _ _ (by simp)) (tmC_one v) (by unfold maxLen; omega) (by omega) (by simp; omega) ?_; intro a8 c8 w8 ho8 hg8 hl8)
              refine hK.out _ _ ?hS29 (fun hHeld' => ?rest29)
              case hS29 => ((try dsimp only); all_goals trivial)
              clear hK K
              (try simp only [pA, pZ, pS])
              clear hHeld
              have hHeld := hHeld'
              clear hHeld'
              have hrow : ∀ k, (Value.slice la M.length lc).ownBlock = some k → w.heap.size ≤ k := fun k hk => (OW7.out.lt k hk).1
              have TY := hidX (fun o' g hg => own_type (own_bel OW7.out (HA7.out o')) (k := g) hg)
              have M8 := hidX ((M7.out.trans (MkO.of_below (HA7.out _))).grown hg8.out hrow)
              have HBA := hidX (fun o' => hb7.below (HA7.out o'))
              have HB8 := hidX ((HBA.out _).blocks (hg8.out.block pb (HBA.out _).lt (fun e => by have := hrow pb e.symm; omega)) (hg8.out.block g (HBA.out _).glt (fun e => by have := hrow g e.symm; omega)))
              have HCA := hidX (fun o' => ((HA7.out o').block w2.heap.size (by omega)).trans hcq7)
              have HC8 := hidX (box_grown (HCA.out _) hg8.out (TY.out _) (by decide))
              have HRA := hidX (fun o' => ((HA7.out o').block w.heap.size (by omega)).trans ((hm7.block w.heap.size (show w.heap.size < w6.heap.size by omega) (fun e => by injection e; omega)).trans HRQ6.out))
              have HR8 := hidX (box_grown (HRA.out _) hg8.out (TY.out _) (by decide))
              have f3 := cell_of HC8.out (j := 2) rfl
              have g3 := froz_of HC8.out 2
              have hs8 : w2.heap.size < w8.heap.size := lt_of_block' HC8.out
              refine tk 6 hHeld ?_
              (try simp only [pA, pZ, pS])
              refine wpAnyH_ready (rs := [7]) (by kernel_rfl) (by simp) ?_
              refine AllReadyH.cons (o := ?o30) ?ho30 (fun K hK => ?step30) AllReadyH.nil
              case ho30 => (simp only [List.getElem?_toArray, List.getElem?_cons_succ, List.getElem?_cons_zero]; rfl)
              go_simp
              refine hK.out _ _ ?hS31 (fun hHeld' => ?rest31)
              case hS31 => ((try dsimp only); all_goals trivial)
              clear hK K
              (try dsimp only)
              clear hHeld
              have hHeld := hHeld'
              clear hHeld'
              refine wpAnyH_done (by kernel_rfl) ?_ _
              refine NoPanic.normal ?_
              clear hHeld
              refine lift_setW HC8.out ?_
              intro w9 hq9 ht9
              replace hq9 : w9.heap[w2.heap.size]? = some (.cells (phC hd (.slice a8 (M.length + 1) c8)).toArray 80 (0, 0)) := by
                rw [hq9]
                simp [phC]
              obtain ⟨hn6, hpl⟩ := HMO.out v hv7 M
              have L9 := hidX (show PlAt w w9 pb g w.heap.size w2.heap.size W c R hd (stS (onS s1 phM)) (stS (onS (itemS (M.length : Int) 6 sx) pTerm)) a8 c8 (M ++ [v]) from ⟨M8.out.turn ht9 (by omega), HB8.out.turned ht9 (by omega) (by omega), (ht9.block w.heap.size (by omega)).trans HR8.out, by simpa using hq9, by simpa using own_turn ho8.out ht9 HC8.out (by decide), by simp; omega, by rw [LS.out.pl, hpl]; simp⟩)
              have HL9 : Hid (lenPt w2.heap.size w9 = M.length + 1) := show _ = _ from by unfold lenPt; rw [cell_of hq9 (j := 2) rfl]; rfl
              clear hq9 ht9 f3 g3 hpl
              go_wp2_with fail
              go_roundw
              case rel => exact ⟨a8, c8, M ++ [v], _, L9.out⟩
              case measure =>
                change 6 - lenPt w2.heap.size w9 < 6 - lenPt w2.heap.size wr
                rw [HL9.out, HML.out]
                omega
end Go.Proofs.YtdhpoagjmiligaaGreatDoor

namespace Go.Proofs.YtdhpoagjmiligaaGreatDoor
open Go.RowKit

def RM (nm sl pv ev av bv : Value) : List Value := [nm, sl, pv, ev, av, bv]
theorem MB.cellR {w : World} {pb g j : Nat} {W : List Wd} {c : Nat} {s : Ps} {R : List Value} {v : Value} (h : MB w pb g W c s R) (hj : R[j]? = some v) : w.cell? ⟨pb, j + 4, none⟩ = some v := by
  obtain ⟨k, cd, pos, hq, _⟩ := h.st
  exact cell_of hq (j := j + 4) (by simpa using hj)
theorem MB.frozR {w : World} {pb g : Nat} {W : List Wd} {c : Nat} {s : Ps} {R : List Value} (h : MB w pb g W c s R) (j : Nat) : w.frozen? ⟨pb, j, none⟩ = false := by
  obtain ⟨k, cd, pos, hq, _⟩ := h.st
  exact froz_of hq j
theorem MB.setR {w w' : World} {pb g j : Nat} {W : List Wd} {c : Nat} {s : Ps} {R : List Value} {v : Value} (h : MB w pb g W c s R) (hv : w' = w.setCell ⟨pb, j + 4, none⟩ v) : MB w' pb g W c s (R.set j v) := by
  subst hv
  obtain ⟨k, cd, pos, hq, hk, hs⟩ := h.st
  refine h.to (MkO.set _) ⟨k, cd, pos, ?_, hk, hs⟩
  have := heap_setCell_same (i := j + 4) hq v
  rw [this]
  simp
/-- The parser with the exprs of the rule at hand; bg: how many have begun, where there was no fault. -/
structure MX (w : World) (B pb g : Nat) (W : List Wd) (c : Nat) (s : Ps) (nm sl pv av : Value) (es : ES) (ea : Option Addr) (ec : Nat) (bg : Int) : Prop where
  mb : MB w pb g W c s (RM nm sl pv (.slice ea es.1.length ec) av (.int .i64 bg))
  hb : ∀ l, s = .ok l → bg = (es.2 : Int)
  ow : w.ownsRow B 139 8 (.slice ea es.1.length ec) es.1.length (es.1.flatMap exC)
  lt : pb < B
  gl : g < B
  le : B ≤ w.heap.size
theorem MX.below {w w' : World} {B pb g : Nat} {W : List Wd} {c : Nat} {s : Ps} {nm sl pv av : Value} {es : ES} {ea : Option Addr} {ec : Nat} {bg : Int} (h : MX w B pb g W c s nm sl pv av es ea ec bg) (hb : Below w.heap.size w w') : MX w' B pb g W c s nm sl pv av es ea ec bg := ⟨h.mb.below hb, h.hb, own_bel h.ow hb, h.lt, h.gl, Nat.le_trans h.le hb.size⟩
theorem MX.mko {w w' : World} {B pb g : Nat} {W : List Wd} {c : Nat} {s s' : Ps} {nm sl pv av : Value} {es : ES} {ea : Option Addr} {ec : Nat} {bg : Int} (h : MX w B pb g W c s nm sl pv av es ea ec bg) (hm : MkO (some pb) w w') (hp : MB w' pb g W c s' (RM nm sl pv (.slice ea es.1.length ec) av (.int .i64 bg))) (hok : ∀ l, s' = .ok l → ∃ l', s = .ok l') : MX w' B pb g W c s' nm sl pv av es ea ec bg :=
  ⟨hp, fun l e => by obtain ⟨l', e'⟩ := hok l e; exact h.hb l' e', own_mko h.ow hm h.lt, h.lt, h.gl, Nat.le_trans h.le hm.rest.size⟩
theorem MX.turned {w w' : World} {B pb g b : Nat} {W : List Wd} {c : Nat} {s : Ps} {nm sl pv av : Value} {es : ES} {ea : Option Addr} {ec : Nat} {bg : Int} (h : MX w B pb g W c s nm sl pv av es ea ec bg) (ht : Turned w w' b) (h1 : B ≤ b) (hne : ∀ k, obE es ea ec = some k → k ≠ b) : MX w' B pb g W c s nm sl pv av es ea ec bg :=
  ⟨h.mb.turned ht (by have := h.lt; omega) (by have := h.gl; omega), h.hb, owns_of_block h.ow fun k hk => ht.block k (hne k hk), h.lt, h.gl, by rw [ht.size]; exact h.le⟩
theorem st_ok {α : Type} {s : Ps} {p : List Wd → Px α} : ∀ l, stS (onS s p) = .ok l → ∃ l', s = .ok l' := by
  intro l h
  cases s with
  | error f => cases h
  | ok l' => exact ⟨l', rfl⟩
theorem look_stays {s : Ps} : ∀ l, lookS s = .ok l → ∃ l', s = .ok l' := by
  intro l h
  cases s with
  | error f => cases h
  | ok l' => exact ⟨l', rfl⟩
/-- What reading leaves that may add exprs. -/
def MEPost {α : Type} (w : World) (B pb g : Nat) (W : List Wd) (c : Nat) (nm sl pv av : Value) (ob : Option Nat) (Q : α → Ending → World → Prop) (r : Px (α × ES)) (e : Ending) (w' : World) : Prop := MkX pb ob w w' ∧ ∃ x es ea ec bg, Q x e w' ∧ MX w' B pb g W c (stS r) nm sl pv av es ea ec bg ∧ RowX ob (obE es ea ec) w.heap.size ∧ ∀ y l, r = .ok (y, l) → y = (x, es)
theorem MEPost.err {α : Type} {w w' : World} {B pb g : Nat} {W : List Wd} {c : Nat} {nm sl pv av : Value} {ob : Option Nat} {Q : α → Ending → World → Prop} {r : Px (α × ES)} {e : Ending} {f : Flt} {es : ES} {ea : Option Addr} {ec : Nat} {bg : Int} (x : α) (hr : r = .error f) (hm : MkX pb ob w w') (hq : Q x e w') (hs : MX w' B pb g W c (.error f) nm sl pv av es ea ec bg) (ho : RowX ob (obE es ea ec) w.heap.size) : MEPost w B pb g W c nm sl pv av ob Q r e w' := by
  subst hr
  exact ⟨hm, x, es, ea, ec, bg, hq, hs, ho, fun y l h => by cases h⟩
/-- What an expr's reading tells, at every state. -/
def MExprC (f : Nat) : Prop := ∀ (w : World) (B pb g : Nat) (W : List Wd) (c : Nat) (s : Ps) (nm sl pv av : Value) (es : ES) (ea : Option Addr) (ec : Nat) (bg d : Int) (k : Nat), MX w B pb g W c s nm sl pv av es ea ec bg → 0 ≤ d → d + (f : Int) = 20 → (∀ l, s = .ok l → es.1.length + k ≤ es.2 ∧ es.2 ≤ 60) → Calls Tryz.prog 100 #[.pointer (some ⟨pb, 0, none⟩), .int .i64 d] w (MEPost w B pb g W c nm sl pv av (obE es ea ec) Rint (onS s (pExpr f es)))
/-- The state behind the first questions. -/
def eS2 (s : Ps) : Ps := if lookK s = 2 ∨ lookK s = 0 then failS 3 (lookS s) else lookS s
def eS3 (s : Ps) (bg : Int) : Ps := if 60 ≤ bg then failS 4 (eS2 s) else eS2 s
theorem eS3_stays {s : Ps} {bg : Int} : ∀ l, eS3 s bg = .ok l → ∃ l', s = .ok l' := by
  intro l h
  cases s with
  | error f =>
    unfold eS3 eS2 at h
    repeat' split at h
    all_goals cases h
  | ok l' => exact ⟨l', rfl⟩
theorem ex_err {w : World} {pb g : Nat} {W : List Wd} {c : Nat} {s : Ps} {R : List Value} {f : Nat} {es : ES} {bg : Int} {e : Flt} (hM : MB w pb g W c s R) (hb : ∀ l, s = .ok l → bg = (es.2 : Int)) (h : eS3 s bg = .error e) : onS s (pExpr f es) = .error e := by
  cases s with
  | error f' =>
    have : eS3 (.error f') bg = .error f' := by
      unfold eS3 eS2
      repeat' split
      all_goals rfl
    rw [this] at h
    injection h with h
    rw [h]
    rfl
  | ok l =>
    have hbg := hb l rfl
    subst hbg
    obtain ⟨x, r, rfl, hx, _⟩ := hM.head
    simp only [onS]
    cases hr : nextW (x :: r) with
    | error f' =>
      have e1 : eS3 (.ok (x :: r)) (es.2 : Int) = .error f' := by
        have e2 : eS2 (.ok (x :: r)) = .error f' := by
          unfold eS2
          rw [(look_err hr).1, (look_err hr).2, if_neg (by decide)]
        unfold eS3
        rw [e2]
        split <;> rfl
      rw [e1] at h
      injection h with h
      subst h
      refine pExpr_bad ?_
      unfold boundW
      rw [hr]
    | ok p =>
      obtain ⟨y, r'⟩ := p
      obtain ⟨rfl, _⟩ := nextW_head hr
      unfold eS3 eS2 at h
      rw [(look_ok hr).1, (look_ok hr).2] at h
      by_cases hc : y.kind = 2 ∨ y.kind = 0
      · rw [if_pos hc] at h
        have hp : pkW y = 41 ∨ pkW y = 0 := hc.imp (rel41 y hx).1 (pk_rel hx).2.2.2.2.2.1
        have h' : (3, y.pos) = e := by
          split at h
          · injection h
          · injection h
        subst h'
        have hbd : boundW (es.2 : Int) 60 (y :: r) = .ok ((), y :: r) := by
          unfold boundW
          rw [hr]
          simp only
          rw [if_neg (by omega)]
        exact pExpr_else hbd hr (by omega) (by omega) (by omega)
      · rw [if_neg hc] at h
        by_cases h60 : (60 : Int) ≤ (es.2 : Int)
        · rw [if_pos h60] at h
          injection h with h
          subst h
          refine pExpr_bad ?_
          unfold boundW
          rw [hr]
          simp only
          rw [if_pos ⟨h60, fun e => hc (.inl ((rel41 y hx).2 e)), fun e => hc (.inr ((pk_rel hx).2.2.2.2.2.2 e))⟩]
          rfl
        · rw [if_neg h60] at h
          cases h
theorem ex_ok {w : World} {pb g : Nat} {W : List Wd} {c : Nat} {s : Ps} {R : List Value} {es : ES} {bg : Int} {l : List Wd} (hM : MB w pb g W c s R) (hb : ∀ l, s = .ok l → bg = (es.2 : Int)) (h : eS3 s bg = .ok l) : ∃ x r, s = .ok (x :: r) ∧ l = x :: r ∧ nextW (x :: r) = .ok (x, r) ∧ x.kind ≠ 2 ∧ x.kind ≠ 0 ∧ lookK s = x.kind ∧ es.2 < 60 ∧ bg = (es.2 : Int) ∧ boundW (es.2 : Int) 60 (x :: r) = .ok ((), x :: r) ∧ WdOk x ∧ x.text.length ≤ 20000 := by
  obtain ⟨l', rfl⟩ := eS3_stays l h
  have hbg := hb l' rfl
  subst hbg
  obtain ⟨x, r, rfl, hx, hl⟩ := hM.head
  cases hr : nextW (x :: r) with
  | error f' =>
    have e2 : eS2 (.ok (x :: r)) = .error f' := by
      unfold eS2
      rw [(look_err hr).1, (look_err hr).2, if_neg (by decide)]
    unfold eS3 at h
    rw [e2] at h
    split at h <;> cases h
  | ok p =>
    obtain ⟨y, r'⟩ := p
    obtain ⟨rfl, hr'⟩ := nextW_head hr
    unfold eS3 eS2 at h
    rw [(look_ok hr).1, (look_ok hr).2] at h
    by_cases hc : y.kind = 2 ∨ y.kind = 0
    · rw [if_pos hc] at h
      split at h <;> cases h
    · rw [if_neg hc] at h
      by_cases h60 : (60 : Int) ≤ (es.2 : Int)
      · rw [if_pos h60] at h
        cases h
      · rw [if_neg h60] at h
        injection h with h
        have hn : nextW (y :: r) = .ok (y, r) := by rw [hr, hr', if_neg (fun e => hc (.inr e))]
        refine ⟨y, r, rfl, h.symm, hn, fun e => hc (.inl e), fun e => hc (.inr e), (look_ok hr).1, by omega, rfl, ?_, hx, hl⟩
        unfold boundW
        rw [hr]
        simp only
        rw [if_neg (fun e => h60 e.1)]
theorem ex_val {x : Wd} {r : List Wd} {f : Nat} {es : ES} (hx : WdOk x) (hn : nextW (x :: r) = .ok (x, r)) (hb : boundW (es.2 : Int) 60 (x :: r) = .ok ((), x :: r)) (h4 : x.kind ≠ 4) (h1 : x.kind ≠ 1) : pExpr f es (x :: r) = andP (pVal (x :: r)) fun v l1 => .ok (((es.1.length : Int), (es.1 ++ [⟨0, 0, mkS [], v, 0, 0⟩], es.2 + 1)), l1) := by
  have e63 : pkW x ≠ 63 := fun e => h4 ((rel63 x hx).2 e)
  have e40 : pkW x ≠ 40 := fun e => h1 ((rel40 x hx).2 e)
  by_cases hp : pkW x = 48 ∨ pkW x = 97
  · have hpv : pVal (x :: r) = .ok (wVal (pkW x) x.num (ptW x), r) := by simp only [pVal, hn, if_pos hp]
    rw [pExpr_const hb hn hp, hpv]
    rfl
  · have hpv : pVal (x :: r) = .error (3, x.pos) := by simp only [pVal, hn, if_neg hp]
    rw [pExpr_else hb hn hp e63 e40, hpv]
    rfl
/-- An operation's end. -/
theorem ex_op {f : Nat} {es es1 es2 : ES} {r : List Wd} {t : Bs} {i j : Int} {s6 s7 : Ps} (hg : GoodL r) (ht : ∀ y l, oneM 6 arTx r = .ok (y, l) → y = t) (h6 : s6 = stS (onS (stS (oneM 6 arTx r)) (pExpr f es))) (h1 : ∀ y l, onS (stS (oneM 6 arTx r)) (pExpr f es) = .ok (y, l) → y = (i, es1)) (h7 : s7 = stS (onS s6 (pExpr f es1))) (h2 : ∀ y l, onS s6 (pExpr f es1) = .ok (y, l) → y = (j, es2)) :
    (∃ e, pOp f es r = .error e ∧ onS s7 (takeW 41) = .error e) ∨ ∃ y l b, t = [b] ∧ pOp f es r = .ok ((⟨2, ((b : UInt8).toNat : Int), mkS [], zVr, i, j⟩, es2), l) ∧ onS s7 (takeW 41) = .ok (y, l) := by
  rw [one_ar hg] at ht h6 h1
  unfold pOp
  cases hk : takeW 43 r with
  | error e =>
    rw [hk] at h6
    subst h6
    subst h7
    exact .inl ⟨e, rfl, rfl⟩
  | ok q =>
    obtain ⟨o, l2⟩ := q
    rw [hk, andP_ok] at ht h6 h1
    obtain rfl := ht _ _ rfl
    obtain ⟨b, hb⟩ := arith_head (takeW_ok hk).2
    simp only [stS, onS] at h6 h1
    rw [andP_ok]
    cases he : pExpr f es l2 with
    | error e =>
      rw [he] at h6
      subst h6
      subst h7
      exact .inl ⟨e, rfl, rfl⟩
    | ok q =>
      obtain ⟨p, l3⟩ := q
      obtain rfl := h1 _ _ he
      rw [he] at h6
      simp only at h6
      subst h6
      simp only [onS] at h7 h2
      rw [andP_ok]
      simp only
      cases he2 : pExpr f es1 l3 with
      | error e =>
        rw [he2] at h7
        subst h7
        exact .inl ⟨e, rfl, rfl⟩
      | ok q =>
        obtain ⟨p, l4⟩ := q
        obtain rfl := h2 _ _ he2
        rw [he2] at h7
        simp only [stS] at h7
        subst h7
        simp only [onS]
        rw [andP_ok]
        cases takeW 41 l4 with
        | error e => exact .inl ⟨e, rfl, rfl⟩
        | ok q => exact .inr ⟨q.1, q.2, b, hb, by rw [hb]; rfl, rfl⟩
end Go.Proofs.YtdhpoagjmiligaaGreatDoor

namespace Go.Proofs.YtdhpoagjmiligaaGreatDoor
open Go.RowKit
attribute [local go_sem ↓] Go.wp_at_zero Go.wp_at_succ

/-- A read expr stands in its box. -/
structure MxB (w wx : World) (B pb g eb : Nat) (W : List Wd) (c : Nat) (nm sl pv av : Value) (ob : Option Nat) (r : Px (Int × ES)) (sx : Ps) (x : Ex) (s' : ES) (ea : Option Addr) (ec : Nat) (bg : Int) : Prop where
  mo : MkX pb ob w wx
  st : MX wx B pb g W c sx nm sl pv av s' ea ec bg
  rw' : RowX ob (obE s' ea ec) w.heap.size
  bx : wx.heap[eb]? = some (.cells (exC x).toArray 139 (0, 0))
  ne : ∀ k, obE s' ea ec = some k → k ≠ eb
  le : s'.1.length ≤ 60
  es : stS r = sx
  pe : ∀ y l, r = .ok (y, l) → y = ((s'.1.length : Int), (s'.1 ++ [x], s'.2))
def zE : Ex := ⟨0, 0, mkS [], zVr, 0, 0⟩
set_option maxRecDepth 100000 in
set_option maxHeartbeats 6400000 in
theorem mexpr_of (f : Nat) (hO : ∀ f', f = f' + 1 → MExprC f') : MExprC f := by
  intro w B pb g W c s nm sl pv av es ea ec bg d k h hd0 hd hk
  have HP := hidX h
  have hpb := h.mb.lt
  have hgl := h.mb.glt
  have hfar := h.mb.far
  have hcap := h.mb.caps
  have hlen := h.mb.len
  have hBl := h.le
  have hpB := h.lt
  have hgB := h.gl
  have HO := hidX hO
  have HK := hidX hk
  have OB0 := hidX (fun k (hk : obE es ea ec = some k) => (HP.out.ow.lt k hk).2)
  have HD := hidX hd
  obtain ⟨k0, x0, hk0, c0, c1, hrg, hx0⟩ := h.mb.now
  have y0 := hrg 0 _ rfl
  have y1 := hrg 1 _ rfl
  have y2 := hrg 2 _ rfl
  have y3 := hrg 3 _ rfl
  simp only [Nat.add_zero] at y0
  have HX0 := hidX hx0
  clear h hO hk hrg hx0 hd
  go_enter Tryz.func100, Tryz.ntmps100
  go_upto_region 1 with fail
  go_region
  refine lift_allocE ?_
  intro w2 hq2 hW2
  have P2 := hidX (HP.out.below hW2)
  have M2 := hidX (MkO.of_below hW2 : MkO (some pb) w w2)
  have hl2 : w.heap.size < w2.heap.size := lt_of_block' hq2
  have HQ2 := hidX hq2
  have HLK := hidX (look_any w2 pb g W c s _ P2.out.mb)
  obtain ⟨K, hK⟩ : ∃ K, K = lookK s := ⟨_, rfl⟩
  unfold LkPost at HLK
  rw [← hK] at HLK
  have HKK := hidX hK
  clear c0 c1 y0 y1 y2 y3 hW2 hq2 hK
  go_upto_region 3 with (first | (go_at_call 19; refine HLK.out.mono ?_; rintro e w3 ⟨rfl, hm3, hb3⟩) | fail)
  have m3 := hidX hm3
  have HB3 := hidX hb3
  have s3 := hm3.rest.size
  clear hm3 hb3 HLK
  go_cut [28] (fun v wx => ∃ b : Bool, v = .bool b ∧ (b = true ↔ (K = 2 ∨ K = 0)) ∧ wx = w3)
  case first =>
    by_cases h2 : K = 2
    · have e1 : (K == 2) = true := by simp [h2]
      go_wp2_with fail
      go_meet
      exact ⟨true, rfl, by simp [h2], rfl⟩
    · have e1 : (K == 2) = false := by simp [h2]
      by_cases h0 : K = 0
      · have e2 : (K == 0) = true := by simp [h0]
        go_wp2_with fail
        go_meet
        exact ⟨true, rfl, by simp [h0], rfl⟩
      · have e2 : (K == 0) = false := by simp [h0]
        go_wp2_with fail
        go_meet
        exact ⟨false, rfl, by simp [h2, h0], rfl⟩
  case rest =>
    obtain ⟨b1, hbv, hb1, hw⟩ := hcut
    subst hbv
    subst hw
    obtain ⟨w3, rfl⟩ : ∃ v, v = wc := ⟨wc, rfl⟩
    go_upto_if 28 with fail
    go_cut [] (fun wx => MkO (some pb) w3 wx ∧ MB wx pb g W c (eS2 s) (RM nm sl pv (.slice ea es.1.length ec) av (.int .i64 bg)))
    case first =>
      cases b1 with
      | true =>
        have HF := hidX (fail_any w3 pb g W c (lookS s) _ 3 (by decide) HB3.out)
        have HE2 : Hid (eS2 s = failS 3 (lookS s)) := show _ = _ from by unfold eS2; rw [if_pos (by rw [← HKK.out]; exact hb1.1 rfl)]
        go_wp2_with (first | (go_at_call 20; refine HF.out.mono ?_; rintro e w4 ⟨rfl, hm4, hb4⟩) | fail)
        go_meet
        exact ⟨hm4, by rw [HE2.out]; exact hb4⟩
      | false =>
        have HE2 : Hid (eS2 s = lookS s) := show _ = _ from by unfold eS2; rw [if_neg (by rw [← HKK.out]; exact fun e => by have := hb1.2 e; cases this)]
        go_wp2_with fail
        go_meet
        exact ⟨MkO.refl _ _, by rw [HE2.out]; exact HB3.out⟩
    case rest =>
      obtain ⟨hm4, hb4⟩ := hcut
      obtain ⟨w4, rfl⟩ : ∃ v, v = wc := ⟨wc, rfl⟩
      have m4 := hidX (m3.out.trans hm4)
      have HB4 := hidX hb4
      have c9 : w4.cell? ⟨pb, 9, none⟩ = some (.int .i64 bg) := hb4.cellR (j := 5) rfl
      have s4 := hm4.rest.size
      clear hm4 hb4 HB3 hb1
      go_upto_region 5 with fail
      go_cut [35] (fun v wx => ∃ b : Bool, v = .bool b ∧ (b = true ↔ 60 ≤ bg) ∧ wx = w4)
      case first =>
        by_cases h60 : 60 ≤ bg
        · go_wp2_with fail
          go_meet
          exact ⟨true, by simp, by simp [h60], rfl⟩
        · go_wp2_with fail
          go_meet
          exact ⟨false, by simp, by simp [h60], rfl⟩
      case rest =>
        obtain ⟨b1, hbv, hb1, hw⟩ := hcut
        subst hbv
        subst hw
        obtain ⟨w4, rfl⟩ : ∃ v, v = wc := ⟨wc, rfl⟩
        go_upto_if 35 with fail
        go_cut [] (fun wx => MkO (some pb) w4 wx ∧ MB wx pb g W c (eS3 s bg) (RM nm sl pv (.slice ea es.1.length ec) av (.int .i64 bg)))
        case first =>
          cases b1 with
          | true =>
            have HF := hidX (fail_any w4 pb g W c (eS2 s) _ 4 (by decide) HB4.out)
            have HE2 : Hid (eS3 s bg = failS 4 (eS2 s)) := show _ = _ from by unfold eS3; rw [if_pos (hb1.1 rfl)]
            go_wp2_with (first | (go_at_call 20; refine HF.out.mono ?_; rintro e w5 ⟨rfl, hm5, hb5⟩) | fail)
            go_meet
            exact ⟨hm5, by rw [HE2.out]; exact hb5⟩
          | false =>
            have HE2 : Hid (eS3 s bg = eS2 s) := show _ = _ from by unfold eS3; rw [if_neg (fun e => by have := hb1.2 e; cases this)]
            go_wp2_with fail
            go_meet
            exact ⟨MkO.refl _ _, by rw [HE2.out]; exact HB4.out⟩
        case rest =>
          obtain ⟨hm5, hb5⟩ := hcut
          obtain ⟨w5, rfl⟩ : ∃ v, v = wc := ⟨wc, rfl⟩
          have P5 := hidX (P2.out.mko (m4.out.trans hm5) hb5 eS3_stays)
          have m5 := hidX (m4.out.trans hm5)
          have M5 := hidX (M2.out.trans m5.out)
          have c9 : w5.cell? ⟨pb, 9, none⟩ = some (.int .i64 bg) := hb5.cellR (j := 5) rfl
          have z9 := hb5.frozR 9
          have s5 := m5.out.rest.size
          have HQ5 := hidX ((m5.out.block w.heap.size hl2 (fun e => by injection e; omega)).trans HQ2.out)
          have hpb5 := hb5.lt
          clear hm5 hb5 HB4 hb1 m4 m3 m5 M2 P2 HQ2
          go_upto_region 8 with fail
          refine lift_eq ?_
          intro w6 hw6
          obtain ⟨bg1, hbg1⟩ : ∃ b, b = wrap64 (bg + 1) := ⟨_, rfl⟩
          rw [← hbg1] at hw6
          have hb6 := P5.out.mb.setR (j := 5) hw6
          have m6 : MkO (some pb) w5 w6 := by rw [hw6]; exact MkO.set _
          have P6 := hidX (show MX w6 B pb g W c (eS3 s bg) nm sl pv av (es.1, es.2 + 1) ea ec bg1 from ⟨hb6, fun l e => by
            obtain ⟨x, r, _, _, _, _, _, _, hlt, hbg, _⟩ := ex_ok HP.out.mb HP.out.hb e
            show bg1 = ((es.2 + 1 : Nat) : Int)
            rw [hbg1, hbg]
            unfold wrap64
            omega, own_mko P5.out.ow m6 hpB, hpB, hgB, Nat.le_trans P5.out.le m6.rest.size⟩)
          have M6 := hidX (M5.out.trans m6)
          have s6 := m6.rest.size
          have HQ6 := hidX ((m6.block w.heap.size (by omega) (fun e => by injection e; omega)).trans HQ5.out)
          clear hw6 hb6 m6 c9 z9 P5 M5 HQ5 hbg1
          go_upto_block 0 with fail
          refine lift_alloc ?_
          intro w7 hW7 hq7
          have s7 : w6.heap.size < w7.heap.size := lt_of_block' hq7
          have P7 := hidX (P6.out.below hW7)
          have M7 := hidX (MkX.of (M6.out.trans (MkO.of_below hW7)) : MkX pb (obE es ea ec) w w7)
          have HQ7 := hidX ((hW7.block w.heap.size (by omega)).trans HQ6.out)
          have HE7 := hidX (show w7.heap[w6.heap.size]? = some (.cells (exC zE).toArray 139 (0, 0)) from hq7)
          clear hW7 hq7 P6 M6 HQ6
          go_cut [] (fun wx => ∃ sx x' s' ea' ec' bg', MxB w wx B pb g w6.heap.size W c nm sl pv av (obE es ea ec) (onS s (pExpr f es)) sx x' s' ea' ec' bg')
          case first =>
            have c2 := P7.out.mb.code
            cases hs3 : eS3 s bg with
            | error e =>
              have HT := hidX (ex_err (f := f) HP.out.mb HP.out.hb hs3)
              rw [hs3] at P7 c2
              have hne := P7.out.mb.code_err
              simp only [codeS] at c2
              clear hs3
              go_wp2_with fail
              go_ret
              exact MEPost.err 0 HT.out M7.out rfl P7.out (.inl rfl)
            | ok l =>
              obtain ⟨x, r, hs, hl, hn, hk2, hk0', hKx, hlt, hbg, hbd, hxo, hxl⟩ := ex_ok HP.out.mb HP.out.hb hs3
              subst hl
              rw [hs3] at P7 c2
              simp only [codeS] at c2
              have hxx : x0 = x := HX0.out x r hs
              subst hxx
              have hKx' : K = x0.kind := HKK.out.trans hKx
              have HS := hidX hs
              have HN := hidX hn
              have HBD := hidX hbd
              have HX : Hid (x0.kind ≠ 0) := hk0'
              have hle60 : es.1.length ≤ 59 := by have := (HK.out _ hs); omega
              have HKL := hidX (HK.out _ hs)
              obtain ⟨hq, hkl, hrg, hdd, hdr⟩ := P7.out.mb.cells
              have d1 := cell_of hq (j := 1) rfl
              have z1 := froz_of hq 1
              have HQP := hidX hq
              have OBE : ∀ k, obE (es.1, es.2 + 1) ea ec = some k → k < w.heap.size := fun k hk => OB0.out k hk
              clear hs hn hbd hq hrg hdd hdr hs3 hKx hbg
              by_cases h4 : K = 4
              · have HT : Hid (onS s (pExpr f es) = .ok (((es.1.length : Int), (es.1 ++ [⟨1, 0, mkS x0.text.tail, zVr, 0, 0⟩], es.2 + 1)), r)) := show _ = _ from by
                  rw [HS.out]
                  exact (pExpr_var (f := f) HBD.out HN.out ((rel63 x0 hxo).1 (by omega))).trans (by rw [ptW_var hxo (by omega)])
                have hvc := var_cons hxo (by omega)
                have HTL := hidX (mkS_tail hvc)
                have hsz : 0 < (mkS x0.text).size := by rw [mkS_sz]; exact hvc
                have hsz2 : (mkS x0.text).size ≤ 20000 := by rw [mkS_sz]; exact hxl
                clear hKx' hvc
                subst h4
                go_upto_region 14 with fail
                refine lift_setW HQP.out ?_
                intro w8 hq8 ht8
                replace hq8 : w8.heap[pb]? = some (.cells (.slice (some ⟨g, 0, none⟩) W.length c :: .int .i64 ((kOf W r + 1 : Nat) : Int) :: .int .i64 0 :: .int .i64 ((0 : Nat) : Int) :: RM nm sl pv (.slice ea es.1.length ec) av (.int .i64 bg1)).toArray 48 (0, 0)) := by
                  rw [hq8]
                  simp
                have hb8 := P7.out.mb.next HX.out ht8 hq8
                have P8 := hidX (P7.out.mko ht8.mko hb8 (fun l e => ⟨_, rfl⟩))
                have M8 := hidX (M7.out.trans (MkX.of ht8.mko) (.inl rfl))
                have s8 := ht8.size
                have HQ8 := hidX ((ht8.block w.heap.size (by omega)).trans HQ7.out)
                have HE8 := hidX ((ht8.block w6.heap.size (by omega)).trans HE7.out)
                have s8' : w7.heap.size ≤ w8.heap.size := Nat.le_of_eq s8.symm
                clear hq8 ht8 hb8 d1 z1 c2 HQP P7 M7 HQ7 HE7 s8
                have g0 := cell_of HE8.out (j := 0) rfl
                have q0 := froz_of HE8.out 0
                go_upto_region 15 with fail
                refine lift_setW HE8.out ?_
                intro w9 hq9 ht9
                have P9 := hidX (P8.out.turned ht9 (by omega) (fun k hk => by have := OBE k hk; omega))
                have M9 := hidX (M8.out.turn ht9 (by omega))
                have b2 := cell_of (L := [_, _, _, _]) ((ht9.block w.heap.size (by omega)).trans HQ8.out) (j := 2) rfl
                have g2 := cell_of hq9 (j := 2) rfl
                have q2 := froz_of hq9 2
                have hl9 : w6.heap.size < w9.heap.size := lt_of_block' hq9
                clear ht9 g0 q0
                go_wp2_with fail
                refine lift_setW hq9 ?_
                intro w10 hq10 ht10
                clear b2 g2 q2
                go_meet
                exact ⟨.ok r, ⟨1, 0, mkS x0.text.tail, zVr, 0, 0⟩, (es.1, es.2 + 1), ea, ec, bg1, M9.out.turn ht10 (by omega), P9.out.turned ht10 (by omega) (fun k hk => by have := OBE k hk; omega), .inl rfl, by rw [← HTL.out]; simpa [exC, zE] using hq10, fun k hk => by (have := OBE k hk; omega), by (show es.1.length ≤ 60); omega, by rw [HT.out]; rfl, fun y l e => by rw [HT.out] at e; injection e with e; injection e with e _; exact e.symm⟩
              have e4 : (K == 4) = false := by simp [h4]
              by_cases h1 : K = 1
              · have e1 : (K == 1) = true := by simp [h1]
                cases f with
                | zero =>
                  have HT : Hid (onS s (pExpr 0 es) = .error (4, x0.pos)) := show _ = _ from by
                    rw [HS.out]
                    exact pExpr_deep HBD.out HN.out ((rel40 x0 hxo).1 (by omega))
                  have hd20 : (20 : Int) ≤ d := by have := HD.out; omega
                  have HF := hidX (fail_any w7 pb g W c (.ok (x0 :: r)) _ 4 (by decide) P7.out.mb)
                  clear hKx' h4 h1
                  go_wp2_with (first | (go_at_call 20; refine HF.out.mono ?_; rintro e w8 ⟨rfl, hm8, hb8⟩) | fail)
                  go_ret
                  exact MEPost.err 0 HT.out (M7.out.trans (MkX.of hm8) (.inl rfl)) rfl (P7.out.mko hm8 hb8 (fun l e => ⟨_, rfl⟩)) (.inl rfl)
                | succ f' =>
                  have HT : Hid (onS s (pExpr (f' + 1) es) = andP (pOp f' (es.1, es.2 + 1) r) fun q l5 => .ok (((q.2.1.length : Int), (q.2.1 ++ [q.1], q.2.2)), l5)) := show _ = _ from by
                    rw [HS.out]
                    exact pExpr_op HBD.out HN.out ((rel40 x0 hxo).1 (by omega))
                  have hd20 : d < 20 := by have := HD.out; omega
                  clear hKx' h4 h1
                  go_upto_region 21 with fail
                  refine lift_setW HQP.out ?_
                  intro w8 hq8 ht8
                  replace hq8 : w8.heap[pb]? = some (.cells (.slice (some ⟨g, 0, none⟩) W.length c :: .int .i64 ((kOf W r + 1 : Nat) : Int) :: .int .i64 0 :: .int .i64 ((0 : Nat) : Int) :: RM nm sl pv (.slice ea es.1.length ec) av (.int .i64 bg1)).toArray 48 (0, 0)) := by
                    rw [hq8]
                    simp
                  have hb8 := P7.out.mb.next HX.out ht8 hq8
                  have P8 := hidX (P7.out.mko ht8.mko hb8 (fun l e => ⟨_, rfl⟩))
                  have M8 := hidX (M7.out.trans (MkX.of ht8.mko) (.inl rfl))
                  have s8 := ht8.size
                  have HQ8 := hidX ((ht8.block w.heap.size (by omega)).trans HQ7.out)
                  have HE8 := hidX ((ht8.block w6.heap.size (by omega)).trans HE7.out)
                  have s8' : w7.heap.size ≤ w8.heap.size := Nat.le_of_eq s8.symm
                  clear hq8 ht8 hb8 d1 z1 c2 HQP P7 M7 HQ7 HE7 s8
                  have HAL := hidX (fun o => (Below.refl _ _).alloc (Nat.le_refl _) o : ∀ o, Below w8.heap.size w8 (w8.alloc o))
                  have HON := hidX (mone_any (w8.alloc (.cells #[.string ⟨#[43]⟩, .string ⟨#[45]⟩, .string ⟨#[42]⟩, .string ⟨#[47]⟩, .string ⟨#[37]⟩] 9)) pb g w8.heap.size 5 W c (.ok r) _ 6 arTx (by decide) (by decide) (arTx_new _) (by omega) (by simp) (by decide) (P8.out.mb.below (HAL.out _)))
                  have HGR := hidX P8.out.mb.good
                  go_upto_region 22 with (first | (go_at_call 70; refine (ars_any _).mono ?_; rintro e wt ⟨rfl, rfl⟩) | (go_at_call 35; refine HON.out.mono ?_; rintro e w9 ⟨hm9, ⟨t, he9, ht9⟩, hb9⟩; obtain rfl : e = .returned (.string (mkS t)) := he9) | fail)
                  have s9 := hm9.rest.size
                  simp at s9
                  have P9 := hidX ((P8.out.below (HAL.out _)).mko hm9 hb9 (fun l e => ⟨_, rfl⟩))
                  have M9 := hidX ((M8.out.below (HAL.out _)).trans (MkX.of hm9) (.inl rfl))
                  have HE9 := hidX ((hm9.block w6.heap.size (by simp; omega) (fun e => by injection e; omega)).trans (((HAL.out _).block w6.heap.size (by omega)).trans HE8.out))
                  have HT9 := hidX ht9
                  have X1 := hidX (HO.out f' rfl w9 B pb g W c _ nm sl pv av (es.1, es.2 + 1) ea ec bg1 (d + 1) (k + 1) P9.out (by omega) (by have := HD.out; omega) (fun l _ => ⟨by (show es.1.length + (k + 1) ≤ es.2 + 1); have := HKL.out; omega, by (show es.2 + 1 ≤ 60); omega⟩))
                  clear hm9 hb9 ht9 HON HAL P8 M8 HE8 HQ8
                  go_upto_region 23 with (first | (go_at_call 100; refine X1.out.mono ?_; rintro e w10 ⟨hm10, i, es1, ea1, ec1, bg2, he10, hx10, hr10, hy10⟩; obtain rfl : e = .returned (.int .i64 i) := he10) | fail)
                  have s10 := hm10.rest.size
                  have OB1 : ∀ k, obE es1 ea1 ec1 = some k → k ≠ w6.heap.size := fun k hk => by
                    rcases hr10 with e | e
                    · have := OBE k (e ▸ hk)
                      omega
                    · have := e k hk
                      omega
                  have HE10 := hidX ((hm10.block w6.heap.size (by omega) (by omega) (fun e => by have := OBE _ e; omega)).trans HE9.out)
                  have M10 := hidX (M9.out.trans hm10 (.inl rfl))
                  have R10 := hidX (show RowX (obE es ea ec) (obE es1 ea1 ec1) w.heap.size from hr10.imp id fun h g hg => by have := h g hg; omega)
                  have HOB1 := hidX OB1
                  obtain ⟨s6, hs6⟩ : ∃ s6, s6 = stS (onS (stS (onS (.ok r) (oneM 6 arTx))) (pExpr f' (es.1, es.2 + 1))) := ⟨_, rfl⟩
                  rw [← hs6] at hx10
                  have HS6 := hidX hs6
                  have HY1 := hidX hy10
                  have P10 := hidX hx10
                  have HIV : ∀ l, s6 = .ok l → es1.1.length + (k + 1) ≤ es1.2 ∧ es1.2 ≤ 60 := fun l hl => by
                    rw [HS6.out] at hl
                    cases ho : oneM 6 arTx r with
                    | error e => simp only [onS, ho, stS] at hl; cases hl
                    | ok q =>
                      simp only [onS, ho, stS] at hl
                      cases he : pExpr f' (es.1, es.2 + 1) q.2 with
                      | error e => rw [he] at hl; cases hl
                      | ok p =>
                        have hy := HY1.out p.1 p.2 (by simp only [onS, ho, stS]; exact he)
                        have hiv := pExpr_inv f' (es.1, es.2 + 1) q.2 p.2 (k + 1) p.1.1 p.1.2 (by (show es.1.length + (k + 1) ≤ es.2 + 1); have := HKL.out; omega) (by (show es.2 + 1 ≤ 60); omega) he
                        rw [hy] at hiv
                        exact hiv
                  have HIV1 := hidX HIV
                  have X2 := hidX (HO.out f' rfl w10 B pb g W c s6 nm sl pv av es1 ea1 ec1 bg2 (d + 1) (k + 1) P10.out (by omega) (by have := HD.out; omega) HIV)
                  clear hm10 hx10 hr10 hy10 hs6 X1 P9 M9 HE9 OB1 HIV
                  go_upto_region 24 with (first | (go_at_call 100; refine X2.out.mono ?_; rintro e w11 ⟨hm11, j, es2, ea2, ec2, bg3, he11, hx11, hr11, hy11⟩; obtain rfl : e = .returned (.int .i64 j) := he11) | fail)
                  have s11 := hm11.rest.size
                  have OB2 : ∀ k, obE es2 ea2 ec2 = some k → k ≠ w6.heap.size := fun k hk => by
                    rcases hr11 with e | e
                    · exact HOB1.out k (e ▸ hk)
                    · have := e k hk
                      omega
                  have HE11 := hidX ((hm11.block w6.heap.size (by omega) (by omega) (fun e => HOB1.out _ e rfl)).trans HE10.out)
                  have M11 := hidX (M10.out.trans hm11 R10.out)
                  have R11 := hidX (R10.out.trans hr11 (by omega))
                  obtain ⟨s7, hs7⟩ : ∃ s7, s7 = stS (onS s6 (pExpr f' es1)) := ⟨_, rfl⟩
                  rw [← hs7] at hx11
                  have HEO := hidX (ex_op HGR.out HT9.out HS6.out HY1.out hs7 hy11)
                  have P11 := hidX hx11
                  have HOB2 := hidX OB2
                  have HS7 := hidX hs7
                  have HY2 := hidX hy11
                  have HTK := hidX (mtake_any w11 pb g W c s7 _ 2 41 rel41 (by decide) (by decide) P11.out.mb)
                  clear hm11 hx11 hr11 hy11 hs7 X2 P10 M10 HE10 OB2
                  go_upto_region 25 with (first | (go_at_call 34; refine HTK.out.mono ?_; rintro e w12 ⟨hm12, ⟨y12, he12, _⟩, hb12⟩; obtain rfl : e = .returned (wdA y12) := he12; unfold wdA) | fail)
                  have s12 := hm12.rest.size
                  have P12 := hidX (P11.out.mko hm12 hb12 st_ok)
                  have M12 := hidX (M11.out.trans (MkX.of hm12) R11.out)
                  have HE12 := hidX ((hm12.block w6.heap.size (by omega) (fun e => by injection e; omega)).trans HE11.out)
                  have c22 := hb12.code
                  clear hm12 hb12 HTK P11 M11 HE11
                  rcases HEO.out with ⟨e, h1, h2⟩ | ⟨y, l, b, htb, h1, h2⟩
                  · have HTE : Hid (onS s (pExpr (f' + 1) es) = .error e) := show _ = _ from by rw [HT.out, h1]; rfl
                    rw [h2] at P12 c22
                    have hne := P12.out.mb.code_err
                    simp only [stS, codeS] at c22
                    clear h1 h2
                    go_wp2_with fail
                    go_ret
                    exact MEPost.err 0 HTE.out M12.out rfl P12.out R11.out
                  · have HTE : Hid (onS s (pExpr (f' + 1) es) = .ok (((es2.1.length : Int), (es2.1 ++ [⟨2, (b.toNat : Int), mkS [], zVr, i, j⟩], es2.2)), l)) := show _ = _ from by rw [HT.out, h1]; rfl
                    have hle2 : es2.1.length ≤ 60 := by
                      have hiv := pExpr_inv (f' + 1) es (x0 :: r) l k _ _ HKL.out.1 HKL.out.2 (by have := HTE.out; rw [HS.out] at this; exact this)
                      simp at hiv
                      omega
                    rw [h2] at P12 c22
                    simp only [stS, codeS] at c22
                    subst htb
                    have hbz : (0 : Nat) < (mkS [b]).size := Nat.zero_lt_one
                    have hbb : ((mkS [b])[0]'hbz) = b := rfl
                    have hq12 := HE12.out
                    clear h1 h2 HT9 HEO
                    go_wp2_with (first | (refine wpList_store_blk (by rfl) 139 (.tmp 7) (.tmp 106) (by rfl) w6.heap.size (exC ⟨2, (b.toNat : Int), mkS [], zVr, i, j⟩) (by rfl) (by rfl) _ 139 hq12 (by rfl) infoExP (exC_one _) ?_; intro w13 hb13 ht13) | fail)
                    go_meet
                    exact ⟨.ok l, ⟨2, (b.toNat : Int), mkS [], zVr, i, j⟩, es2, ea2, ec2, bg3, M12.out.turn ht13.out (by omega), P12.out.turned ht13.out (by omega) HOB2.out, R11.out, hb13.out, HOB2.out, hle2, by rw [HTE.out]; rfl, fun y l e => by rw [HTE.out] at e; injection e with e; injection e with e _; exact e.symm⟩
              · have e1 : (K == 1) = false := by simp [h1]
                have HT : Hid (onS s (pExpr f es) = andP (pVal (x0 :: r)) fun v l1 => .ok (((es.1.length : Int), (es.1 ++ [⟨0, 0, mkS [], v, 0, 0⟩], es.2 + 1)), l1)) := show _ = _ from by
                  rw [HS.out]
                  exact ex_val hxo HN.out HBD.out (by omega) (by omega)
                have HVA := hidX (mvalue_any w7 pb g W c (.ok (x0 :: r)) _ P7.out.mb)
                clear hKx' h4 h1
                go_upto_region 28 with (first | (go_at_call 61; refine HVA.out.mono ?_; rintro e w8 ⟨hm8, ⟨v, he8, hv8⟩, hb8⟩; obtain rfl : e = .returned (.agg #[.int .i64 v.kind, .int .i64 v.num, .string v.sym]) := he8; have s8 := hm8.rest.size; have hq8 := (hm8.block w6.heap.size (by omega) (fun e => by injection e; omega)).trans HE7.out; have g3 := cell_of hq8 (j := 3) rfl; have g4 := cell_of hq8 (j := 4) rfl; have g5 := cell_of hq8 (j := 5) rfl; have q3 := froz_of hq8 3; have q4 := froz_of hq8 4; have q5 := froz_of hq8 5) | fail)
                refine lift_set3o hq8 (o := 3) (by simp [exC]) ?_
                intro w9 hq9 ht9
                have P8 := P7.out.mko hm8 hb8 (fun l e => ⟨_, rfl⟩)
                have M8 := M7.out.trans (MkX.of hm8) (.inl rfl)
                go_meet
                refine ⟨stS (onS (.ok (x0 :: r)) pVal), ⟨0, 0, mkS [], v, 0, 0⟩, (es.1, es.2 + 1), ea, ec, bg1, M8.turn ht9 (by omega), P8.turned ht9 (by omega) (fun k hk => by have := OBE k hk; omega), .inl rfl, by simpa [exC, zE] using hq9, fun k hk => by (have := OBE k hk; omega), by (show es.1.length ≤ 60); omega, ?_, ?_⟩
                · rw [HT.out]
                  simp only [onS]
                  cases pVal (x0 :: r) <;> rfl
                · intro y l e
                  rw [HT.out] at e
                  cases hpv : pVal (x0 :: r) with
                  | error e' => rw [hpv] at e; cases e
                  | ok q =>
                    rw [hpv, andP_ok] at e
                    injection e with e
                    injection e with e _
                    rw [← e, hv8 q.1 q.2 hpv]
          case rest =>
            obtain ⟨sx, xe, s', ea', ec', bg', hxb⟩ := hcut
            obtain ⟨u7, rfl⟩ : ∃ v, v = wc := ⟨wc, rfl⟩
            have XB := hidX hxb
            have hle := hxb.le
            have d7 : u7.cell? ⟨pb, 7, none⟩ = some (.slice ea' s'.1.length ec') := hxb.st.mb.cellR (j := 3) rfl
            have g0 := cell_of hxb.bx (j := 0) rfl
            have g1 := cell_of hxb.bx (j := 1) rfl
            have g2 := cell_of hxb.bx (j := 2) rfl
            have g3 := cell_of hxb.bx (j := 3) rfl
            have g4 := cell_of hxb.bx (j := 4) rfl
            have g5 := cell_of hxb.bx (j := 5) rfl
            have g6 := cell_of hxb.bx (j := 6) rfl
            have g7 := cell_of hxb.bx (j := 7) rfl
            have hel : w6.heap.size < u7.heap.size := lt_of_block' hxb.bx
            have hws7 := hxb.mo.rest.size
            have hgu : g < u7.heap.size := by omega
            have hpu : pb < u7.heap.size := by omega
            clear hxb P7 M7 HQ7 HE7 HX0 HKK
            go_upto_region 28 with fail
            refine wp_region_noPanic ?_
            refine wp_region_held_drew (S := (fun _ => True)) (by kernel_rfl) ?_ (fun hHeld => ?_)
            · (try dsimp only)
              all_goals trivial
            refine tk 0 hHeld ?_
            (try simp only [pA, pZ, pS])
            refine tk 1 hHeld ?_
            (try simp only [pA, pZ, pS])
            refine tk 2 hHeld ?_
            (try simp only [pA, pZ, pS])
            refine tk 3 hHeld ?_
            (try simp only [pA, pZ, pS])
            refine tk 4 hHeld ?_
            (try simp only [pA, pZ, pS])
            refine wpAnyH_ready (rs := [5, 6]) (by kernel_rfl) (by simp) ?_
            refine AllReadyH.cons (o := ?o1) ?ho1 (fun K hK => ?step1) (AllReadyH.cons (o := ?o2) ?ho2 (fun K hK => ?step2) AllReadyH.nil)
            case ho1 => (simp only [List.getElem?_toArray, List.getElem?_cons_succ, List.getElem?_cons_zero]; rfl)
            case ho2 => (simp only [List.getElem?_toArray, List.getElem?_cons_succ, List.getElem?_cons_zero]; rfl)
            case step1 =>
              go_simp
              refine hK.out _ _ ?hS3 (fun hHeld' => ?rest3)
              case hS3 => ((try dsimp only); all_goals trivial)
              clear hK K
              (try simp only [pA, pZ, pS])
              clear hHeld
              have hHeld := hHeld'
              clear hHeld'
              refine wpAnyH_ready (rs := [6]) (by kernel_rfl) (by simp) ?_
              refine AllReadyH.cons (o := ?o4) ?ho4 (fun K hK => ?step4) AllReadyH.nil
              case ho4 => (simp only [List.getElem?_toArray, List.getElem?_cons_succ, List.getElem?_cons_zero]; rfl)
              go_simp
              refine hK.out _ _ ?hS5 (fun hHeld' => ?rest5)
              case hS5 => ((try dsimp only); all_goals trivial)
              clear hK K
              (try simp only [pA, pZ, pS])
              clear hHeld
              have hHeld := hHeld'
              clear hHeld'
              refine wpAnyH_ready (rs := [7]) (by kernel_rfl) (by simp) ?_
              refine AllReadyH.cons (o := ?o6) ?ho6 (fun K hK => ?step6) AllReadyH.nil
              case ho6 => (simp only [List.getElem?_toArray, List.getElem?_cons_succ, List.getElem?_cons_zero]; rfl)
              go_simp
              have HA7 := hidX (fun o' => (Below.refl _ _).alloc (Nat.le_refl _) o' : ∀ o', Below u7.drew.heap.size u7.drew (u7.drew.alloc o')); have d7a : ∀ o', (u7.drew.alloc o').cell? ⟨pb, 7, none⟩ = some (.slice ea' s'.1.length ec') := fun o' => cell_below (HA7.out o') d7; have d7b : ∀ o', (u7.alloc o').drew.cell? ⟨pb, 7, none⟩ = some (.slice ea' s'.1.length ec') := d7a; have d7c : ∀ o', (u7.alloc o').cell? ⟨pb, 7, none⟩ = some (.slice ea' s'.1.length ec') := d7a
              refine hK.out _ _ ?hS7 (fun hHeld' => ?rest7)
              case hS7 => ((try dsimp only); all_goals trivial)
              clear hK K
              (try simp only [pA, pZ, pS])
              clear hHeld
              have hHeld := hHeld'
              clear hHeld'
              have OW7 := hidX (own_bel XB.out.st.ow ((Below.refl _ _).drew))
              refine wpAnyH_ready (rs := [8]) (by kernel_rfl) (by simp) ?_
              refine AllReadyH.cons (o := ?o8) ?ho8 (fun K hK => ?step8) AllReadyH.nil
              case ho8 => (simp only [List.getElem?_toArray, List.getElem?_cons_succ, List.getElem?_cons_zero]; rfl)
              (refine step_append_any (by rfl) (.tmp 112) (.tmp 114) 43 (by rfl) B 139 _ 8 80 Tryz.underlying43 infoEF1 (by rfl) (by omega) _ s'.1.length _ (by rfl) (own_bel OW7.out (HA7.out _)) (some ⟨_, 0, none⟩) 1 1 (by rfl) (exC xe) (by rfl) (fun e => by cases e) (news_new _ _ _ _ (by simp)) (exC_one xe) (by unfold maxLen; omega) (by omega) (by simp; omega) ?_; intro a8 c8 u8 ho8 hg8 hl8)
              refine hK.out _ _ ?hS9 (fun hHeld' => ?rest9)
              case hS9 => ((try dsimp only); all_goals trivial)
              clear hK K
              (try simp only [pA, pZ, pS])
              clear hHeld
              have hHeld := hHeld'
              clear hHeld'
              have hrow : ∀ k, obE s' ea' ec' = some k → B ≤ k := fun k hk => (OW7.out.lt k hk).1
              have HBA := hidX (fun o' => (XB.out.st.mb.below ((Below.refl _ _).drew)).below (HA7.out o'))
              have HB8 := hidX ((HBA.out _).blocks (hg8.out.block pb (HBA.out _).lt (fun e => by have := hrow pb e.symm; omega)) (hg8.out.block g (HBA.out _).glt (fun e => by have := hrow g e.symm; omega)))
              have f7 : u8.cell? ⟨pb, 7, none⟩ = some (.slice ea' s'.1.length ec') := HB8.out.cellR (j := 3) rfl
              have z7 := HB8.out.frozR 7
              refine tk 9 hHeld ?_
              (try simp only [pA, pZ, pS])
              refine tk 10 hHeld ?_
              (try simp only [pA, pZ, pS])
              refine tk 11 hHeld ?_
              (try simp only [pA, pZ, pS])
              refine wpAnyH_ready (rs := [12]) (by kernel_rfl) (by simp) ?_
              refine AllReadyH.cons (o := ?o10) ?ho10 (fun K hK => ?step10) AllReadyH.nil
              case ho10 => (simp only [List.getElem?_toArray, List.getElem?_cons_succ, List.getElem?_cons_zero]; rfl)
              go_simp
              refine hK.out _ _ ?hS11 (fun hHeld' => ?rest11)
              case hS11 => ((try dsimp only); all_goals trivial)
              clear hK K
              (try dsimp only)
              clear hHeld
              have hHeld := hHeld'
              clear hHeld'
              refine wpAnyH_done (by kernel_rfl) ?_ _
              refine NoPanic.normal ?_
              clear hHeld
              refine lift_eq ?_
              intro u9 hu9
              have P9 := hidX (HB8.out.setR (j := 3) hu9)
              have m9 : MkO (some pb) u8 u9 := by rw [hu9]; exact MkO.set _
              have hg9 : MkX pb (obE s' ea' ec') u7 u8 := ⟨((Below.refl 0 u7).drew.trans ((HA7.out _).mono (Nat.zero_le _))).grown hg8.out (Nat.zero_le _) (fun _ _ => Nat.zero_le _), fun g hg _ ho => (hg8.out.block g (by simp; omega) (fun e => ho e.symm)).trans ((HA7.out _).block g hg)⟩
              have rx : RowX (obE s' ea' ec') (Value.slice a8 (s'.1.length + 1) c8).ownBlock u7.heap.size := hl8.out.imp id fun h g hg => by
                rw [h] at hg
                injection hg with hg
                simp at hg
                omega
              have M9 := hidX ((XB.out.mo.trans hg9 XB.out.rw').trans (MkX.of m9 : MkX pb (Value.slice a8 (s'.1.length + 1) c8).ownBlock u8 u9) (XB.out.rw'.trans rx hws7))
              have hs8 := hg8.out.size
              simp at hs8
              have s9 := m9.rest.size
              have S9 := hidX (show MX u9 B pb g W c sx nm sl pv av (s'.1 ++ [xe], s'.2) a8 c8 bg' from ⟨by simpa [RM] using P9.out, XB.out.st.hb, by simpa using own_mko ho8.out m9 hpB, hpB, hgB, by omega⟩)
              have c9 : u9.cell? ⟨pb, 7, none⟩ = some (.slice a8 (s'.1 ++ [xe]).length c8) := S9.out.mb.cellR (j := 3) rfl
              have R9 := hidX (show RowX (obE es ea ec) (obE (s'.1 ++ [xe], s'.2) a8 c8) w.heap.size from by simpa [obE] using XB.out.rw'.trans rx hws7)
              clear hu9 m9 hg9 rx f7 z7 P9 HBA hrow d7 g0 g1 g2 g3 g4 g5 g6 g7 HB8
              simp only [List.length_append, List.length_singleton] at c9
              go_wp2_with fail
              go_ret
              exact ⟨M9.out, (s'.1.length : Int), (s'.1 ++ [xe], s'.2), a8, c8, bg', by simp [Rint], by rw [XB.out.es]; exact S9.out, R9.out, XB.out.pe⟩
            case step2 =>
              go_simp
              refine hK.out _ _ ?hS12 (fun hHeld' => ?rest12)
              case hS12 => ((try dsimp only); all_goals trivial)
              clear hK K
              (try simp only [pA, pZ, pS])
              clear hHeld
              have hHeld := hHeld'
              clear hHeld'
              refine wpAnyH_ready (rs := [5, 7]) (by kernel_rfl) (by simp) ?_
              refine AllReadyH.cons (o := ?o13) ?ho13 (fun K hK => ?step13) (AllReadyH.cons (o := ?o14) ?ho14 (fun K hK => ?step14) AllReadyH.nil)
              case ho13 => (simp only [List.getElem?_toArray, List.getElem?_cons_succ, List.getElem?_cons_zero]; rfl)
              case ho14 => (simp only [List.getElem?_toArray, List.getElem?_cons_succ, List.getElem?_cons_zero]; rfl)
              case step13 =>
                go_simp
                refine hK.out _ _ ?hS15 (fun hHeld' => ?rest15)
                case hS15 => ((try dsimp only); all_goals trivial)
                clear hK K
                (try simp only [pA, pZ, pS])
                clear hHeld
                have hHeld := hHeld'
                clear hHeld'
                refine wpAnyH_ready (rs := [7]) (by kernel_rfl) (by simp) ?_
                refine AllReadyH.cons (o := ?o16) ?ho16 (fun K hK => ?step16) AllReadyH.nil
                case ho16 => (simp only [List.getElem?_toArray, List.getElem?_cons_succ, List.getElem?_cons_zero]; rfl)
                go_simp
                have HA7 := hidX (fun o' => (Below.refl _ _).alloc (Nat.le_refl _) o' : ∀ o', Below u7.drew.heap.size u7.drew (u7.drew.alloc o')); have d7a : ∀ o', (u7.drew.alloc o').cell? ⟨pb, 7, none⟩ = some (.slice ea' s'.1.length ec') := fun o' => cell_below (HA7.out o') d7; have d7b : ∀ o', (u7.alloc o').drew.cell? ⟨pb, 7, none⟩ = some (.slice ea' s'.1.length ec') := d7a; have d7c : ∀ o', (u7.alloc o').cell? ⟨pb, 7, none⟩ = some (.slice ea' s'.1.length ec') := d7a
                refine hK.out _ _ ?hS17 (fun hHeld' => ?rest17)
                case hS17 => ((try dsimp only); all_goals trivial)
                clear hK K
                (try simp only [pA, pZ, pS])
                clear hHeld
                have hHeld := hHeld'
                clear hHeld'
                have OW7 := hidX (own_bel XB.out.st.ow ((Below.refl _ _).drew))
                refine wpAnyH_ready (rs := [8]) (by kernel_rfl) (by simp) ?_
                refine AllReadyH.cons (o := ?o18) ?ho18 (fun K hK => ?step18) AllReadyH.nil
                case ho18 => (simp only [List.getElem?_toArray, List.getElem?_cons_succ, List.getElem?_cons_zero]; rfl)
                (refine step_append_any (by rfl) (.tmp 112) (.tmp 114) 43 (by rfl) B 139 _ 8 80 Tryz.underlying43 infoEF1 (by rfl) (by omega) _ s'.1.length _ (by rfl) (own_bel OW7.out (HA7.out _)) (some ⟨_, 0, none⟩) 1 1 (by rfl) (exC xe) (by rfl) (fun e => by cases e) (news_new _ _ _ _ (by simp)) (exC_one xe) (by unfold maxLen; omega) (by omega) (by simp; omega) ?_; intro a8 c8 u8 ho8 hg8 hl8)
                refine hK.out _ _ ?hS19 (fun hHeld' => ?rest19)
                case hS19 => ((try dsimp only); all_goals trivial)
                clear hK K
                (try simp only [pA, pZ, pS])
                clear hHeld
                have hHeld := hHeld'
                clear hHeld'
                have hrow : ∀ k, obE s' ea' ec' = some k → B ≤ k := fun k hk => (OW7.out.lt k hk).1
                have HBA := hidX (fun o' => (XB.out.st.mb.below ((Below.refl _ _).drew)).below (HA7.out o'))
                have HB8 := hidX ((HBA.out _).blocks (hg8.out.block pb (HBA.out _).lt (fun e => by have := hrow pb e.symm; omega)) (hg8.out.block g (HBA.out _).glt (fun e => by have := hrow g e.symm; omega)))
                have f7 : u8.cell? ⟨pb, 7, none⟩ = some (.slice ea' s'.1.length ec') := HB8.out.cellR (j := 3) rfl
                have z7 := HB8.out.frozR 7
                refine tk 9 hHeld ?_
                (try simp only [pA, pZ, pS])
                refine tk 10 hHeld ?_
                (try simp only [pA, pZ, pS])
                refine tk 11 hHeld ?_
                (try simp only [pA, pZ, pS])
                refine wpAnyH_ready (rs := [12]) (by kernel_rfl) (by simp) ?_
                refine AllReadyH.cons (o := ?o20) ?ho20 (fun K hK => ?step20) AllReadyH.nil
                case ho20 => (simp only [List.getElem?_toArray, List.getElem?_cons_succ, List.getElem?_cons_zero]; rfl)
                go_simp
                refine hK.out _ _ ?hS21 (fun hHeld' => ?rest21)
                case hS21 => ((try dsimp only); all_goals trivial)
                clear hK K
                (try dsimp only)
                clear hHeld
                have hHeld := hHeld'
                clear hHeld'
                refine wpAnyH_done (by kernel_rfl) ?_ _
                refine NoPanic.normal ?_
                clear hHeld
                refine lift_eq ?_
                intro u9 hu9
                have P9 := hidX (HB8.out.setR (j := 3) hu9)
                have m9 : MkO (some pb) u8 u9 := by rw [hu9]; exact MkO.set _
                have hg9 : MkX pb (obE s' ea' ec') u7 u8 := ⟨((Below.refl 0 u7).drew.trans ((HA7.out _).mono (Nat.zero_le _))).grown hg8.out (Nat.zero_le _) (fun _ _ => Nat.zero_le _), fun g hg _ ho => (hg8.out.block g (by simp; omega) (fun e => ho e.symm)).trans ((HA7.out _).block g hg)⟩
                have rx : RowX (obE s' ea' ec') (Value.slice a8 (s'.1.length + 1) c8).ownBlock u7.heap.size := hl8.out.imp id fun h g hg => by
                  rw [h] at hg
                  injection hg with hg
                  simp at hg
                  omega
                have M9 := hidX ((XB.out.mo.trans hg9 XB.out.rw').trans (MkX.of m9 : MkX pb (Value.slice a8 (s'.1.length + 1) c8).ownBlock u8 u9) (XB.out.rw'.trans rx hws7))
                have hs8 := hg8.out.size
                simp at hs8
                have s9 := m9.rest.size
                have S9 := hidX (show MX u9 B pb g W c sx nm sl pv av (s'.1 ++ [xe], s'.2) a8 c8 bg' from ⟨by simpa [RM] using P9.out, XB.out.st.hb, by simpa using own_mko ho8.out m9 hpB, hpB, hgB, by omega⟩)
                have c9 : u9.cell? ⟨pb, 7, none⟩ = some (.slice a8 (s'.1 ++ [xe]).length c8) := S9.out.mb.cellR (j := 3) rfl
                have R9 := hidX (show RowX (obE es ea ec) (obE (s'.1 ++ [xe], s'.2) a8 c8) w.heap.size from by simpa [obE] using XB.out.rw'.trans rx hws7)
                clear hu9 m9 hg9 rx f7 z7 P9 HBA hrow d7 g0 g1 g2 g3 g4 g5 g6 g7 HB8
                simp only [List.length_append, List.length_singleton] at c9
                go_wp2_with fail
                go_ret
                exact ⟨M9.out, (s'.1.length : Int), (s'.1 ++ [xe], s'.2), a8, c8, bg', by simp [Rint], by rw [XB.out.es]; exact S9.out, R9.out, XB.out.pe⟩
              case step14 =>
                go_simp
                have HA7 := hidX (fun o' => (Below.refl _ _).alloc (Nat.le_refl _) o' : ∀ o', Below u7.drew.heap.size u7.drew (u7.drew.alloc o')); have d7a : ∀ o', (u7.drew.alloc o').cell? ⟨pb, 7, none⟩ = some (.slice ea' s'.1.length ec') := fun o' => cell_below (HA7.out o') d7; have d7b : ∀ o', (u7.alloc o').drew.cell? ⟨pb, 7, none⟩ = some (.slice ea' s'.1.length ec') := d7a; have d7c : ∀ o', (u7.alloc o').cell? ⟨pb, 7, none⟩ = some (.slice ea' s'.1.length ec') := d7a
                refine hK.out _ _ ?hS22 (fun hHeld' => ?rest22)
                case hS22 => ((try dsimp only); all_goals trivial)
                clear hK K
                (try simp only [pA, pZ, pS])
                clear hHeld
                have hHeld := hHeld'
                clear hHeld'
                refine wpAnyH_ready (rs := [5]) (by kernel_rfl) (by simp) ?_
                refine AllReadyH.cons (o := ?o23) ?ho23 (fun K hK => ?step23) AllReadyH.nil
                case ho23 => (simp only [List.getElem?_toArray, List.getElem?_cons_succ, List.getElem?_cons_zero]; rfl)
                go_simp
                refine hK.out _ _ ?hS24 (fun hHeld' => ?rest24)
                case hS24 => ((try dsimp only); all_goals trivial)
                clear hK K
                (try simp only [pA, pZ, pS])
                clear hHeld
                have hHeld := hHeld'
                clear hHeld'
                have OW7 := hidX (own_bel XB.out.st.ow ((Below.refl _ _).drew))
                refine wpAnyH_ready (rs := [8]) (by kernel_rfl) (by simp) ?_
                refine AllReadyH.cons (o := ?o25) ?ho25 (fun K hK => ?step25) AllReadyH.nil
                case ho25 => (simp only [List.getElem?_toArray, List.getElem?_cons_succ, List.getElem?_cons_zero]; rfl)
                (refine step_append_any (by rfl) (.tmp 112) (.tmp 114) 43 (by rfl) B 139 _ 8 80 Tryz.underlying43 infoEF1 (by rfl) (by omega) _ s'.1.length _ (by rfl) (own_bel OW7.out (HA7.out _)) (some ⟨_, 0, none⟩) 1 1 (by rfl) (exC xe) (by rfl) (fun e => by cases e) (news_new _ _ _ _ (by simp)) (exC_one xe) (by unfold maxLen; omega) (by omega) (by simp; omega) ?_; intro a8 c8 u8 ho8 hg8 hl8)
                refine hK.out _ _ ?hS26 (fun hHeld' => ?rest26)
                case hS26 => ((try dsimp only); all_goals trivial)
                clear hK K
                (try simp only [pA, pZ, pS])
                clear hHeld
                have hHeld := hHeld'
                clear hHeld'
                have hrow : ∀ k, obE s' ea' ec' = some k → B ≤ k := fun k hk => (OW7.out.lt k hk).1
                have HBA := hidX (fun o' => (XB.out.st.mb.below ((Below.refl _ _).drew)).below (HA7.out o'))
                have HB8 := hidX ((HBA.out _).blocks (hg8.out.block pb (HBA.out _).lt (fun e => by have := hrow pb e.symm; omega)) (hg8.out.block g (HBA.out _).glt (fun e => by have := hrow g e.symm; omega)))
                have f7 : u8.cell? ⟨pb, 7, none⟩ = some (.slice ea' s'.1.length ec') := HB8.out.cellR (j := 3) rfl
                have z7 := HB8.out.frozR 7
                refine tk 9 hHeld ?_
                (try simp only [pA, pZ, pS])
                refine tk 10 hHeld ?_
                (try simp only [pA, pZ, pS])
                refine tk 11 hHeld ?_
                (try simp only [pA, pZ, pS])
                refine wpAnyH_ready (rs := [12]) (by kernel_rfl) (by simp) ?_
                refine AllReadyH.cons (o := ?o27) ?ho27 (fun K hK => ?step27) AllReadyH.nil
                case ho27 => (simp only [List.getElem?_toArray, List.getElem?_cons_succ, List.getElem?_cons_zero]; rfl)
                go_simp
                refine hK.out _ _ ?hS28 (fun hHeld' => ?rest28)
                case hS28 => ((try dsimp only); all_goals trivial)
                clear hK K
                (try dsimp only)
                clear hHeld
                have hHeld := hHeld'
                clear hHeld'
                refine wpAnyH_done (by kernel_rfl) ?_ _
                refine NoPanic.normal ?_
                clear hHeld
                refine lift_eq ?_
                intro u9 hu9
                have P9 := hidX (HB8.out.setR (j := 3) hu9)
                have m9 : MkO (some pb) u8 u9 := by rw [hu9]; exact MkO.set _
                have hg9 : MkX pb (obE s' ea' ec') u7 u8 := ⟨((Below.refl 0 u7).drew.trans ((HA7.out _).mono (Nat.zero_le _))).grown hg8.out (Nat.zero_le _) (fun _ _ => Nat.zero_le _), fun g hg _ ho => (hg8.out.block g (by simp; omega) (fun e => ho e.symm)).trans ((HA7.out _).block g hg)⟩
                have rx : RowX (obE s' ea' ec') (Value.slice a8 (s'.1.length + 1) c8).ownBlock u7.heap.size := hl8.out.imp id fun h g hg => by
                  rw [h] at hg
                  injection hg with hg
                  simp at hg
                  omega
                have M9 := hidX ((XB.out.mo.trans hg9 XB.out.rw').trans (MkX.of m9 : MkX pb (Value.slice a8 (s'.1.length + 1) c8).ownBlock u8 u9) (XB.out.rw'.trans rx hws7))
                have hs8 := hg8.out.size
                simp at hs8
                have s9 := m9.rest.size
                have S9 := hidX (show MX u9 B pb g W c sx nm sl pv av (s'.1 ++ [xe], s'.2) a8 c8 bg' from ⟨by simpa [RM] using P9.out, XB.out.st.hb, by simpa using own_mko ho8.out m9 hpB, hpB, hgB, by omega⟩)
                have c9 : u9.cell? ⟨pb, 7, none⟩ = some (.slice a8 (s'.1 ++ [xe]).length c8) := S9.out.mb.cellR (j := 3) rfl
                have R9 := hidX (show RowX (obE es ea ec) (obE (s'.1 ++ [xe], s'.2) a8 c8) w.heap.size from by simpa [obE] using XB.out.rw'.trans rx hws7)
                clear hu9 m9 hg9 rx f7 z7 P9 HBA hrow d7 g0 g1 g2 g3 g4 g5 g6 g7 HB8
                simp only [List.length_append, List.length_singleton] at c9
                go_wp2_with fail
                go_ret
                exact ⟨M9.out, (s'.1.length : Int), (s'.1 ++ [xe], s'.2), a8, c8, bg', by simp [Rint], by rw [XB.out.es]; exact S9.out, R9.out, XB.out.pe⟩
end Go.Proofs.YtdhpoagjmiligaaGreatDoor
