/-
  OUR OWN TEXT. Sx15, Sx16, Mq1, Mq2, Mq3, Sx17, Sx18, Sx19, one behind the other.
-/
import Derived.Test.YtgkoiojelckblaaGreatDoorKba
import Derived.Test.YtgkoiojelckblaaGreatDoorHwm
import Derived.StringKeys
import Derived.Maps.Own
import Derived.Maps.OwnSet
import Derived.Maps.Views
import Derived.Maps.Keyed
namespace Go.Proofs.YtgkoiojelckblaaGreatDoor
open Go.RowKit
attribute [local go_sem ↓] Go.wp_at_zero Go.wp_at_succ

def openW (n m : Int) (l : List Wd) : Px Wd := match nextW l with
  | .error f => .error f
  | .ok (x, _) => if pkW x = 40 ∧ m ≤ n then .error (4, x.pos) else takeW 40 l
def boundW (n m : Int) (l : List Wd) : Px Unit := match nextW l with
  | .error f => .error f
  | .ok (x, _) => if m ≤ n ∧ pkW x ≠ 41 ∧ pkW x ≠ 0 then .error (4, x.pos) else .ok ((), l)
def notT : Bs := [110, 111, 116]
def pClass (l : List Wd) : Px Bs := match takeW 97 l with
  | .error f => .error f
  | .ok (x, r) => if ptW x = notT then .error (3, x.pos) else .ok (ptW x, r)
def Rn {α : Type} (_ : α) (e : Ending) (_ : World) : Prop := e = .returned (.tuple #[])
def Rs1 (t : Bs) (e : Ending) (_ : World) : Prop := e = .returned (.string (mkS t))
theorem fault_L {L : List Value} {X : Int} {x : Wd} (h : Hid (X = pkW x ∧ L = pwL (pkW x) x.pos (ptW x) x.num)) (code : Int) (u : World) : Calls Tryz.prog 70 #[.agg L.toArray, .int .i64 code] u fun e w' => e = .returned (.agg #[.int .i64 code, .int .i64 (x.pos : Int)]) ∧ Below u.heap.size u w' := by
  rw [h.out.2]
  exact wfault_any _ _ _ _ _ _
theorem value_L {L : List Value} {X : Int} {x : Wd} (h : Hid (X = pkW x ∧ L = pwL (pkW x) x.pos (ptW x) x.num)) (u : World) : Calls Tryz.prog 106 #[.agg L.toArray] u fun e w' => e = .returned (.agg (wVal (pkW x) x.num (ptW x)).cells.toArray) ∧ Below u.heap.size u w' := by
  rw [h.out.2]
  exact wvalue_any _ _ _ _ _
theorem peek_A {w : World} {x : Wd} {r : List Wd} {e : Ending} {w' : World} (h : PkPost w (.ok (x, r)) e w') : Below w.heap.size w w' ∧ e = .returned (pwA x) := h
set_option maxRecDepth 100000 in
set_option maxHeartbeats 1600000 in
theorem open_any (w : World) (pb : Nat) (src : Bs) (a : Option Addr) (c : Nat) (l : List Wd) (R : List Value) (n m : Int) (h : PSt w pb src a c l R) : Calls Tryz.prog 39 #[.pointer (some ⟨pb, 0, none⟩), .int .i64 n, .int .i64 m] w (PPost w pb src a c R Rn (openW n m l)) := by
  have HP := hidX h
  obtain ⟨k, hs⟩ := h.sc
  have HPK := hidX (peek_any w pb k src a c l R hs h.env)
  have HRG := hidX hs.range
  clear h hs
  go_enter Tryz.func39, Tryz.ntmps39
  cases hr : nextW l with
  | error f =>
    have HT : Hid (openW n m l = .error f) := show _ = _ from by unfold openW; rw [hr]
    rw [hr] at HPK
    go_wp2_with (first | (refine wpList_load_mid (by rfl) 65 (.tmp 9) (by rfl) pb 0 (by rfl) [.slice a src.length c, .int .i64 (k : Int)] _ HRG.out Tryz.underlying65 rfl infoSc ?_) | (go_at_call 69; refine HPK.out.mono ?_; rintro e w2 ⟨hb2, rfl⟩; unfold fltE) | fail)
    exact ⟨rfl, PPost.err HT.out (MkO.of_below hb2)⟩
  | ok p =>
    obtain ⟨x, r⟩ := p
    rw [hr] at HPK
    go_upto_region 1 with (first | (refine wpList_load_mid (by rfl) 65 (.tmp 9) (by rfl) pb 0 (by rfl) [.slice a src.length c, .int .i64 (k : Int)] _ HRG.out Tryz.underlying65 rfl infoSc ?_) | (go_at_call 69; refine HPK.out.mono ?_; intro e w2 hp2; obtain ⟨hb2, hp2⟩ := peek_A hp2; subst hp2; unfold pwA) | fail)
    refine lift_alloc ?_
    intro w3 hW3 hq3
    obtain ⟨L, X, HLX, hLl, hq3, y0⟩ := wd_box hq3
    have HB3 := hidX (hb2.trans (hW3.mono hb2.size))
    clear hW3 hb2 HPK HRG
    by_cases hk : X = 40 ∧ m ≤ n
    · have HT : Hid (openW n m l = .error (4, x.pos)) := show _ = _ from by unfold openW; rw [hr]; simp only; rw [← HLX.out.1, if_pos hk]
      have e1 : (X == 40) = true := by simp [hk.1]
      have e2 : m ≤ n := hk.2
      clear hk
      go_wp2_with (first | (refine wpList_load_blk (by rfl) 146 (.tmp 6) (by rfl) w2.heap.size L (by rfl) 146 (0, 0) hq3 _ Tryz.underlying146 rfl hLl.1 ?_) | (go_at_call 70; refine (fault_L HLX 4 _).mono ?_; rintro e w4 ⟨rfl, hb4⟩) | fail)
      exact ⟨rfl, PPost.err HT.out (MkO.of_below (HB3.out.trans (hb4.mono HB3.out.size)))⟩
    · have HT : Hid (openW n m l = takeW 40 l) := show _ = _ from by unfold openW; rw [hr]; simp only; rw [← HLX.out.1, if_neg hk]
      have HTK := hidX (take_any w3 pb src a c l R 40 (HP.out.below HB3.out))
      have hor : (X == 40) = false ∨ ((X == 40) = true ∧ ¬ m ≤ n) := by
        by_cases h1 : X = 40
        · exact .inr ⟨by simp [h1], fun h2 => hk ⟨h1, h2⟩⟩
        · exact .inl (beqF h1)
      clear hk
      cases ht : takeW 40 l with
      | error f =>
        rw [ht] at HTK HT
        rcases hor with e1 | ⟨e1, e2⟩
        all_goals
          go_wp2_with (first | (go_at_call 62; refine HTK.out.mono ?_; rintro e w4 ⟨hm4, rfl⟩; unfold fltE) | fail)
          exact ⟨rfl, PPost.err HT.out ((MkO.of_below HB3.out).trans hm4)⟩
      | ok p =>
        obtain ⟨x', r'⟩ := p
        rw [ht] at HTK HT
        rcases hor with e1 | ⟨e1, e2⟩
        all_goals
          go_wp2_with (first | (go_at_call 62; refine HTK.out.mono ?_; rintro e w4 ⟨hm4, hw4, hp4⟩; replace hw4 : e = .returned (pwA x') := hw4; subst hw4) | fail)
          refine bodyPost_end (results_none rfl _ _ _) rfl (PPost.good HT.out ((MkO.of_below HB3.out).trans hm4) rfl hp4)
set_option maxRecDepth 100000 in
set_option maxHeartbeats 1600000 in
theorem bound_any (w : World) (pb : Nat) (src : Bs) (a : Option Addr) (c : Nat) (l : List Wd) (R : List Value) (n m : Int) (h : PSt w pb src a c l R) : Calls Tryz.prog 103 #[.pointer (some ⟨pb, 0, none⟩), .int .i64 n, .int .i64 m] w (PPost w pb src a c R Rn (boundW n m l)) := by
  have HP := hidX h
  obtain ⟨k, hs⟩ := h.sc
  have HPK := hidX (peek_any w pb k src a c l R hs h.env)
  have HRG := hidX hs.range
  clear h hs
  go_enter Tryz.func103, Tryz.ntmps103
  cases hr : nextW l with
  | error f =>
    have HT : Hid (boundW n m l = .error f) := show _ = _ from by unfold boundW; rw [hr]
    rw [hr] at HPK
    go_wp2_with (first | (refine wpList_load_mid (by rfl) 65 (.tmp 9) (by rfl) pb 0 (by rfl) [.slice a src.length c, .int .i64 (k : Int)] _ HRG.out Tryz.underlying65 rfl infoSc ?_) | (go_at_call 69; refine HPK.out.mono ?_; rintro e w2 ⟨hb2, rfl⟩; unfold fltE) | fail)
    exact ⟨rfl, PPost.err HT.out (MkO.of_below hb2)⟩
  | ok p =>
    obtain ⟨x, r⟩ := p
    rw [hr] at HPK
    go_upto_region 1 with (first | (refine wpList_load_mid (by rfl) 65 (.tmp 9) (by rfl) pb 0 (by rfl) [.slice a src.length c, .int .i64 (k : Int)] _ HRG.out Tryz.underlying65 rfl infoSc ?_) | (go_at_call 69; refine HPK.out.mono ?_; intro e w2 hp2; obtain ⟨hb2, hp2⟩ := peek_A hp2; subst hp2; unfold pwA) | fail)
    refine lift_alloc ?_
    intro w3 hW3 hq3
    obtain ⟨L, X, HLX, hLl, hq3, y0⟩ := wd_box hq3
    have HB3 := hidX (hb2.trans (hW3.mono hb2.size))
    clear hW3 hb2 HPK HRG
    by_cases hk : m ≤ n ∧ X ≠ 41 ∧ X ≠ 0
    · have HT : Hid (boundW n m l = .error (4, x.pos)) := show _ = _ from by unfold boundW; rw [hr]; simp only; rw [← HLX.out.1, if_pos hk]
      have e1 : (X != 41) = true := by simp [hk.2.1]
      have e2 : (X != 0) = true := by simp [hk.2.2]
      have e3 : m ≤ n := hk.1
      clear hk
      go_wp2_with (first | (refine wpList_load_blk (by rfl) 146 (.tmp 6) (by rfl) w2.heap.size L (by rfl) 146 (0, 0) hq3 _ Tryz.underlying146 rfl hLl.1 ?_) | (go_at_call 70; refine (fault_L HLX 4 _).mono ?_; rintro e w4 ⟨rfl, hb4⟩) | fail)
      exact ⟨rfl, PPost.err HT.out (MkO.of_below (HB3.out.trans (hb4.mono HB3.out.size)))⟩
    · have HT : Hid (boundW n m l = .ok ((), l)) := show _ = _ from by unfold boundW; rw [hr]; simp only; rw [← HLX.out.1, if_neg hk]
      have P3 := hidX (HP.out.below HB3.out)
      have hor : ¬ m ≤ n ∨ (m ≤ n ∧ (X != 41) = false) ∨ (m ≤ n ∧ (X != 41) = true ∧ (X != 0) = false) := by
        by_cases h1 : m ≤ n
        · by_cases h2 : X = 41
          · exact .inr (.inl ⟨h1, by simp [h2]⟩)
          · by_cases h3 : X = 0
            · exact .inr (.inr ⟨h1, by simp [h3], by simp [h3]⟩)
            · exact absurd ⟨h1, h2, h3⟩ hk
        · exact .inl h1
      clear hk
      rcases hor with e1 | ⟨e1, e2⟩ | ⟨e1, e2, e3⟩
      all_goals
        go_wp2_with fail
        exact bodyPost_end (results_none rfl _ _ _) rfl (PPost.good HT.out (MkO.of_below HB3.out) rfl P3.out)
theorem wd_text {w : World} {b : Nat} {x : Wd} {L : List Value} {X : Int} (h : Hid (X = pkW x ∧ L = pwL (pkW x) x.pos (ptW x) x.num)) (hq : w.heap[b]? = some (.cells L.toArray 146 (0, 0))) : w.cell? ⟨b, 2, none⟩ = some (.string (mkS (ptW x))) ∧ w.cell? ⟨b, 3, none⟩ = some (.int .i64 x.num) := by
  rw [h.out.2] at hq
  exact ⟨(cells4X hq).2.2.1, (cells4X hq).2.2.2⟩
set_option maxRecDepth 100000 in
set_option maxHeartbeats 1600000 in
theorem class_any (w : World) (pb : Nat) (src : Bs) (a : Option Addr) (c : Nat) (l : List Wd) (R : List Value) (h : PSt w pb src a c l R) : Calls Tryz.prog 58 #[.pointer (some ⟨pb, 0, none⟩)] w (PPost w pb src a c R Rs1 (pClass l)) := by
  have HTK := hidX (take_any w pb src a c l R 97 h)
  clear h
  go_enter Tryz.func58, Tryz.ntmps58
  cases hr : takeW 97 l with
  | error f =>
    have HT : Hid (pClass l = .error f) := show _ = _ from by unfold pClass; rw [hr]
    rw [hr] at HTK
    go_wp2_with (first | (go_at_call 62; refine HTK.out.mono ?_; rintro e w2 ⟨hm2, rfl⟩; unfold fltE) | fail)
    exact ⟨rfl, PPost.err HT.out hm2⟩
  | ok p =>
    obtain ⟨x, r⟩ := p
    rw [hr] at HTK
    go_upto_region 2 with (first | (go_at_call 62; refine HTK.out.mono ?_; rintro e w2 ⟨hm2, hw2, hp2⟩; replace hw2 : e = .returned (pwA x) := hw2; subst hw2; unfold pwA) | fail)
    refine lift_alloc ?_
    intro w3 hW3 hq3
    obtain ⟨L, X, HLX, hLl, hq3, y0⟩ := wd_box hq3
    have M3 := hidX (hm2.trans (MkO.of_below hW3))
    have P3 := hidX (hp2.below hW3)
    have y2 := (wd_text HLX hq3).1
    have hbq := beq_lit (mkS (ptW x)) notT
    rw [bs_mkS] at hbq
    clear hW3 hm2 hp2 HTK
    by_cases hk : ptW x = notT
    · have HT : Hid (pClass l = .error (3, x.pos)) := show _ = _ from by unfold pClass; rw [hr]; simp only; rw [if_pos hk]
      rw [decide_eq_true hk] at hbq
      replace hbq : ((mkS (ptW x)).toList == [110, 111, 116]) = true := hbq
      clear hk
      go_wp2_with (first | (refine wpList_load_blk (by rfl) 146 (.tmp 3) (by rfl) w2.heap.size L (by rfl) 146 (0, 0) hq3 _ Tryz.underlying146 rfl hLl.1 ?_) | (go_at_call 70; refine (fault_L HLX 3 _).mono ?_; rintro e w4 ⟨rfl, hb4⟩) | fail)
      exact ⟨rfl, PPost.err HT.out (M3.out.trans (MkO.of_below hb4))⟩
    · have HT : Hid (pClass l = .ok (ptW x, r)) := show _ = _ from by unfold pClass; rw [hr]; simp only; rw [if_neg hk]
      rw [decide_eq_false hk] at hbq
      replace hbq : ((mkS (ptW x)).toList == [110, 111, 116]) = false := hbq
      clear hk
      go_wp2_with fail
      go_ret
      exact PPost.good HT.out M3.out rfl P3.out
end Go.Proofs.YtgkoiojelckblaaGreatDoor

namespace Go.Proofs.YtgkoiojelckblaaGreatDoor
open Go.RowKit
attribute [local go_sem ↓] Go.wp_at_zero Go.wp_at_succ

/-- A list up to its ')'; n: how many may still come. -/
def pList {α : Type} (rd : List Wd → Px α) : Nat → List Wd → Px (List α)
  | 0, l => match nextW l with
    | .error f => .error f
    | .ok (x, r) => if pkW x = 41 then .ok ([], r) else if pkW x = 0 then .error (3, x.pos) else .error (4, x.pos)
  | n + 1, l => match nextW l with
    | .error f => .error f
    | .ok (x, r) => if pkW x = 41 then .ok ([], r) else match rd l with
      | .error f => .error f
      | .ok (v, l1) => match pList rd n l1 with
        | .error f => .error f
        | .ok (vs, l2) => .ok (v :: vs, l2)
def preL {α : Type} (M : List α) (r : Px (List α)) : Px (List α) := match r with
  | .error f => .error f
  | .ok (vs, l) => .ok (M ++ vs, l)
theorem pList_err {α : Type} {rd : List Wd → Px α} {n : Nat} {l : List Wd} {f : Flt} (h : nextW l = .error f) : pList rd n l = .error f := by
  cases n <;> simp [pList, h]
theorem pList_end {α : Type} {rd : List Wd → Px α} {n : Nat} {l r : List Wd} {x : Wd} (h : nextW l = .ok (x, r)) (hx : pkW x = 41) : pList rd n l = .ok ([], r) := by
  cases n <;> simp [pList, h, hx]
theorem pList_zero {α : Type} {rd : List Wd → Px α} {l r : List Wd} {x : Wd} (h : nextW l = .ok (x, r)) (hx : pkW x ≠ 41) : pList rd 0 l = if pkW x = 0 then .error (3, x.pos) else .error (4, x.pos) := by
  simp [pList, h, hx]
theorem pList_bad {α : Type} {rd : List Wd → Px α} {n : Nat} {l r : List Wd} {x : Wd} {f : Flt} (h : nextW l = .ok (x, r)) (hx : pkW x ≠ 41) (hr : rd l = .error f) : pList rd (n + 1) l = .error f := by
  simp [pList, h, hx, hr]
theorem pList_step {α : Type} {rd : List Wd → Px α} {n : Nat} {l r l1 : List Wd} {x : Wd} {v : α} {M : List α} (h : nextW l = .ok (x, r)) (hx : pkW x ≠ 41) (hr : rd l = .ok (v, l1)) : preL M (pList rd (n + 1) l) = preL (M ++ [v]) (pList rd n l1) := by
  simp only [pList, h, hx, hr, if_false]
  cases pList rd n l1 with
  | error f => rfl
  | ok p =>
    obtain ⟨vs, l2⟩ := p
    simp [preL]
def sliceLen : Value → Nat
  | .slice _ n _ => n
  | _ => 0
theorem own_mko {w w' : World} {base pb : Nat} {e : TypeId} {m : Nat} {v : Value} {n : Nat} {xs : List Value} (h : w.ownsRow base e m v n xs) (hm : MkO (some pb) w w') (hp : pb < base) : w'.ownsRow base e m v n xs :=
  owns_of_block h fun k hk => hm.block k (h.lt k hk).2 (fun e => by
    injection e with e
    have := (h.lt k hk).1
    omega)
theorem MkO.grown {w0 w w' : World} {pb : Nat} {row : Option Nat} (h : MkO (some pb) w0 w) (hg : w.grownBy w' row) (hr : ∀ k, row = some k → w0.heap.size ≤ k) : MkO (some pb) w0 w' :=
  ⟨h.rest.grown hg (Nat.zero_le _) (fun _ _ => Nat.zero_le _), fun g hlt hne => (hg.block g (Nat.lt_of_lt_of_le hlt h.rest.size) (fun e => by have := hr g e.symm; omega)).trans (h.block g hlt hne)⟩
theorem PSt.keep {w w' : World} {pb : Nat} {src : Bs} {a : Option Addr} {c : Nat} {l : List Wd} {R : List Value} (h : PSt w pb src a c l R) (hb : Below (pb + 1) w w') : PSt w' pb src a c l R := by
  obtain ⟨k, hs⟩ := h.sc
  exact ⟨⟨k, (hb.block pb (by omega)).trans hs.blk, hs.src0, hs.cap, hs.len, hs.bys.keep (fun b o e => Nat.lt_succ_of_lt (hs.far b o e)) hb, hs.far, hs.pos⟩, h.env.keep (hb.mono (by omega))⟩
end Go.Proofs.YtgkoiojelckblaaGreatDoor

namespace Go.Proofs.YtgkoiojelckblaaGreatDoor
open Go.RowKit
attribute [local go_sem ↓] Go.wp_at_zero Go.wp_at_succ

/-- Where reading stands: at a fault, or ahead of some words. -/
abbrev Ps := Except Flt (List Wd)
def lookK (s : Ps) : Int := match s with
  | .error _ => -1
  | .ok l => match nextW l with
    | .error _ => -1
    | .ok (x, _) => x.kind
def lookS (s : Ps) : Ps := match s with
  | .error f => .error f
  | .ok l => match nextW l with
    | .error f => .error f
    | .ok _ => .ok l
/-- The words in memory. -/
def WdsAt (w : World) (g : Nat) (W : List Wd) : Prop := ∀ (j : Nat) (x : Wd), W[j]? = some x → w.rangeAt g (j * 4) (wdV x)
theorem WdsAt.block {w w' : World} {g : Nat} {W : List Wd} (h : WdsAt w g W) (hb : w'.heap[g]? = w.heap[g]?) : WdsAt w' g W := fun j x hx i v hv => (World.cell?_of_block (w := w) hb).trans (h j x hx i v hv)
theorem cell_of {w : World} {b : Nat} {L : List Value} {t : TypeId} (h : w.heap[b]? = some (.cells L.toArray t (0, 0))) {j : Nat} {v : Value} (hv : L[j]? = some v) : w.cell? ⟨b, j, none⟩ = some v := by
  simp [World.cell?, h, hv]
theorem froz_of {w : World} {b : Nat} {L : Array Value} {t : TypeId} (h : w.heap[b]? = some (.cells L t (0, 0))) (j : Nat) : w.frozen? ⟨b, j, none⟩ = false := by
  simp [World.frozen?, h]
theorem look_ok {l r : List Wd} {x : Wd} (h : nextW l = .ok (x, r)) : lookK (.ok l) = x.kind ∧ lookS (.ok l) = .ok l := by simp [lookK, lookS, h]
end Go.Proofs.YtgkoiojelckblaaGreatDoor

namespace Go.Proofs.YtgkoiojelckblaaGreatDoor
open Go.RowKit
attribute [local go_sem ↓] Go.wp_at_zero Go.wp_at_succ

theorem nextW_head {x y : Wd} {r r' : List Wd} (h : nextW (x :: r) = .ok (y, r')) : y = x ∧ r' = if x.kind = 0 then x :: r else r := by
  unfold nextW at h
  cases hb : badW x with
  | some f => simp [hb] at h
  | none =>
    simp [hb] at h
    exact ⟨h.1.symm, h.2.symm⟩
end Go.Proofs.YtgkoiojelckblaaGreatDoor

namespace Go.Proofs.YtgkoiojelckblaaGreatDoor
open Go.RowKit
attribute [local go_sem ↓] Go.wp_at_zero Go.wp_at_succ

/-- Texts in memory. -/
def TxAt (w : World) (lb : Nat) (T : List Bs) : Prop := ∀ (j : Nat) (t : Bs), T[j]? = some t → w.cell? ⟨lb, j, none⟩ = some (.string (mkS t))
theorem TxAt.block {w w' : World} {lb : Nat} {T : List Bs} (h : TxAt w lb T) (hb : w'.heap[lb]? = w.heap[lb]?) : TxAt w' lb T := fun j t ht => (World.cell?_of_block (w := w) hb).trans (h j t ht)
end Go.Proofs.YtgkoiojelckblaaGreatDoor

namespace Go.Proofs.YtgkoiojelckblaaGreatDoor
open Go.RowKit
attribute [local go_sem ↓] Go.wp_at_zero Go.wp_at_succ

/-- A command, as plain data. -/
structure Cd where
  kind : Int
  n : Int
  cls : ByteArray
  slots : List V
def cdL (x : Cd) (v : Value) : List Value := [.int .i64 x.kind, .int .i64 x.n, .string x.cls, v]
theorem own_turn {w w' : World} {base g : Nat} {e t : TypeId} {m : Nat} {v : Value} {n : Nat} {xs : List Value} {c : Array Value} (h : w.ownsRow base e m v n xs) (ht : Turned w w' g) (hb : w.heap[g]? = some (.cells c t (0, 0))) (hne : t ≠ e) : w'.ownsRow base e m v n xs :=
  owns_of_block h fun k hk => ht.block k (fun e => by
    subst e
    obtain ⟨c', hc'⟩ := own_type h hk
    exact own_far hb hc' hne)
end Go.Proofs.YtgkoiojelckblaaGreatDoor

namespace Go.Proofs.YtgkoiojelckblaaGreatDoor
open Go.RowKit Go.Maps
attribute [local go_sem ↓] Go.wp_at_zero Go.wp_at_succ

/-- A method of the parser, as an element; nil. -/
def fnR (pb : Nat) (v : Value) : Option (DataW Unit × List MemPlace) := match v with
  | .nilFunc => some (.lit (.bool true), [])
  | .func (.func i) a b => match a.toList, b.toList with
    | [.pointer (some ⟨q, 0, none⟩)], [] => if q = pb then some (.lit (.int .i64 (i : Int)), []) else none
    | _, _ => none
  | _ => none
def mth (pb i : Nat) : Value := .func (.func i) #[.pointer (some ⟨pb, 0, none⟩)] #[]
theorem fnR_mth (pb i : Nat) : fnR pb (mth pb i) = some (.lit (.int .i64 (i : Int)), []) := by
  simp [fnR, mth]
theorem fnR_nil {pb : Nat} {v : Value} {ps : List MemPlace} (h : fnR pb v = some (.lit (.bool true), ps)) : v = .nilFunc := by
  unfold fnR at h
  split at h
  · rfl
  · split at h
    · split at h
      · injection h with h
        injection h with h
        injection h with h
        cases h
      · cases h
    · cases h
  · cases h
theorem fnR_inv {pb i : Nat} {v : Value} {ps : List MemPlace} (h : fnR pb v = some (.lit (.int .i64 (i : Int)), ps)) : v = mth pb i := by
  unfold fnR at h
  split at h
  · injection h with h
    injection h with h
    injection h with h
    cases h
  · rename_i j a b
    split at h
    · rename_i q ha hb
      split at h
      · rename_i hq
        simp only [Option.some.injEq, Prod.mk.injEq, DataW.lit.injEq, Lit.int.injEq, true_and] at h
        subst hq
        have e1 : a = #[.pointer (some ⟨q, 0, none⟩)] := by
          apply Array.ext'
          simpa using ha
        have e2 : b = #[] := by
          apply Array.ext'
          simpa using hb
        have hj : j = i := Int.ofNat_inj.1 h.1
        rw [e1, e2, hj]
        rfl
      · cases h
    · cases h
  · cases h
/-- The map answers f. -/
def FInv (f : Bs → Option Nat) (D : DataW Unit) : Prop := ∀ s : Bs, (has D (.string s) = (f s).isSome) ∧ ∀ i z, f s = some i → D.atKey (.string s) z = .lit (.int .i64 (i : Int))
theorem FInv.start : FInv (fun _ => none) (.map []) := fun _ => ⟨rfl, fun _ _ h => by cases h⟩
theorem FInv.put {f : Bs → Option Nat} {D : DataW Unit} (h : FInv f D) (hm : IsMap D) (k : Bs) (i : Nat) : FInv (fun s => if s = k then some i else f s) (D.put (.string k) (.lit (.int .i64 (i : Int)))) := by
  intro s
  by_cases hs : s = k
  · subst hs
    refine ⟨?_, fun j z hj => ?_⟩
    · rw [has_put_same hm (k := .string s) trivial]
      simp
    · simp at hj
      subst hj
      rw [atKey_put_same hm (k := .string s) trivial]
  · have hne : (Lit.string s) ≠ .string k := fun e => hs (by injection e)
    refine ⟨?_, fun j z hj => ?_⟩
    · rw [has_put_other hne, (h s).1]
      simp [hs]
    · rw [atKey_put_other hne]
      exact (h s).2 j z (by simpa [hs] using hj)
def FnMap (w : World) (pb mb : Nat) (f : Bs → Option Nat) : Prop := ∃ n D, n ≤ 8 ∧ w.ownsMap Tryz.prog 9 (fnR pb) mb n D ∧ FInv f D
theorem FnMap.block {w w' : World} {pb mb : Nat} {f : Bs → Option Nat} (h : FnMap w pb mb f) (hb : w'.heap[mb]? = w.heap[mb]?) : FnMap w' pb mb f := by
  obtain ⟨n, D, hn, ⟨es, ck, h1, h2⟩, hf⟩ := h
  exact ⟨n, D, hn, ⟨es, ck, hb.trans h1, h2⟩, hf⟩
theorem FnMap.lt {w : World} {pb mb : Nat} {f : Bs → Option Nat} (h : FnMap w pb mb f) : mb < w.heap.size := by
  obtain ⟨n, D, _, ⟨es, ck, h1, _⟩, _⟩ := h
  exact lt_of_block' h1
theorem FnMap.mko {w w' : World} {pb mb : Nat} {f : Bs → Option Nat} (h : FnMap w pb mb f) (hm : MkO (some pb) w w') (hne : pb ≠ mb) : FnMap w' pb mb f := h.block (hm.block mb h.lt (fun e => hne (by injection e)))
theorem lawSx : Keyed Tryz.prog 9 := string_keyed Tryz.underlying9
theorem look_fn {w : World} {pb mb : Nat} {f : Bs → Option Nat} {t e : TypeId} (ht : Tryz.prog.underlying t = some (.map 9 e)) (hz : ∀ w, (zeroValue e).run Tryz.prog w = .ok .nilFunc w) (h : FnMap w pb mb f) {s : Bs} (hs : s.length ≤ 20000) :
    (Instr.lookup t (.map (some mb)) (.string (mkS s)) true).run Tryz.prog w = .ok (.tuple #[(match f s with | some i => mth pb i | none => .nilFunc), .bool (f s).isSome]) w := by
  obtain ⟨n, D, _, ho, hf⟩ := h
  have hsz : (mkS s).size ≤ maxLen := by rw [mkS_size]; unfold maxLen; omega
  obtain ⟨v, ps, hrun, hv⟩ := ho.look_ok lawSx (t := t) ht (hz w) (show fnR pb .nilFunc = some (.lit (.bool true), []) from rfl) (Go.WideMaps.keyOf_string_mk Tryz.underlying9 hsz)
  have e0 : (mkS s).data.toList = s := rfl
  rw [e0] at hrun hv
  rw [hrun, (hf s).1]
  cases hfs : f s with
  | none =>
    have hh : has D (.string s) = false := by rw [(hf s).1, hfs]; rfl
    rw [atKey_of_not_has hh] at hv
    rw [fnR_nil hv]
  | some i =>
    rw [(hf s).2 i _ hfs] at hv
    rw [fnR_inv hv]
def assertT : Bs := [97, 115, 115, 101, 114, 116]
def retractT : Bs := [114, 101, 116, 114, 97, 99, 116]
def modifyT : Bs := [109, 111, 100, 105, 102, 121]
def runT : Bs := [114, 117, 110]
def cmdF (s : Bs) : Option Nat := if s = runT then some 35 else if s = modifyT then some 34 else if s = retractT then some 33 else if s = assertT then some 32 else none
theorem takeW_ok {kd : Int} {l r : List Wd} {x : Wd} (h : takeW kd l = .ok (x, r)) : nextW l = .ok (x, r) ∧ pkW x = kd := by
  unfold takeW at h
  cases hr : nextW l with
  | error f => rw [hr] at h; cases h
  | ok p =>
    obtain ⟨y, t⟩ := p
    rw [hr] at h
    simp only at h
    by_cases hk : pkW y = kd
    · rw [if_pos hk] at h
      injection h with h
      rw [h]
      injection h with h1 h2
      subst h1
      exact ⟨rfl, hk⟩
    · rw [if_neg hk] at h
      cases h
theorem PSt.text {w : World} {pb : Nat} {src : Bs} {a : Option Addr} {c : Nat} {l r : List Wd} {R : List Value} {x : Wd} (h : PSt w pb src a c l R) (hr : nextW l = .ok (x, r)) : (ptW x).length ≤ 20000 := by
  obtain ⟨k, hs⟩ := h.sc
  obtain ⟨k', hk', _, hw⟩ := hs.pos
  have h1 := ((wordsAt_ok src k' hk').1 x (by rw [hw]; exact nextW_mem hr)).2
  have h2 := ptW_le x
  have h3 := hs.len
  omega
theorem PSt.cell {w : World} {pb j : Nat} {src : Bs} {a : Option Addr} {c : Nat} {l : List Wd} {R : List Value} {v : Value} (h : PSt w pb src a c l R) (hj : R[j]? = some v) : w.cell? ⟨pb, j + 2, none⟩ = some v := by
  obtain ⟨k, hs⟩ := h.sc
  simp [World.cell?, hs.blk, hj]
end Go.Proofs.YtgkoiojelckblaaGreatDoor

namespace Go.Proofs.YtgkoiojelckblaaGreatDoor
open Go.RowKit Go.Maps
attribute [local go_sem ↓] Go.wp_at_zero Go.wp_at_succ

/-- What a region leaves that may panic. -/
def PaQ (Q : Exit → Act → World → Prop) (T : List PanicEntry → World → Prop) : Exit → Act → World → Prop
  | .panic c, a, w => a.defers = [] ∧ T c w
  | e, a, w => Q e a w
theorem PaQ.imp {Q : Exit → Act → World → Prop} {T : List PanicEntry → World → Prop} (hT : ∀ c a w, a.defers = [] → T c w → Q (.panic c) a w) : ∀ (e : Exit) (a : Act) (w : World), PaQ Q T e a w → Q e a w := fun e a w h => by
  cases e <;> first | exact h | exact hT _ _ _ h.1 h.2
theorem wp_region_pa {P : Program} {id : Nat} {ops : Array Oper} {b : Bool} {Q : Exit → Act → World → Prop} (T : List PanicEntry → World → Prop) {a : Act} {w : World} (hT : ∀ c a w, a.defers = [] → T c w → Q (.panic c) a w) (h : (Code.region id ops b).wp P (PaQ Q T) a w) : (Code.region id ops b).wp P Q a w :=
  Code.wp_mono (PaQ.imp hT) h
theorem tkP {P : Program} {l : List Oper} {Q : Exit → Act → World → Prop} {T : List PanicEntry → World → Prop} {md : Region.Mode} {S : World → Prop} (i : Nat) {oi : Oper} {v : Value} {fuel : Nat} {listed : Array Bool} {a : Act} {w : World} (hS : S w)
    (h : wpAnyH P md l.toArray (PaQ Q T) S fuel (listed.setIfInBounds i true) (a.put oi.dst v) w) (hi : l[i]? = some oi := by rfl)
    (hs : Region.noSelect l.toArray = true := by kernel_rfl) (hf : Region.free md l.toArray listed i = true := by kernel_rfl) (hr : (Region.ready md l.toArray listed).contains i = true := by kernel_rfl)
    (hw : Region.wanted oi (yielded l.toArray a.tmps) = true := by rfl) (hy : ∀ w, S w → (execOp a.eval oi).run P w = .ok (.value v) w := by intro w hSw; (try dsimp only at hSw); go_simp; try with_reducible rfl) : wpAnyH P md l.toArray (PaQ Q T) S (fuel + 1) listed a w :=
  wpAnyH_take (List.getElem?_toArray.trans hi) hs hf hr (fun _ a _ h => ⟨by have h1 := h.1; unfold Act.put at h1; split at h1 <;> exact h1, h.2⟩) (.inl ⟨hw, hy⟩) hS h
theorem takeW_not {l r : List Wd} {x : Wd} {k : Int} (h : nextW l = .ok (x, r)) (hx : pkW x ≠ k) : takeW k l = .error (3, x.pos) := by
  unfold takeW
  rw [h]
  simp [hx]
/-- A command with the slice of its values. -/
abbrev CdX := Cd × Value
def cdC (x : CdX) : List Value := cdL x.1 x.2
def CdP (w : World) (B : Nat) (x : CdX) : Prop := ∃ la lc, x.2 = .slice la x.1.slots.length lc ∧ w.ownsRow B 47 3 x.2 x.1.slots.length (x.1.slots.flatMap V.cells)
/-- A row of commands that is owned, each with values of its own. -/
structure CO (w : World) (B : Nat) (a : Option Addr) (c : Nat) (M : List CdX) : Prop where
  row : w.ownsRow B 83 4 (.slice a M.length c) M.length (M.flatMap cdC)
  all : ∀ x ∈ M, CdP w B x
  pair : M.Pairwise fun x y => Apart x.2 y.2
theorem CO.nil (w : World) (B : Nat) : CO w B none 0 [] := ⟨World.ownsRow_nil _ _ _ _, fun x hx => by simp at hx, List.Pairwise.nil⟩
def RL (am cm rv lv ev bv : Value) : List Value := [am, cm, rv, lv, ev, bv]
theorem PSt.list {w w' : World} {pb : Nat} {src : Bs} {a : Option Addr} {c : Nat} {l : List Wd} {am cm rv lv ev bv v : Value} (h : PSt w pb src a c l (RL am cm rv lv ev bv)) (hv : w' = w.setCell ⟨pb, 5, none⟩ v) : PSt w' pb src a c l (RL am cm rv v ev bv) := by
  subst hv
  obtain ⟨k, hs⟩ := h.sc
  have hb : Below pb w (w.setCell ⟨pb, 5, none⟩ v) := (Turned.setCells [v] 5 w pb).below (Nat.le_refl pb)
  obtain ⟨k', hk', e', hw'⟩ := hs.pos
  refine ⟨⟨k, ⟨?_, rfl, hs.cap, hs.len, hs.bys.keep hs.far hb, hs.far, k', hk', ?_, hw'⟩⟩, h.env.keep hb⟩
  · have := heap_setCell_same (i := 5) hs.blk v
    rw [this]
    simp [RL]
  · simpa using e'
end Go.Proofs.YtgkoiojelckblaaGreatDoor
