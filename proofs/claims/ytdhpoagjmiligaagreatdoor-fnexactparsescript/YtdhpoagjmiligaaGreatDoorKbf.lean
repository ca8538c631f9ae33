/-
  OUR OWN TEXT. Mq4, Mq5, Mq6, Mq7, one behind the other.
-/
import Derived.Test.YtdhpoagjmiligaaGreatDoorKbd
import Derived.Test.YtdhpoagjmiligaaGreatDoorKbc
import Derived.Deep.CutBlock
import Derived.Deep.DeepCutAuto
namespace Go.Proofs.YtdhpoagjmiligaaGreatDoor
open Go.RowKit
attribute [local go_sem ↓] Go.wp_at_zero Go.wp_at_succ

theorem mfield2 (x0 x1 x2 x3 : Value) (w : World) : (Instr.field 72 (.agg #[x0, x1, x2, x3]) 2).run Tryz.prog w = .ok x2 w := by kernel_rfl
theorem mfield3 (x0 x1 x2 x3 : Value) (w : World) : (Instr.field 72 (.agg #[x0, x1, x2, x3]) 3).run Tryz.prog w = .ok x3 w := by kernel_rfl
def wdA (x : Wd) : Value := .agg #[.int .i64 x.kind, .int .i64 (x.pos : Int), .string (mkS x.text), .int .i64 x.num]
theorem ptW_sym {x : Wd} (h : WdOk x) (hk : x.kind = 5) : ptW x = x.text := by
  rcases h with ⟨ht, _, h0 | h0 | h0 | h0⟩ | ⟨hm, _⟩
  · omega
  · omega
  · omega
  · omega
  · have hn : ¬ (numOf x.text).isSome = true := fun e => by
      rw [hk] at hm
      unfold mkind at hm
      rw [if_pos e] at hm
      exact absurd hm (by decide)
    have hg : gSym x.text = true := by
      apply Classical.byContradiction
      intro hg
      rw [hk] at hm
      unfold mkind at hm
      rw [if_neg hn, if_neg hg] at hm
      revert hm
      repeat' split
      all_goals decide
    unfold ptW
    rw [hk, if_neg (by decide), if_neg (by decide), if_neg (by decide)]
    unfold ptext
    rw [if_neg hn, if_pos hg]
theorem rel97 : ∀ x, WdOk x → (x.kind = 5 ↔ pkW x = 97) := fun _ h => (pk_rel h).2.2.2.2.1
theorem rel48 : ∀ x, WdOk x → (x.kind = 3 ↔ pkW x = 48) := fun _ h => (pk_rel h).2.2.1
theorem rel40 : ∀ x, WdOk x → (x.kind = 1 ↔ pkW x = 40) := fun _ h => (pk_rel h).1
theorem rel41 : ∀ x, WdOk x → (x.kind = 2 ↔ pkW x = 41) := fun _ h => (pk_rel h).2.1
theorem look_same {w : World} {pb g : Nat} {W : List Wd} {c : Nat} {s : Ps} {R : List Value} (h : MB w pb g W c s R) {α : Type} (p : List Wd → Px α) (hp : ∀ l f, nextW l = .error f → p l = .error f) : onS (lookS s) p = onS s p := by
  cases s with
  | error f => rfl
  | ok l =>
    cases hr : nextW l with
    | error f =>
      rw [(look_err hr).2]
      simp [onS, hp l f hr]
    | ok q =>
      obtain ⟨x, r⟩ := q
      rw [(look_ok hr).2]
theorem take_bad {pk : Int} : ∀ l f, nextW l = .error f → takeW pk l = .error f := fun l f h => by unfold takeW; rw [h]
theorem class_bad {l : List Wd} {f : Flt} (h : takeW 97 l = .error f) : pClass l = .error f := by unfold pClass; rw [h]
theorem class_err {s : Ps} {f : Flt} (h : onS s (takeW 97) = .error f) : onS s pClass = .error f := by
  cases s with
  | error f' => injection h with h; rw [h]; rfl
  | ok l => exact class_bad h
set_option maxRecDepth 100000 in
set_option maxHeartbeats 3200000 in
theorem mclass_any (w : World) (pb g : Nat) (W : List Wd) (c : Nat) (s : Ps) (R : List Value) (h : MB w pb g W c s R) : Calls Tryz.prog 59 #[.pointer (some ⟨pb, 0, none⟩)] w (MPost w pb g W c R Rs1 (onS s pClass)) := by
  have hfd := mfield2
  have HM := hidX h
  have hpb := h.lt
  have hgl := h.glt
  have hfar := h.far
  have hcap := h.caps
  have hlen := h.len
  have HLK := hidX (fun u (hu : MB u pb g W c s R) => look_any u pb g W c s R hu)
  obtain ⟨K, hK⟩ : ∃ K, K = lookK s := ⟨_, rfl⟩
  unfold LkPost at HLK
  rw [← hK] at HLK
  clear h
  by_cases hk : K = 5
  · obtain ⟨x, r, hs, hxk, hot, hls, hxo, hxl⟩ := look_yes HM.out (by decide) (by decide) (hK.symm.trans hk)
    have HXT := hidX (ptW_sym hxo hxk)
    have HTW : Hid (takeW 97 (x :: r) = .ok (x, r)) := show _ = _ from by unfold takeW; rw [hot]; simp only; rw [if_pos ((rel97 x hxo).1 hxk)]
    rw [hls] at HLK
    have e1 : (K == 5) = true := by simp [hk]
    subst hs
    obtain ⟨hq, hkl, hrg, hd, hdr⟩ := HM.out.cells
    have c0 := cell_of hq (j := 0) rfl
    have c1 := cell_of hq (j := 1) rfl
    have c2 := hrg 2 _ rfl
    obtain ⟨k, hkk⟩ : ∃ k, k = kOf W r := ⟨_, rfl⟩
    rw [← hkk] at c1 c2 hkl
    have HKK := hidX hkk
    have hbq := beq_lit (mkS x.text) notT
    rw [bs_mkS] at hbq
    clear hk hK hxk hot hls hq hrg hd hdr hkk
    by_cases ht : x.text = notT
    · have HOT : Hid (onS (.ok (x :: r)) pClass = .error (3, x.pos)) := show _ = _ from by simp only [onS, pClass, HTW.out]; rw [if_pos (HXT.out.trans ht)]
      have HF := hidX (fun u (hu : MB u pb g W c (.ok (x :: r)) R) => fail_any u pb g W c (.ok (x :: r)) R 3 (by decide) hu)
      have HTK := hidX (fun u (hu : MB u pb g W c (.error (3, x.pos)) R) => mtake_any u pb g W c (.error (3, x.pos)) R 5 97 rel97 (by decide) (by decide) hu)
      rw [decide_eq_true ht] at hbq
      replace hbq : ((mkS x.text).toList == [110, 111, 116]) = true := hbq
      clear ht
      go_enter Tryz.func59, Tryz.ntmps59
      go_upto_region 1 with fail
      refine wp_region_noPanic ?_
      refine wp_region_held_drew (S := (fun u => u.cell? ⟨pb, 0, none⟩ = some (.slice (some ⟨g, 0, none⟩) W.length c) ∧ u.cell? ⟨pb, 1, none⟩ = some (.int .i64 (k : Int)) ∧ u.cell? ⟨g, k * 4 + 2, none⟩ = some (.string (mkS x.text)))) (by kernel_rfl) ?_ (fun hHeld => ?_)
      · (try dsimp only)
        exact ⟨c0, c1, c2⟩
      refine tk 0 hHeld ?_
      (try simp only [pA, pZ, pS])
      refine wpAnyH_ready (rs := [1]) (by kernel_rfl) (by simp) ?_
      refine AllReadyH.cons (o := ?o1) ?ho1 (fun K hK => ?step1) AllReadyH.nil
      case ho1 => (simp only [List.getElem?_toArray, List.getElem?_cons_succ, List.getElem?_cons_zero]; rfl)
      go_simp
      (go_at_call 19; refine (HLK.out _ (HM.out.below (Below.refl _ _).drew)).mono ?_; rintro e w2 ⟨rfl, hm2, hb2⟩; have hq2 := hb2.cells.1; have hg2 := hb2.cells.2.2.1 2 _ rfl; rw [← HKK.out] at hq2 hg2; have u0 := cell_of hq2 (j := 0) rfl; have u1 := cell_of hq2 (j := 1) rfl; clear hq2)
      (try go_wp2_with fail)
      refine hK.out _ _ ?hS1 (fun hHeld' => ?rest1)
      case hS1 => ((try dsimp only); exact ⟨u0, u1, hg2⟩)
      clear hK K
      (first | simp only [pA, pZ, pS] | simp only [pN] | skip)
      clear hHeld
      have hHeld := hHeld'
      clear hHeld'
      refine tk 2 hHeld ?_
      (try simp only [pA, pZ, pS])
      refine tk 3 hHeld ?_
      (try simp only [pA, pZ, pS])
      refine tk 4 hHeld ?_
      (try simp only [pA, pZ, pS])
      refine tk 5 hHeld ?_
      (try simp only [pA, pZ, pS])
      refine tk 6 hHeld ?_
      (try simp only [pA, pZ, pS])
      refine tk 7 hHeld ?_
      (try simp only [pA, pZ, pS])
      refine tk 8 hHeld ?_
      (try simp only [pA, pZ, pS])
      refine tk 9 hHeld ?_
      (try simp only [pA, pZ, pS])
      refine tk 10 hHeld ?_
      (try simp only [pA, pZ, pS])
      refine tk 11 hHeld ?_
      (try simp only [pA, pZ, pS])
      refine tk 12 hHeld ?_
      (try simp only [pA, pZ, pS])
      refine tk 13 hHeld ?_
      (try simp only [pA, pZ, pS])
      refine tk 14 hHeld ?_
      (try simp only [pA, pZ, pS])
      refine tk 15 hHeld ?_
      (try simp only [pA, pZ, pS])
      refine tk 16 hHeld ?_
      (try simp only [pA, pZ, pS])
      refine wpAnyH_done (by kernel_rfl) ?_ _
      refine NoPanic.normal ?_
      (try dsimp only)
      have HB2 := hidX hb2
      have M2 := hidX ((MkO.refl (some pb) w).drew.trans hm2)
      clear hb2 hm2 c0 c1 c2
      go_wp2_with (first | (go_at_call 20; refine (HF.out _ HB2.out).mono ?_; rintro e w3 ⟨rfl, hm3, hb3⟩) | (go_at_call 34; refine (HTK.out _ hb3).mono ?_; rintro e w4 ⟨hm4, ⟨y, he4, _⟩, hb4⟩; obtain rfl : e = .returned (wdA y) := he4; unfold wdA) | fail)
      go_ret
      exact MPost.err y.text HOT.out ((M2.out.trans hm3).trans hm4) rfl hb4
    · have HOT : Hid (onS (.ok (x :: r)) pClass = .ok (x.text, r)) := show _ = _ from by simp only [onS, pClass, HTW.out]; rw [if_neg (fun e => ht (HXT.out.symm.trans e)), HXT.out]
      have HTK := hidX (fun u (hu : MB u pb g W c (.ok (x :: r)) R) => mtake_any u pb g W c (.ok (x :: r)) R 5 97 rel97 (by decide) (by decide) hu)
      simp only [onS, HTW.out] at HTK
      rw [decide_eq_false ht] at hbq
      replace hbq : ((mkS x.text).toList == [110, 111, 116]) = false := hbq
      clear ht
      go_enter Tryz.func59, Tryz.ntmps59
      go_upto_region 1 with fail
      refine wp_region_noPanic ?_
      refine wp_region_held_drew (S := (fun u => u.cell? ⟨pb, 0, none⟩ = some (.slice (some ⟨g, 0, none⟩) W.length c) ∧ u.cell? ⟨pb, 1, none⟩ = some (.int .i64 (k : Int)) ∧ u.cell? ⟨g, k * 4 + 2, none⟩ = some (.string (mkS x.text)))) (by kernel_rfl) ?_ (fun hHeld => ?_)
      · (try dsimp only)
        exact ⟨c0, c1, c2⟩
      refine tk 0 hHeld ?_
      (try simp only [pA, pZ, pS])
      refine wpAnyH_ready (rs := [1]) (by kernel_rfl) (by simp) ?_
      refine AllReadyH.cons (o := ?o2) ?ho2 (fun K hK => ?step2) AllReadyH.nil
      case ho2 => (simp only [List.getElem?_toArray, List.getElem?_cons_succ, List.getElem?_cons_zero]; rfl)
      go_simp
      (go_at_call 19; refine (HLK.out _ (HM.out.below (Below.refl _ _).drew)).mono ?_; rintro e w2 ⟨rfl, hm2, hb2⟩; have hq2 := hb2.cells.1; have hg2 := hb2.cells.2.2.1 2 _ rfl; rw [← HKK.out] at hq2 hg2; have u0 := cell_of hq2 (j := 0) rfl; have u1 := cell_of hq2 (j := 1) rfl; clear hq2)
      (try go_wp2_with fail)
      refine hK.out _ _ ?hS2 (fun hHeld' => ?rest2)
      case hS2 => ((try dsimp only); exact ⟨u0, u1, hg2⟩)
      clear hK K
      (first | simp only [pA, pZ, pS] | simp only [pN] | skip)
      clear hHeld
      have hHeld := hHeld'
      clear hHeld'
      refine tk 2 hHeld ?_
      (try simp only [pA, pZ, pS])
      refine tk 3 hHeld ?_
      (try simp only [pA, pZ, pS])
      refine tk 4 hHeld ?_
      (try simp only [pA, pZ, pS])
      refine tk 5 hHeld ?_
      (try simp only [pA, pZ, pS])
      refine tk 6 hHeld ?_
      (try simp only [pA, pZ, pS])
      refine tk 7 hHeld ?_
      (try simp only [pA, pZ, pS])
      refine tk 8 hHeld ?_
      (try simp only [pA, pZ, pS])
      refine tk 9 hHeld ?_
      (try simp only [pA, pZ, pS])
      refine tk 10 hHeld ?_
      (try simp only [pA, pZ, pS])
      refine tk 11 hHeld ?_
      (try simp only [pA, pZ, pS])
      refine tk 12 hHeld ?_
      (try simp only [pA, pZ, pS])
      refine tk 13 hHeld ?_
      (try simp only [pA, pZ, pS])
      refine tk 14 hHeld ?_
      (try simp only [pA, pZ, pS])
      refine tk 15 hHeld ?_
      (try simp only [pA, pZ, pS])
      refine tk 16 hHeld ?_
      (try simp only [pA, pZ, pS])
      refine wpAnyH_done (by kernel_rfl) ?_ _
      refine NoPanic.normal ?_
      (try dsimp only)
      have HB2 := hidX hb2
      have M2 := hidX ((MkO.refl (some pb) w).drew.trans hm2)
      clear hb2 hm2 c0 c1 c2
      go_wp2_with (first | (go_at_call 34; refine (HTK.out _ HB2.out).mono ?_; rintro e w4 ⟨hm4, ⟨y, he4, hy4⟩, hb4⟩; obtain rfl : x = y := hy4 _ _ rfl; obtain rfl : e = .returned (wdA x) := he4; unfold wdA) | fail)
      go_ret
      exact MPost.good HOT.out (M2.out.trans hm4) rfl hb4
  · obtain ⟨f, hot, hfs⟩ := take_no (pk := 97) HM.out rel97 (fun e => hk (hK.trans e))
    have HOT := hidX (class_err hot)
    have e1 : (K == 5) = false := by simp [hk]
    have HTK := hidX (fun u (hu : MB u pb g W c (lookS s) R) => mtake_any u pb g W c (lookS s) R 5 97 rel97 (by decide) (by decide) hu)
    rw [look_same HM.out _ take_bad, hot] at HTK
    clear hk hK hot hfs
    go_enter Tryz.func59, Tryz.ntmps59
    go_upto_region 1 with fail
    refine wp_region_noPanic ?_
    refine wp_region_held_drew (S := (fun _ => True)) (by kernel_rfl) ?_ (fun hHeld => ?_)
    · (try dsimp only)
      all_goals trivial
    refine tk 0 hHeld ?_
    (try simp only [pA, pZ, pS])
    refine wpAnyH_ready (rs := [1]) (by kernel_rfl) (by simp) ?_
    refine AllReadyH.cons (o := ?o3) ?ho3 (fun K hK => ?step3) AllReadyH.nil
    case ho3 => (simp only [List.getElem?_toArray, List.getElem?_cons_succ, List.getElem?_cons_zero]; rfl)
    go_simp
    (go_at_call 19; refine (HLK.out _ (HM.out.below (Below.refl _ _).drew)).mono ?_; rintro e w2 ⟨rfl, hm2, hb2⟩)
    (try go_wp2_with fail)
    refine hK.out _ _ ?hS3 (fun hHeld' => ?rest3)
    case hS3 => ((try dsimp only); all_goals trivial)
    clear hK K
    (first | simp only [pA, pZ, pS] | simp only [pN] | skip)
    clear hHeld
    have hHeld := hHeld'
    clear hHeld'
    refine tk 2 hHeld ?_
    (try simp only [pA, pZ, pS])
    refine tk 3 hHeld ?_
    (try simp only [pA, pZ, pS])
    refine tn 4 hHeld ?_
    refine tn 5 hHeld ?_
    refine tn 6 hHeld ?_
    refine tn 7 hHeld ?_
    (try simp only [pA, pZ, pS])
    refine tn 8 hHeld ?_
    refine tn 9 hHeld ?_
    refine tn 10 hHeld ?_
    refine tn 11 hHeld ?_
    (try simp only [pA, pZ, pS])
    refine tn 12 hHeld ?_
    refine tn 13 hHeld ?_
    refine tn 14 hHeld ?_
    refine tn 15 hHeld ?_
    (try simp only [pA, pZ, pS])
    refine tk 16 hHeld ?_
    (try simp only [pA, pZ, pS])
    refine wpAnyH_done (by kernel_rfl) ?_ _
    refine NoPanic.normal ?_
    (try dsimp only)
    have HB2 := hidX hb2
    have M2 := hidX ((MkO.refl (some pb) w).drew.trans hm2)
    clear hb2 hm2
    go_wp2_with (first | (go_at_call 34; refine (HTK.out _ HB2.out).mono ?_; rintro e w4 ⟨hm4, ⟨y, he4, _⟩, hb4⟩; obtain rfl : e = .returned (wdA y) := he4; unfold wdA) | fail)
    go_ret
    exact MPost.err y.text HOT.out (M2.out.trans hm4) rfl hb4
/-- Whether one more item of a list with a limit follows. -/
def itemB (n m : Int) (s : Ps) : Bool := !(decide (lookK s = -1) || (decide (lookK s = 2) || (decide (lookK s = 0) || decide (m ≤ n))))
def itemS (n m : Int) (s : Ps) : Ps := if lookK s = -1 ∨ lookK s = 2 then lookS s else if lookK s = 0 then failS 3 (lookS s) else if m ≤ n then failS 4 (lookS s) else lookS s
def ItPost (w : World) (pb g : Nat) (W : List Wd) (c : Nat) (R : List Value) (n m : Int) (s : Ps) (e : Ending) (w' : World) : Prop := e = .returned (.bool (itemB n m s)) ∧ MkO (some pb) w w' ∧ MB w' pb g W c (itemS n m s) R
set_option maxRecDepth 100000 in
set_option maxHeartbeats 1600000 in
theorem mitem_any (w : World) (pb g : Nat) (W : List Wd) (c : Nat) (s : Ps) (R : List Value) (n m : Int) (h : MB w pb g W c s R) : Calls Tryz.prog 60 #[.pointer (some ⟨pb, 0, none⟩), .int .i64 n, .int .i64 m] w (ItPost w pb g W c R n m s) := by
  have HLK := hidX (look_any w pb g W c s R h)
  obtain ⟨K, hK⟩ : ∃ K, K = lookK s := ⟨_, rfl⟩
  unfold LkPost at HLK
  rw [← hK] at HLK
  have HF3 := hidX (fun u (hu : MB u pb g W c (lookS s) R) => fail_any u pb g W c (lookS s) R 3 (by decide) hu)
  have HF4 := hidX (fun u (hu : MB u pb g W c (lookS s) R) => fail_any u pb g W c (lookS s) R 4 (by decide) hu)
  clear h
  by_cases h1 : K = -1
  · have HP : Hid (itemB n m s = false ∧ itemS n m s = lookS s) := show _ ∧ _ from ⟨by simp [itemB, ← hK, h1], by simp [itemS, ← hK, h1]⟩
    clear hK
    subst h1
    go_enter Tryz.func60, Tryz.ntmps60
    go_wp2_with (first | (go_at_call 19; refine HLK.out.mono ?_; rintro e w2 ⟨rfl, hm2, hb2⟩) | fail)
    go_ret
    exact ⟨by rw [HP.out.1]; rfl, hm2, by rw [HP.out.2]; exact hb2⟩
  by_cases h2 : K = 2
  · have HP : Hid (itemB n m s = false ∧ itemS n m s = lookS s) := show _ ∧ _ from ⟨by simp [itemB, ← hK, h2], by simp [itemS, ← hK, h2]⟩
    clear hK h1
    subst h2
    go_enter Tryz.func60, Tryz.ntmps60
    go_wp2_with (first | (go_at_call 19; refine HLK.out.mono ?_; rintro e w2 ⟨rfl, hm2, hb2⟩) | fail)
    go_ret
    exact ⟨by rw [HP.out.1]; rfl, hm2, by rw [HP.out.2]; exact hb2⟩
  by_cases h0 : K = 0
  · have HP : Hid (itemB n m s = false ∧ itemS n m s = failS 3 (lookS s)) := show _ ∧ _ from ⟨by simp [itemB, ← hK, h0], by simp [itemS, ← hK, h0]⟩
    clear hK h1 h2
    subst h0
    go_enter Tryz.func60, Tryz.ntmps60
    go_wp2_with (first | (go_at_call 19; refine HLK.out.mono ?_; rintro e w2 ⟨rfl, hm2, hb2⟩) | (go_at_call 20; refine (HF3.out _ hb2).mono ?_; rintro e w3 ⟨rfl, hm3, hb3⟩) | fail)
    go_ret
    exact ⟨by rw [HP.out.1]; rfl, hm2.trans hm3, by rw [HP.out.2]; exact hb3⟩
  by_cases hm : m ≤ n
  · have HP : Hid (itemB n m s = false ∧ itemS n m s = failS 4 (lookS s)) := show _ ∧ _ from ⟨by simp [itemB, ← hK, hm], by unfold itemS; rw [← hK, if_neg (by omega), if_neg h0, if_pos hm]⟩
    clear hK
    go_enter Tryz.func60, Tryz.ntmps60
    go_wp2_with (first | (go_at_call 19; refine HLK.out.mono ?_; rintro e w2 ⟨rfl, hm2, hb2⟩) | (go_at_call 20; refine (HF4.out _ hb2).mono ?_; rintro e w3 ⟨rfl, hm3, hb3⟩) | fail)
    go_ret
    exact ⟨by rw [HP.out.1]; rfl, hm2.trans hm3, by rw [HP.out.2]; exact hb3⟩
  · have HP : Hid (itemB n m s = true ∧ itemS n m s = lookS s) := show _ ∧ _ from ⟨by simp [itemB, ← hK, h1, h2, h0, hm], by unfold itemS; rw [← hK, if_neg (by omega), if_neg h0, if_neg hm]⟩
    clear hK
    go_enter Tryz.func60, Tryz.ntmps60
    go_wp2_with (first | (go_at_call 19; refine HLK.out.mono ?_; rintro e w2 ⟨rfl, hm2, hb2⟩) | fail)
    go_ret
    exact ⟨by rw [HP.out.1]; rfl, hm2, by rw [HP.out.2]; exact hb2⟩
end Go.Proofs.YtdhpoagjmiligaaGreatDoor

namespace Go.Proofs.YtdhpoagjmiligaaGreatDoor
open Go.RowKit
attribute [local go_sem ↓] Go.wp_at_zero Go.wp_at_succ

theorem mNum_any (n : Int) (w : World) : Calls Tryz.prog 96 #[.int .i64 n] w fun e w' => e = .returned (.agg (V.cells (0, n, mkS [])).toArray) ∧ Below w.heap.size w w' := by
  go_enter Tryz.func96, Tryz.ntmps96
  go_wp2
  exact bodyPost_ret (v := .agg #[.int .i64 0, .int .i64 n, .string ⟨#[]⟩]) (by simp [results, Tryz.results96, go_sem]) rfl ⟨by simp [V.cells, V.kind, V.num, V.sym, mkS], (Below.refl _ _).alloc (Nat.le_refl _) _⟩
theorem mSym_any (t : Bs) (w : World) : Calls Tryz.prog 97 #[.string (mkS t)] w fun e w' => e = .returned (.agg (V.cells (1, 0, mkS t)).toArray) ∧ Below w.heap.size w w' := by
  go_enter Tryz.func97, Tryz.ntmps97
  go_wp2
  exact bodyPost_ret (v := .agg #[.int .i64 1, .int .i64 0, .string (mkS t)]) (by simp [results, Tryz.results97, go_sem]) rfl ⟨by simp [V.cells, V.kind, V.num, V.sym], (Below.refl _ _).alloc (Nat.le_refl _) _⟩
theorem lift_allocE {P : World → Prop} {w : World} {o : Obj} (h : ∀ wt, wt.heap[w.heap.size]? = some o → Below w.heap.size w wt → P wt) : P (w.alloc o).drew := h _ (heap_alloc_new _ _) ((Below.refl _ _).alloc (Nat.le_refl _) _).drew
/-- The word at hand, whatever came before. -/
theorem MB.now {w : World} {pb g : Nat} {W : List Wd} {c : Nat} {s : Ps} {R : List Value} (h : MB w pb g W c s R) : ∃ (k : Nat) (x : Wd), k < W.length ∧ w.cell? ⟨pb, 0, none⟩ = some (.slice (some ⟨g, 0, none⟩) W.length c) ∧ w.cell? ⟨pb, 1, none⟩ = some (.int .i64 (k : Int)) ∧ w.rangeAt g (k * 4) (wdV x) ∧ ∀ y r, s = .ok (y :: r) → x = y := by
  obtain ⟨k, cd, pos, hq, hk, hs⟩ := h.st
  have hx : W[k]? = some W[k] := List.getElem?_eq_getElem hk
  refine ⟨k, W[k], hk, cell_of hq (j := 0) rfl, cell_of hq (j := 1) rfl, h.wds k _ hx, fun y r e => ?_⟩
  subst e
  obtain ⟨x', r', e, hx', _⟩ := wdrop hs.2.2 hk
  injection e with e1 e2
  rw [hx] at hx'
  injection hx' with hx'
  rw [hx', ← e1]
theorem val_no {w : World} {pb g : Nat} {W : List Wd} {c : Nat} {s : Ps} {R : List Value} (hM : MB w pb g W c s R) (h3 : lookK s ≠ 3) (h5 : lookK s ≠ 5) : ∃ f, onS s pVal = .error f ∧ failS 3 (lookS s) = .error f := by
  cases s with
  | error f => exact ⟨f, rfl, rfl⟩
  | ok l =>
    obtain ⟨x, r, rfl, hx, _⟩ := hM.head
    cases hr : nextW (x :: r) with
    | error f =>
      refine ⟨f, ?_, ?_⟩
      · simp [onS, pVal, hr]
      · rw [(look_err hr).2]
        rfl
    | ok p =>
      obtain ⟨y, r'⟩ := p
      obtain ⟨rfl, _⟩ := nextW_head hr
      rw [(look_ok hr).1] at h3 h5
      refine ⟨(3, y.pos), ?_, ?_⟩
      · simp only [onS, pVal, hr]
        rw [if_neg (fun e => e.elim (fun e => h3 ((rel48 y hx).2 e)) (fun e => h5 ((rel97 y hx).2 e)))]
      · rw [(look_ok hr).2]
        rfl
def zV0 : V := (0, 0, mkS [])
set_option maxRecDepth 100000 in
set_option maxHeartbeats 3200000 in
theorem mvalue_any (w : World) (pb g : Nat) (W : List Wd) (c : Nat) (s : Ps) (R : List Value) (h : MB w pb g W c s R) : Calls Tryz.prog 61 #[.pointer (some ⟨pb, 0, none⟩)] w (MPost w pb g W c R Rv (onS s pVal)) := by
  have HM := hidX h
  have hpb := h.lt
  have hgl := h.glt
  have hfar := h.far
  have hcap := h.caps
  have hlen := h.len
  clear h
  go_enter Tryz.func61, Tryz.ntmps61
  go_upto_region 1 with fail
  refine lift_alloc ?_
  intro w1 hW1 hq1
  have hrb : w.heap.size < w1.heap.size := lt_of_block' hq1
  have hM1 := HM.out.below hW1
  obtain ⟨k, x0, hk, c0, c1, hrg, hx0⟩ := hM1.now
  have y0 := hrg 0 _ rfl
  have y1 := hrg 1 _ rfl
  have y2 := hrg 2 _ rfl
  have y3 := hrg 3 _ rfl
  simp only [Nat.add_zero] at y0
  have hp1 := hM1.lt
  have hg1 := hM1.glt
  have HX0 := hidX hx0
  have HQ1 := hidX hq1
  have M1 := hidX (MkO.of_below hW1 : MkO (some pb) w w1)
  have HM1 := hidX hM1
  clear hW1 hq1 hM1 hrg hx0
  go_region
  refine lift_allocE ?_
  intro w2 hq2 hW2
  have HLK := hidX (look_any w2 pb g W c s R (HM1.out.below hW2))
  have M2 := hidX (M1.out.trans (MkO.of_below hW2))
  have hl2 : w1.heap.size < w2.heap.size := lt_of_block' hq2
  have HRB := hidX ((hW2.block w.heap.size hrb).trans HQ1.out)
  have HQ2 := hidX hq2
  clear c0 c1 y0 y1 y2 y3 hW2 HQ1 HM1 hp1 hg1 hq2
  obtain ⟨K, hK⟩ : ∃ K, K = lookK s := ⟨_, rfl⟩
  unfold LkPost at HLK
  rw [← hK] at HLK
  by_cases h3 : K = 3
  · obtain ⟨x, r, hs, hxk, hot, hls, hxo, hxl⟩ := look_yes HM.out (by decide) (by decide) (hK.symm.trans h3)
    have hxx : x0 = x := HX0.out x r hs
    subst hxx
    have HOT : Hid (onS s pVal = .ok ((0, x0.num, mkS []), r)) := show _ = _ from by
      rw [hs]
      simp only [onS, pVal, hot]
      rw [(rel48 x0 hxo).1 hxk]
      simp [wVal]
    have HX : Hid (x0.kind ≠ 0) := show x0.kind ≠ 0 from by omega
    rw [hls] at HLK
    clear hK hs hxk hot hls
    subst h3
    go_upto_region 4 with (first | (go_at_call 19; refine HLK.out.mono ?_; rintro e w3 ⟨rfl, hm3, hb3⟩) | fail)
    obtain ⟨hq3, hkl3, hrg3, hd3, hdr3⟩ := hb3.cells
    have d1 := cell_of hq3 (j := 1) rfl
    have z1 := froz_of hq3 1
    have HQ3 := hidX hq3
    have HB3 := hidX hb3
    have M3 := hidX (M2.out.trans hm3)
    have hs3 := hm3.rest.size
    have HBX := hidX ((hm3.block w1.heap.size hl2 (fun e => by injection e; omega)).trans HQ2.out)
    have HRB3 := hidX ((hm3.block w.heap.size (by omega) (fun e => by injection e; omega)).trans HRB.out)
    clear hq3 hb3 hm3 hrg3 hd3 hdr3 HLK HQ2 HRB
    go_upto_region 5 with fail
    refine lift_setW HQ3.out ?_
    intro w4 hq4 ht4
    replace hq4 : w4.heap[pb]? = some (.cells (.slice (some ⟨g, 0, none⟩) W.length c :: .int .i64 ((kOf W r + 1 : Nat) : Int) :: .int .i64 0 :: .int .i64 ((0 : Nat) : Int) :: R).toArray 48 (0, 0)) := by
      rw [hq4]
      simp
    have HB4 := hidX (HB3.out.next HX.out ht4 hq4)
    have M4 := hidX (M3.out.trans ht4.mko)
    have hs4 := ht4.size
    have hbx4 := (ht4.block w1.heap.size (by omega)).trans HBX.out
    have hrb4 := (ht4.block w.heap.size (by omega)).trans HRB3.out
    have b3 := cell_of (L := [_, _, _, _]) hbx4 (j := 3) rfl
    have hs4' : w3.heap.size ≤ w4.heap.size := Nat.le_of_eq hs4.symm
    have HRB4 := hidX hrb4
    clear hq4 ht4 hbx4 hrb4 hs4 HQ3 HBX HRB3 d1 z1
    go_wp2_with (first | (go_at_call 96; refine (mNum_any _ _).mono ?_; rintro e w5 ⟨rfl, hb5⟩; have hrb5 := (hb5.block w.heap.size (by omega)).trans HRB4.out) | (refine wpList_store_blk (by rfl) 101 (.tmp 2) (.tmp 27) (by rfl) w.heap.size (V.cells (0, x0.num, mkS [])) (by rfl) (by rfl) _ 101 hrb5 (by rfl) infoVl (vcells_one _) ?_; intro w6 hb6 ht6) | fail)
    have hld := run_loadVar_mid (P := Tryz.prog) w6 w.heap.size 0 101 (V.cells (0, x0.num, mkS [])) _ (range_blk hb6.out) Tryz.underlying101 rfl infoVl
    (try go_frame)
    refine bodyPost_ret (v := .agg (V.cells (0, x0.num, mkS [])).toArray) (by simp [results, Tryz.results61, asAddr, hld]) rfl (MPost.good HOT.out ((M4.out.trans (MkO.of_below hb5)).turn ht6.out (Nat.le_refl _)) rfl ?_)
    exact (HB4.out.below hb5).turned ht6.out (by omega) (by omega)
  by_cases h5 : K = 5
  · obtain ⟨x, r, hs, hxk, hot, hls, hxo, hxl⟩ := look_yes HM.out (by decide) (by decide) (hK.symm.trans h5)
    have hxx : x0 = x := HX0.out x r hs
    subst hxx
    have HOT : Hid (onS s pVal = .ok ((1, 0, mkS x0.text), r)) := show _ = _ from by
      rw [hs]
      simp only [onS, pVal, hot]
      rw [(rel97 x0 hxo).1 hxk]
      simp [wVal, ptW_sym hxo hxk]
    have HX : Hid (x0.kind ≠ 0) := show x0.kind ≠ 0 from by omega
    rw [hls] at HLK
    clear hK hs hxk hot hls h3
    subst h5
    go_upto_region 7 with (first | (go_at_call 19; refine HLK.out.mono ?_; rintro e w3 ⟨rfl, hm3, hb3⟩) | fail)
    obtain ⟨hq3, hkl3, hrg3, hd3, hdr3⟩ := hb3.cells
    have d1 := cell_of hq3 (j := 1) rfl
    have z1 := froz_of hq3 1
    have HQ3 := hidX hq3
    have HB3 := hidX hb3
    have M3 := hidX (M2.out.trans hm3)
    have hs3 := hm3.rest.size
    have HBX := hidX ((hm3.block w1.heap.size hl2 (fun e => by injection e; omega)).trans HQ2.out)
    have HRB3 := hidX ((hm3.block w.heap.size (by omega) (fun e => by injection e; omega)).trans HRB.out)
    clear hq3 hb3 hm3 hrg3 hd3 hdr3 HLK HQ2 HRB
    go_upto_region 8 with fail
    refine lift_setW HQ3.out ?_
    intro w4 hq4 ht4
    replace hq4 : w4.heap[pb]? = some (.cells (.slice (some ⟨g, 0, none⟩) W.length c :: .int .i64 ((kOf W r + 1 : Nat) : Int) :: .int .i64 0 :: .int .i64 ((0 : Nat) : Int) :: R).toArray 48 (0, 0)) := by
      rw [hq4]
      simp
    have HB4 := hidX (HB3.out.next HX.out ht4 hq4)
    have M4 := hidX (M3.out.trans ht4.mko)
    have hs4 := ht4.size
    have hbx4 := (ht4.block w1.heap.size (by omega)).trans HBX.out
    have hrb4 := (ht4.block w.heap.size (by omega)).trans HRB3.out
    have b2 := cell_of (L := [_, _, _, _]) hbx4 (j := 2) rfl
    have hs4' : w3.heap.size ≤ w4.heap.size := Nat.le_of_eq hs4.symm
    have HRB4 := hidX hrb4
    clear hq4 ht4 hbx4 hrb4 hs4 HQ3 HBX HRB3 d1 z1
    go_wp2_with (first | (go_at_call 97; refine (mSym_any _ _).mono ?_; rintro e w5 ⟨rfl, hb5⟩; have hrb5 := (hb5.block w.heap.size (by omega)).trans HRB4.out) | (refine wpList_store_blk (by rfl) 101 (.tmp 2) (.tmp 39) (by rfl) w.heap.size (V.cells (1, 0, mkS x0.text)) (by rfl) (by rfl) _ 101 hrb5 (by rfl) infoVl (vcells_one _) ?_; intro w6 hb6 ht6) | fail)
    have hld := run_loadVar_mid (P := Tryz.prog) w6 w.heap.size 0 101 (V.cells (1, 0, mkS x0.text)) _ (range_blk hb6.out) Tryz.underlying101 rfl infoVl
    (try go_frame)
    refine bodyPost_ret (v := .agg (V.cells (1, 0, mkS x0.text)).toArray) (by simp [results, Tryz.results61, asAddr, hld]) rfl (MPost.good HOT.out ((M4.out.trans (MkO.of_below hb5)).turn ht6.out (Nat.le_refl _)) rfl ?_)
    exact (HB4.out.below hb5).turned ht6.out (by omega) (by omega)
  · obtain ⟨f, hot, hfs⟩ := val_no HM.out (fun e => h3 (hK.trans e)) (fun e => h5 (hK.trans e))
    have HOT := hidX hot
    have HF := hidX (fun u (hu : MB u pb g W c (lookS s) R) => fail_any u pb g W c (lookS s) R 3 (by decide) hu)
    rw [hfs] at HF
    have e3 : (K == 3) = false := by simp [h3]
    have e5 : (K == 5) = false := by simp [h5]
    clear hK hot hfs h3 h5
    go_upto_region 10 with (first | (go_at_call 19; refine HLK.out.mono ?_; rintro e w3 ⟨rfl, hm3, hb3⟩) | (go_at_call 20; refine (HF.out _ hb3).mono ?_; rintro e w4 ⟨rfl, hm4, hb4⟩) | fail)
    have hs3 := hm3.rest.size
    have hs4 := hm4.rest.size
    have hrb4 := (hm4.block w.heap.size (by omega) (fun e => by injection e; omega)).trans ((hm3.block w.heap.size (by omega) (fun e => by injection e; omega)).trans HRB.out)
    have HB4 := hidX hb4
    have M4 := hidX ((M2.out.trans hm3).trans hm4)
    clear hm3 hb3 hm4 hb4 HLK HF HRB HQ2
    go_wp2_with (first | (refine wpList_store_blk (by rfl) 101 (.tmp 2) (.tmp 42) (by rfl) w.heap.size (V.cells zV0) (by rfl) (by rfl) _ 101 hrb4 (by rfl) infoVl (vcells_one _) ?_; intro w6 hb6 ht6) | fail)
    have hld := run_loadVar_mid (P := Tryz.prog) w6 w.heap.size 0 101 (V.cells zV0) _ (range_blk hb6.out) Tryz.underlying101 rfl infoVl
    (try go_frame)
    refine bodyPost_ret (v := .agg (V.cells zV0).toArray) (by simp [results, Tryz.results61, asAddr, hld]) rfl (MPost.err zV0 HOT.out (M4.out.turn ht6.out (Nat.le_refl _)) rfl (HB4.out.turned ht6.out (by omega) (by omega)))
end Go.Proofs.YtdhpoagjmiligaaGreatDoor

namespace Go.Proofs.YtdhpoagjmiligaaGreatDoor
open Go.RowKit

def cmdT : List Bs := [assertT, retractT, modifyT, runT]
/-- A command's head: its kind, number and class. -/
def headM (l : List Wd) : Px (Int × Int × Bs) := andP (oneM 5 cmdT l) fun t l1 => if t = assertT then andP (pClass l1) fun cl l2 => .ok ((1, 0, cl), l2) else if t = retractT then andP (takeW 48 l1) fun x l2 => .ok ((2, x.num, []), l2) else if t = modifyT then andP (takeW 48 l1) fun x l2 => .ok ((3, x.num, []), l2) else andP (takeW 48 l1) fun x l2 => .ok ((4, x.num, []), l2)
def tailM (h : Int × Int × Bs) (l : List Wd) : Px Cd := if h.1 = 1 ∨ h.1 = 3 then andP (pList pVal 6 l) fun vs l2 => .ok (⟨h.1, h.2.1, mkS h.2.2, vs⟩, l2) else andP (takeW 41 l) fun _ l2 => .ok (⟨h.1, h.2.1, mkS h.2.2, []⟩, l2)
def cmdM (l : List Wd) : Px Cd := andP (takeW 40 l) fun _ l1 => andP (headM l1) fun h l2 => tailM h l2
theorem andP_ok {α β : Type} {x : α} {l : List Wd} {k : α → List Wd → Px β} : andP (.ok (x, l)) k = k x l := rfl
theorem oneM_in {kd : Int} {T : List Bs} {l l1 : List Wd} {t : Bs} (h : oneM kd T l = .ok (t, l1)) : t ∈ T := by
  unfold oneM at h
  cases hr : nextW l with
  | error f => rw [hr] at h; cases h
  | ok p =>
    obtain ⟨x, r⟩ := p
    rw [hr] at h
    simp only at h
    split at h
    · rename_i hc
      injection h with h
      injection h with h _
      rw [← h]
      exact hc.2
    · cases h
/-- One way through a head. -/
theorem head_way {β : Type} {s : Ps} {t : Bs} (p : List Wd → Px β) (f : β → Int × Int × Bs) (ht : ∀ y l, onS s (oneM 5 cmdT) = .ok (y, l) → y = t) (hH : ∀ l l1, oneM 5 cmdT l = .ok (t, l1) → headM l = andP (p l1) fun x l2 => .ok (f x, l2)) (b : β) (hb : ∀ y l, onS (stS (onS s (oneM 5 cmdT))) p = .ok (y, l) → y = b) : stS (onS s headM) = stS (onS (stS (onS s (oneM 5 cmdT))) p) ∧ ∀ y l, onS s headM = .ok (y, l) → y = f b := by
  cases s with
  | error f' => exact ⟨rfl, fun y l h => by cases h⟩
  | ok l =>
    cases ho : oneM 5 cmdT l with
    | error f' =>
      have : headM l = .error f' := by unfold headM; rw [ho]; rfl
      simp only [onS, ho, this, stS]
      exact ⟨trivial, fun y l h => by cases h⟩
    | ok q =>
      obtain ⟨t', l1⟩ := q
      have e : t' = t := ht t' l1 ho
      subst e
      simp only [onS, ho, hH l l1 ho, stS] at hb ⊢
      cases hp : p l1 with
      | error f' => exact ⟨rfl, fun y l h => by cases h⟩
      | ok q =>
        obtain ⟨x, l2⟩ := q
        refine ⟨rfl, fun y l h => ?_⟩
        rw [andP_ok] at h
        injection h with h
        injection h with h _
        rw [← h, hb x l2 hp]
theorem head_none {s : Ps} {t : Bs} (ht : ∀ y l, onS s (oneM 5 cmdT) = .ok (y, l) → y = t) (hn : t ∉ cmdT) : stS (onS s headM) = stS (onS s (oneM 5 cmdT)) ∧ ∀ y l, onS s headM = .ok (y, l) → y = (0, 0, []) := by
  cases s with
  | error f' => exact ⟨rfl, fun y l h => by cases h⟩
  | ok l =>
    cases ho : oneM 5 cmdT l with
    | error f' =>
      have : headM l = .error f' := by unfold headM; rw [ho]; rfl
      simp only [onS, ho, this, stS]
      exact ⟨trivial, fun y l h => by cases h⟩
    | ok q =>
      obtain ⟨t', l1⟩ := q
      have e : t' = t := ht t' l1 ho
      exact absurd (e ▸ oneM_in ho) hn
theorem head_assert {l l1 : List Wd} (h : oneM 5 cmdT l = .ok (assertT, l1)) : headM l = andP (pClass l1) fun x l2 => .ok ((1, 0, x), l2) := by unfold headM; rw [h, andP_ok, if_pos rfl]
theorem head_retract {l l1 : List Wd} (h : oneM 5 cmdT l = .ok (retractT, l1)) : headM l = andP (takeW 48 l1) fun x l2 => .ok ((2, x.num, []), l2) := by unfold headM; rw [h, andP_ok, if_neg (by decide), if_pos rfl]
theorem head_modify {l l1 : List Wd} (h : oneM 5 cmdT l = .ok (modifyT, l1)) : headM l = andP (takeW 48 l1) fun x l2 => .ok ((3, x.num, []), l2) := by unfold headM; rw [h, andP_ok, if_neg (by decide), if_neg (by decide), if_pos rfl]
theorem head_run {l l1 : List Wd} (h : oneM 5 cmdT l = .ok (runT, l1)) : headM l = andP (takeW 48 l1) fun x l2 => .ok ((4, x.num, []), l2) := by unfold headM; rw [h, andP_ok, if_neg (by decide), if_neg (by decide), if_neg (by decide)]
theorem preL_nil {α : Type} {M : List α} {l : List Wd} : preL M (.ok ([], l)) = .ok (M, l) := by simp [preL]
theorem kind_low {x : Wd} (h : WdOk x) : x.kind ≠ -1 := by
  rcases h with ⟨_, _, h | h | h | h⟩ | ⟨h, _⟩
  · omega
  · omega
  · omega
  · omega
  · rw [h]
    unfold mkind
    repeat' split
    all_goals decide
/-- One more value. -/
theorem item_more {w : World} {pb g : Nat} {W : List Wd} {c : Nat} {s : Ps} {R : List Value} {n : Nat} (hM : MB w pb g W c s R) (hb : itemB (n : Int) 6 s = true) (v : V) (hv : ∀ y l, onS (itemS (n : Int) 6 s) pVal = .ok (y, l) → y = v) (M : List V) : n < 6 ∧ preL M (onS s (pList pVal (6 - n))) = preL (M ++ [v]) (onS (stS (onS (itemS (n : Int) 6 s) pVal)) (pList pVal (6 - (n + 1)))) := by
  unfold itemB at hb
  simp only [Bool.not_eq_true', Bool.or_eq_false_iff, decide_eq_false_iff_not] at hb
  obtain ⟨h1, h2, h0, hm⟩ := hb
  have hS : itemS (n : Int) 6 s = lookS s := by unfold itemS; rw [if_neg (fun e => e.elim h1 h2), if_neg h0, if_neg hm]
  rw [hS] at hv ⊢
  refine ⟨by omega, ?_⟩
  cases s with
  | error f => exact absurd rfl h1
  | ok l =>
    obtain ⟨x, r, rfl, hx, _⟩ := hM.head
    cases hr : nextW (x :: r) with
    | error f => exact absurd (look_err hr).1 h1
    | ok p =>
      obtain ⟨y, r'⟩ := p
      obtain ⟨rfl, _⟩ := nextW_head hr
      rw [(look_ok hr).1] at h2
      rw [(look_ok hr).2] at hv ⊢
      have hp : pkW y ≠ 41 := fun e => h2 ((rel41 y hx).2 e)
      obtain ⟨m, hm'⟩ : ∃ m, 6 - n = m + 1 := ⟨6 - (n + 1), by omega⟩
      rw [hm', show 6 - (n + 1) = m by omega]
      simp only [onS] at hv ⊢
      cases hvv : pVal (y :: r) with
      | error f =>
        rw [pList_bad hr hp hvv]
        rfl
      | ok q =>
        obtain ⟨v', l1⟩ := q
        rw [pList_step hr hp hvv, hv v' l1 hvv]
        rfl
theorem item_end {w : World} {pb g : Nat} {W : List Wd} {c : Nat} {s : Ps} {R : List Value} {n : Nat} (hM : MB w pb g W c s R) (hb : itemB (n : Int) 6 s = false) (hn : n ≤ 6) (M : List V) : (∃ f, preL M (onS s (pList pVal (6 - n))) = .error f ∧ onS (itemS (n : Int) 6 s) (takeW 41) = .error f) ∨ ∃ x l, preL M (onS s (pList pVal (6 - n))) = .ok (M, l) ∧ onS (itemS (n : Int) 6 s) (takeW 41) = .ok (x, l) := by
  cases s with
  | error f => exact .inl ⟨f, rfl, rfl⟩
  | ok l =>
    obtain ⟨x, r, rfl, hx, _⟩ := hM.head
    cases hr : nextW (x :: r) with
    | error f =>
      refine .inl ⟨f, ?_, ?_⟩
      · simp only [onS]
        rw [pList_err hr]
        rfl
      · unfold itemS
        rw [if_pos (.inl (look_err hr).1), (look_err hr).2]
        rfl
    | ok p =>
      obtain ⟨y, r'⟩ := p
      obtain ⟨rfl, _⟩ := nextW_head hr
      have h1 := kind_low hx
      unfold itemS
      unfold itemB at hb
      rw [(look_ok hr).1] at hb ⊢
      rw [(look_ok hr).2]
      simp only [onS]
      by_cases h2 : y.kind = 2
      · refine .inr ⟨y, r', ?_, ?_⟩
        · rw [pList_end hr ((rel41 y hx).1 h2), preL_nil]
        · rw [if_pos (.inr h2)]
          simp only [takeW, hr]
          rw [if_pos ((rel41 y hx).1 h2)]
      · have hp : pkW y ≠ 41 := fun e => h2 ((rel41 y hx).2 e)
        rw [if_neg (fun e => e.elim h1 h2)]
        by_cases h0 : y.kind = 0
        · have hp0 : pkW y = 0 := (pk_rel hx).2.2.2.2.2.1 h0
          refine .inl ⟨(3, y.pos), ?_, ?_⟩
          · cases hk : 6 - n with
            | zero => rw [pList_zero hr hp, if_pos hp0]; rfl
            | succ m => rw [pList_bad hr hp (pVal_end hr hp0)]; rfl
          · rw [if_pos h0]
            rfl
        · have hp0 : pkW y ≠ 0 := fun e => h0 ((pk_rel hx).2.2.2.2.2.2 e)
          simp [h1, h2, h0] at hb
          rw [if_neg h0, if_pos hb, show 6 - n = 0 by omega]
          refine .inl ⟨(4, y.pos), ?_, rfl⟩
          rw [pList_zero hr hp, if_neg hp0]
          rfl
theorem cmd_eq (s : Ps) : onS s cmdM = andP (onS (stS (onS s (takeW 40))) headM) tailM := by
  cases s with
  | error f => rfl
  | ok l =>
    simp only [onS, cmdM]
    cases takeW 40 l with
    | error f => rfl
    | ok q => rfl
theorem cmd_list {s : Ps} {h : Int × Int × Bs} {rt : Px Wd} {M : List V} (hr : ∀ y l, onS (stS (onS s (takeW 40))) headM = .ok (y, l) → y = h) (hk : h.1 = 1 ∨ h.1 = 3)
    (hE : (∃ f, onS (stS (onS (stS (onS s (takeW 40))) headM)) (pList pVal 6) = .error f ∧ rt = .error f) ∨ ∃ x l, onS (stS (onS (stS (onS s (takeW 40))) headM)) (pList pVal 6) = .ok (M, l) ∧ rt = .ok (x, l)) :
    (∃ f, onS s cmdM = .error f ∧ rt = .error f) ∨ ∃ x l, onS s cmdM = .ok (⟨h.1, h.2.1, mkS h.2.2, M⟩, l) ∧ rt = .ok (x, l) := by
  rw [cmd_eq]
  cases hh : onS (stS (onS s (takeW 40))) headM with
  | error f =>
    rw [hh] at hE
    rcases hE with ⟨f', h1, h2⟩ | ⟨x, l, h1, h2⟩
    · simp only [stS, onS] at h1
      injection h1 with h1
      exact .inl ⟨f, rfl, by rw [h2, h1]⟩
    · cases h1
  | ok q =>
    obtain ⟨h', l2⟩ := q
    have e := hr h' l2 hh
    subst e
    rw [hh] at hE
    simp only [stS, onS] at hE
    rw [andP_ok]
    unfold tailM
    rw [if_pos hk]
    rcases hE with ⟨f', h1, h2⟩ | ⟨x, l, h1, h2⟩
    · exact .inl ⟨f', by rw [h1]; rfl, h2⟩
    · exact .inr ⟨x, l, by rw [h1]; rfl, h2⟩
theorem cmd_close {s : Ps} {h : Int × Int × Bs} (hr : ∀ y l, onS (stS (onS s (takeW 40))) headM = .ok (y, l) → y = h) (hk : ¬ (h.1 = 1 ∨ h.1 = 3)) :
    (∃ f, onS s cmdM = .error f ∧ onS (stS (onS (stS (onS s (takeW 40))) headM)) (takeW 41) = .error f) ∨ ∃ x l, onS s cmdM = .ok (⟨h.1, h.2.1, mkS h.2.2, []⟩, l) ∧ onS (stS (onS (stS (onS s (takeW 40))) headM)) (takeW 41) = .ok (x, l) := by
  rw [cmd_eq]
  cases hh : onS (stS (onS s (takeW 40))) headM with
  | error f => exact .inl ⟨f, rfl, rfl⟩
  | ok q =>
    obtain ⟨h', l2⟩ := q
    have e := hr h' l2 hh
    subst e
    rw [andP_ok]
    unfold tailM
    rw [if_neg hk]
    simp only [stS, onS]
    cases ht : takeW 41 l2 with
    | error f => exact .inl ⟨f, rfl, rfl⟩
    | ok q => exact .inr ⟨q.1, q.2, rfl, rfl⟩
end Go.Proofs.YtdhpoagjmiligaaGreatDoor

namespace Go.Proofs.YtdhpoagjmiligaaGreatDoor
open Go.RowKit
attribute [local go_sem ↓] Go.wp_at_zero Go.wp_at_succ

theorem cmdT_new (w : World) : TxAt (w.alloc (.cells #[.string ⟨#[97, 115, 115, 101, 114, 116]⟩, .string ⟨#[114, 101, 116, 114, 97, 99, 116]⟩, .string ⟨#[109, 111, 100, 105, 102, 121]⟩, .string ⟨#[114, 117, 110]⟩] 9)) w.heap.size cmdT := fun j t ht => by
  have hb := heap_alloc_new w (.cells #[.string ⟨#[97, 115, 115, 101, 114, 116]⟩, .string ⟨#[114, 101, 116, 114, 97, 99, 116]⟩, .string ⟨#[109, 111, 100, 105, 102, 121]⟩, .string ⟨#[114, 117, 110]⟩] 9)
  refine cell_of (L := [_, _, _, _]) hb ?_
  match j, ht with
  | 0, ht => injection ht with ht; subst ht; rfl
  | 1, ht => injection ht with ht; subst ht; rfl
  | 2, ht => injection ht with ht; subst ht; rfl
  | 3, ht => injection ht with ht; subst ht; rfl
  | j + 4, ht => cases ht
theorem MB.blocks {w w' : World} {pb g : Nat} {W : List Wd} {c : Nat} {s : Ps} {R : List Value} (h : MB w pb g W c s R) (h1 : w'.heap[pb]? = w.heap[pb]?) (h2 : w'.heap[g]? = w.heap[g]?) : MB w' pb g W c s R := by
  obtain ⟨k, cd, pos, hq, hk, hs⟩ := h.st
  exact ⟨⟨k, cd, pos, h1.trans hq, hk, hs⟩, h.wds.block h2, h.far, h.ok, h.ends, h.caps, h.len⟩
theorem World.drew_size' (w : World) : w.drew.heap.size = w.heap.size := rfl
def zC : List Value := [.int .i64 0, .int .i64 0, .string ⟨#[]⟩, .slice none 0 0]
def hdC (h : Int × Int × Bs) (v : Value) : List Value := [.int .i64 h.1, .int .i64 h.2.1, .string (mkS h.2.2), v]
/-- Behind a command's head: w as it was; rb: the answer's box, cb: the command's. -/
structure HdAt (w wx : World) (pb g rb cb : Nat) (W : List Wd) (c : Nat) (R : List Value) (r : Px (Int × Int × Bs)) (h : Int × Int × Bs) : Prop where
  mo : MkO (some pb) w wx
  mb : MB wx pb g W c (stS r) R
  ok : ∀ y l, r = .ok (y, l) → y = h
  rq : wx.heap[rb]? = some (.cells zC.toArray 67 (0, 0))
  cq : wx.heap[cb]? = some (.cells (hdC h (.slice none 0 0)).toArray 67 (0, 0))
def lenC (cb : Nat) (w : World) : Nat := match w.cell? ⟨cb, 3, none⟩ with
  | some v => sliceLen v
  | none => 0
/-- In a command's list of values. -/
structure LsAt (w wr : World) (pb g rb cb : Nat) (W : List Wd) (c : Nat) (R : List Value) (h : Int × Int × Bs) (s5 sx : Ps) (la : Option Addr) (lc : Nat) (M : List V) : Prop where
  mo : MkO (some pb) w wr
  mb : MB wr pb g W c sx R
  rq : wr.heap[rb]? = some (.cells zC.toArray 67 (0, 0))
  cq : wr.heap[cb]? = some (.cells (hdC h (.slice la M.length lc)).toArray 67 (0, 0))
  ow : wr.ownsRow w.heap.size 101 3 (.slice la M.length lc) M.length (M.flatMap V.cells)
  le : M.length ≤ 6
  pl : onS s5 (pList pVal 6) = preL M (onS sx (pList pVal (6 - M.length)))
theorem hdC_one (h : Int × Int × Bs) (a : Option Addr) (n c : Nat) : ∀ v ∈ hdC h (.slice a n c), v.oneCell' = true := by
  intro v hv
  simp [hdC] at hv
  rcases hv with rfl | rfl | rfl | rfl <;> rfl
set_option maxRecDepth 100000 in
set_option maxHeartbeats 6400000 in
theorem mcommand_any (w : World) (pb g : Nat) (W : List Wd) (c : Nat) (s : Ps) (R : List Value) (h : MB w pb g W c s R) : Calls Tryz.prog 28 #[.pointer (some ⟨pb, 0, none⟩)] w (MPost w pb g W c R (Rc w.heap.size) (onS s cmdM)) := by
  have hf3 := mfield3
  have HM := hidX h
  have hpb := h.lt
  have hgl := h.glt
  clear h
  go_enter Tryz.func28, Tryz.ntmps28
  go_upto_region 1 with fail
  refine lift_alloc ?_
  intro w1 hW1 hq1
  have hrb : w.heap.size < w1.heap.size := lt_of_block' hq1
  have HTK := hidX (mtake_any w1 pb g W c s R 1 40 rel40 (by decide) (by decide) (HM.out.below hW1))
  have HQ1 := hidX hq1
  have M1 := hidX (MkO.of_below hW1 : MkO (some pb) w w1)
  clear hW1 hq1
  go_upto_region 2 with (first | (go_at_call 34; refine HTK.out.mono ?_; rintro e w2 ⟨hm2, ⟨y, he2, _⟩, hb2⟩; obtain rfl : e = .returned (wdA y) := he2; unfold wdA) | fail)
  have M2 := hidX (M1.out.trans hm2)
  have HB2 := hidX hb2
  have hs2 := hm2.rest.size
  have HRB2 := hidX ((hm2.block w.heap.size hrb (fun e => by injection e; omega)).trans HQ1.out)
  clear hm2 hb2 HTK HQ1 M1
  go_upto_region 3 with fail
  refine lift_alloc ?_
  intro w3 hW3 hq3
  have hl3 : w2.heap.size < w3.heap.size := lt_of_block' hq3
  have HB3 := hidX (HB2.out.below hW3)
  have M3 := hidX (M2.out.trans (MkO.of_below hW3))
  have HRB3 := hidX ((hW3.block w.heap.size (by omega)).trans HRB2.out)
  have HC3 := hidX hq3
  have HAL := hidX (fun o => (Below.refl _ _).alloc (Nat.le_refl _) o : ∀ o, Below w3.heap.size w3 (w3.alloc o))
  have HON := hidX (mone_any (w3.alloc (.cells #[.string ⟨#[97, 115, 115, 101, 114, 116]⟩, .string ⟨#[114, 101, 116, 114, 97, 99, 116]⟩, .string ⟨#[109, 111, 100, 105, 102, 121]⟩, .string ⟨#[114, 117, 110]⟩] 9)) pb g w3.heap.size 4 W c (stS (onS s (takeW 40))) R 5 cmdT (by decide) (by decide) (cmdT_new _) (by omega) (by simp) (by decide) (HB3.out.below (HAL.out _)))
  clear hW3 hq3 HB2 M2 HRB2
  go_upto_block 0 with (first | (go_at_call 35; refine HON.out.mono ?_; rintro e w4 ⟨hm4, ⟨t, he4, ht4⟩, hb4⟩; obtain rfl : e = .returned (.string (mkS t)) := he4) | fail)
  have hs4 := hm4.rest.size
  simp at hs4
  have M4 := hidX ((M3.out.trans (MkO.of_below (HAL.out _))).trans hm4)
  have HB4 := hidX hb4
  have HRB4 := hidX ((hm4.block w.heap.size (by simp; omega) (fun e => by injection e; omega)).trans (((HAL.out _).block w.heap.size (by omega)).trans HRB3.out))
  have HC4 := hidX ((hm4.block w2.heap.size (by simp; omega) (fun e => by injection e; omega)).trans (((HAL.out _).block w2.heap.size (by omega)).trans HC3.out))
  have HT4 := hidX ht4
  have hcl : w2.heap.size < w4.heap.size := by omega
  clear hm4 hb4 ht4 HON HAL M3 HB3 HRB3 HC3
  have hwx : w.heap.size < w2.heap.size := by omega
  go_cut [] (fun wx => ∃ hd, HdAt w wx pb g w.heap.size w2.heap.size W c R (onS (stS (onS s (takeW 40))) headM) hd)
  case first =>
    have b0 := cell_of (L := zC) HC4.out (j := 0) rfl
    have z0 := froz_of HC4.out 0
    have q1 := beq_lit (mkS t) assertT
    have q2 := beq_lit (mkS t) retractT
    have q3 := beq_lit (mkS t) modifyT
    have q4 := beq_lit (mkS t) runT
    rw [bs_mkS] at q1 q2 q3 q4
    replace q1 : ((mkS t).toList == [97, 115, 115, 101, 114, 116]) = decide (t = assertT) := q1
    replace q2 : ((mkS t).toList == [114, 101, 116, 114, 97, 99, 116]) = decide (t = retractT) := q2
    replace q3 : ((mkS t).toList == [109, 111, 100, 105, 102, 121]) = decide (t = modifyT) := q3
    replace q4 : ((mkS t).toList == [114, 117, 110]) = decide (t = runT) := q4
    by_cases h1 : t = assertT
    · subst h1
      rw [decide_eq_true rfl] at q1
      clear q2 q3 q4
      go_upto_region 6 with fail
      refine lift_setW HC4.out ?_
      intro w5 hq5 ht5
      replace hq5 : w5.heap[w2.heap.size]? = some (.cells [.int .i64 1, .int .i64 0, .string ⟨#[]⟩, .slice none 0 0].toArray 67 (0, 0)) := by
        rw [hq5]
        simp
      have hs5 := ht5.size
      have hs5' : w4.heap.size ≤ w5.heap.size := Nat.le_of_eq hs5.symm
      have HB5 := hidX (HB4.out.turned ht5 (by omega) (by omega))
      have M5 := hidX (M4.out.turn ht5 (by omega))
      have HRB5 := hidX ((ht5.block w.heap.size (by omega)).trans HRB4.out)
      have HC5 := hidX hq5
      clear hq5 ht5 hs5 b0 z0
      have HCL := hidX (mclass_any w5 pb g W c _ R HB5.out)
      go_wp2_with (first | (go_at_call 59; refine HCL.out.mono ?_; rintro e w6 ⟨hm6, ⟨t6, he6, ht6⟩, hb6⟩; obtain rfl : e = .returned (.string (mkS t6)) := he6; have hs6 := hm6.rest.size; have hq6 := (hm6.block w2.heap.size (by omega) (fun e => by injection e; omega)).trans HC5.out; have d0 := cell_of hq6 (j := 2) rfl; have e0 := froz_of hq6 2) | fail)
      refine lift_setW hq6 ?_
      intro w7 hq7 ht7
      replace hq7 : w7.heap[w2.heap.size]? = some (.cells [.int .i64 1, .int .i64 0, .string (mkS t6), .slice none 0 0].toArray 67 (0, 0)) := by
        rw [hq7]
        simp
      have HH := head_way pClass (fun x => (1, 0, x)) HT4.out (fun l l1 => head_assert) t6 ht6
      have hrq := (ht7.block w.heap.size (by omega)).trans ((hm6.block w.heap.size (by omega) (fun e => by injection e; omega)).trans HRB5.out)
      have M7 := (M5.out.trans hm6).turn ht7 (by omega)
      have HB7 := hb6.turned ht7 (b := w2.heap.size) (by omega) (by omega)
      clear d0 e0
      go_meet
      exact ⟨(1, 0, t6), M7, by rw [HH.1]; exact HB7, HH.2, hrq, hq7⟩
    by_cases h2 : t = retractT
    · subst h2
      rw [decide_eq_true rfl] at q2
      rw [decide_eq_false h1] at q1
      clear h1 q3 q4
      go_upto_region 9 with fail
      refine lift_setW HC4.out ?_
      intro w5 hq5 ht5
      replace hq5 : w5.heap[w2.heap.size]? = some (.cells [.int .i64 2, .int .i64 0, .string ⟨#[]⟩, .slice none 0 0].toArray 67 (0, 0)) := by
        rw [hq5]
        simp
      have hs5 := ht5.size
      have hs5' : w4.heap.size ≤ w5.heap.size := Nat.le_of_eq hs5.symm
      have HB5 := hidX (HB4.out.turned ht5 (by omega) (by omega))
      have M5 := hidX (M4.out.turn ht5 (by omega))
      have HRB5 := hidX ((ht5.block w.heap.size (by omega)).trans HRB4.out)
      have HC5 := hidX hq5
      clear hq5 ht5 hs5 b0 z0
      have HCL := hidX (mtake_any w5 pb g W c _ R 3 48 rel48 (by decide) (by decide) HB5.out)
      go_wp2_with (first | (go_at_call 34; refine HCL.out.mono ?_; rintro e w6 ⟨hm6, ⟨y6, he6, hy6⟩, hb6⟩; obtain rfl : e = .returned (wdA y6) := he6; unfold wdA; have hs6 := hm6.rest.size; have hq6 := (hm6.block w2.heap.size (by omega) (fun e => by injection e; omega)).trans HC5.out; have d0 := cell_of hq6 (j := 1) rfl; have e0 := froz_of hq6 1) | fail)
      refine lift_setW hq6 ?_
      intro w7 hq7 ht7
      replace hq7 : w7.heap[w2.heap.size]? = some (.cells [.int .i64 2, .int .i64 y6.num, .string ⟨#[]⟩, .slice none 0 0].toArray 67 (0, 0)) := by
        rw [hq7]
        simp
      have HH := head_way (takeW 48) (fun x => (2, x.num, [])) HT4.out (fun l l1 => head_retract) y6 hy6
      have hrq := (ht7.block w.heap.size (by omega)).trans ((hm6.block w.heap.size (by omega) (fun e => by injection e; omega)).trans HRB5.out)
      have M7 := (M5.out.trans hm6).turn ht7 (by omega)
      have HB7 := hb6.turned ht7 (b := w2.heap.size) (by omega) (by omega)
      clear d0 e0
      go_meet
      exact ⟨(2, y6.num, []), M7, by rw [HH.1]; exact HB7, HH.2, hrq, hq7⟩
    by_cases h3 : t = modifyT
    · subst h3
      rw [decide_eq_true rfl] at q3
      rw [decide_eq_false h1] at q1
      rw [decide_eq_false h2] at q2
      clear h1 h2 q4
      go_upto_region 12 with fail
      refine lift_setW HC4.out ?_
      intro w5 hq5 ht5
      replace hq5 : w5.heap[w2.heap.size]? = some (.cells [.int .i64 3, .int .i64 0, .string ⟨#[]⟩, .slice none 0 0].toArray 67 (0, 0)) := by
        rw [hq5]
        simp
      have hs5 := ht5.size
      have hs5' : w4.heap.size ≤ w5.heap.size := Nat.le_of_eq hs5.symm
      have HB5 := hidX (HB4.out.turned ht5 (by omega) (by omega))
      have M5 := hidX (M4.out.turn ht5 (by omega))
      have HRB5 := hidX ((ht5.block w.heap.size (by omega)).trans HRB4.out)
      have HC5 := hidX hq5
      clear hq5 ht5 hs5 b0 z0
      have HCL := hidX (mtake_any w5 pb g W c _ R 3 48 rel48 (by decide) (by decide) HB5.out)
      go_wp2_with (first | (go_at_call 34; refine HCL.out.mono ?_; rintro e w6 ⟨hm6, ⟨y6, he6, hy6⟩, hb6⟩; obtain rfl : e = .returned (wdA y6) := he6; unfold wdA; have hs6 := hm6.rest.size; have hq6 := (hm6.block w2.heap.size (by omega) (fun e => by injection e; omega)).trans HC5.out; have d0 := cell_of hq6 (j := 1) rfl; have e0 := froz_of hq6 1) | fail)
      refine lift_setW hq6 ?_
      intro w7 hq7 ht7
      replace hq7 : w7.heap[w2.heap.size]? = some (.cells [.int .i64 3, .int .i64 y6.num, .string ⟨#[]⟩, .slice none 0 0].toArray 67 (0, 0)) := by
        rw [hq7]
        simp
      have HH := head_way (takeW 48) (fun x => (3, x.num, [])) HT4.out (fun l l1 => head_modify) y6 hy6
      have hrq := (ht7.block w.heap.size (by omega)).trans ((hm6.block w.heap.size (by omega) (fun e => by injection e; omega)).trans HRB5.out)
      have M7 := (M5.out.trans hm6).turn ht7 (by omega)
      have HB7 := hb6.turned ht7 (b := w2.heap.size) (by omega) (by omega)
      clear d0 e0
      go_meet
      exact ⟨(3, y6.num, []), M7, by rw [HH.1]; exact HB7, HH.2, hrq, hq7⟩
    by_cases h4 : t = runT
    · subst h4
      rw [decide_eq_true rfl] at q4
      rw [decide_eq_false h1] at q1
      rw [decide_eq_false h2] at q2
      rw [decide_eq_false h3] at q3
      clear h1 h2 h3
      go_upto_region 15 with fail
      refine lift_setW HC4.out ?_
      intro w5 hq5 ht5
      replace hq5 : w5.heap[w2.heap.size]? = some (.cells [.int .i64 4, .int .i64 0, .string ⟨#[]⟩, .slice none 0 0].toArray 67 (0, 0)) := by
        rw [hq5]
        simp
      have hs5 := ht5.size
      have hs5' : w4.heap.size ≤ w5.heap.size := Nat.le_of_eq hs5.symm
      have HB5 := hidX (HB4.out.turned ht5 (by omega) (by omega))
      have M5 := hidX (M4.out.turn ht5 (by omega))
      have HRB5 := hidX ((ht5.block w.heap.size (by omega)).trans HRB4.out)
      have HC5 := hidX hq5
      clear hq5 ht5 hs5 b0 z0
      have HCL := hidX (mtake_any w5 pb g W c _ R 3 48 rel48 (by decide) (by decide) HB5.out)
      go_wp2_with (first | (go_at_call 34; refine HCL.out.mono ?_; rintro e w6 ⟨hm6, ⟨y6, he6, hy6⟩, hb6⟩; obtain rfl : e = .returned (wdA y6) := he6; unfold wdA; have hs6 := hm6.rest.size; have hq6 := (hm6.block w2.heap.size (by omega) (fun e => by injection e; omega)).trans HC5.out; have d0 := cell_of hq6 (j := 1) rfl; have e0 := froz_of hq6 1) | fail)
      refine lift_setW hq6 ?_
      intro w7 hq7 ht7
      replace hq7 : w7.heap[w2.heap.size]? = some (.cells [.int .i64 4, .int .i64 y6.num, .string ⟨#[]⟩, .slice none 0 0].toArray 67 (0, 0)) := by
        rw [hq7]
        simp
      have HH := head_way (takeW 48) (fun x => (4, x.num, [])) HT4.out (fun l l1 => head_run) y6 hy6
      have hrq := (ht7.block w.heap.size (by omega)).trans ((hm6.block w.heap.size (by omega) (fun e => by injection e; omega)).trans HRB5.out)
      have M7 := (M5.out.trans hm6).turn ht7 (by omega)
      have HB7 := hb6.turned ht7 (b := w2.heap.size) (by omega) (by omega)
      clear d0 e0
      go_meet
      exact ⟨(4, y6.num, []), M7, by rw [HH.1]; exact HB7, HH.2, hrq, hq7⟩
    · have HH := hidX (head_none HT4.out (by simp [cmdT, h1, h2, h3, h4]))
      rw [decide_eq_false h1] at q1
      rw [decide_eq_false h2] at q2
      rw [decide_eq_false h3] at q3
      rw [decide_eq_false h4] at q4
      clear h1 h2 h3 h4 b0 z0
      go_wp2_with fail
      go_meet
      exact ⟨(0, 0, []), M4.out, by rw [HH.out.1]; exact HB4.out, HH.out.2, HRB4.out, HC4.out⟩
  case rest =>
    obtain ⟨hd, hhd⟩ := hcut
    obtain ⟨w5, rfl⟩ : ∃ v, v = wc := ⟨wc, rfl⟩
    clear M4 HB4 HRB4 HC4 HT4 hcl
    have HH := hidX hhd
    have b0 := cell_of hhd.cq (j := 0) rfl
    have hcl : w2.heap.size < w5.heap.size := lt_of_block' hhd.cq
    obtain ⟨kd, hkd⟩ : ∃ kd, kd = hd.1 := ⟨_, rfl⟩
    rw [← hkd] at b0
    have HKD := hidX hkd
    clear hhd hkd
    by_cases hl : kd = 1 ∨ kd = 3
    · have HL := hidX hl
      have HR := hidX (show LsAt w w5 pb g w.heap.size w2.heap.size W c R hd (stS (onS (stS (onS s (takeW 40))) headM)) (stS (onS (stS (onS s (takeW 40))) headM)) none 0 [] from ⟨HH.out.mo, HH.out.mb, HH.out.rq, HH.out.cq, World.ownsRow_nil _ _ _ _, by simp, by unfold preL; cases onS (stS (onS (stS (onS s (takeW 40))) headM)) (pList pVal 6) <;> rfl⟩)
      go_upto_region 16 with fail
      go_cut [43] (fun b wx => b = .bool true ∧ wx = w5)
      case first =>
        rcases hl with rfl | rfl
        · go_wp2_with fail
          go_meet
          exact ⟨rfl, rfl⟩
        · go_wp2_with fail
          go_meet
          exact ⟨rfl, rfl⟩
      case rest =>
        obtain ⟨rfl, e5⟩ := hcut
        subst e5
        clear hl b0
        go_wp2_with fail
        go_loopw [] (fun wr => ∃ la lc M sx, LsAt w wr pb g w.heap.size w2.heap.size W c R hd (stS (onS (stS (onS s (takeW 40))) headM)) sx la lc M) (fun wr => 6 - lenC w2.heap.size wr)
        case atStart => exact ⟨none, 0, [], _, HR.out⟩
        case round =>
          obtain ⟨la, lc, M, sx, hls⟩ := hrel
          have LS := hidX hls
          have c3 := cell_of hls.cq (j := 3) rfl
          have hML := hls.le
          have HML : Hid (lenC w2.heap.size wr = M.length) := show _ = _ from by unfold lenC; rw [c3]; rfl
          have HIT := hidX (mitem_any wr pb g W c sx R (M.length : Int) 6 hls.mb)
          have hclr : w2.heap.size < wr.heap.size := lt_of_block' hls.cq
          unfold ItPost at HIT
          clear hls HR
          cases hI : itemB (M.length : Int) 6 sx with
          | false =>
            have HE := hidX (item_end LS.out.mb hI hML M)
            rw [hI] at HIT
            have HTK := hidX (fun u (hu : MB u pb g W c (itemS (M.length : Int) 6 sx) R) => mtake_any u pb g W c (itemS (M.length : Int) 6 sx) R 2 41 rel41 (by decide) (by decide) hu)
            clear hI
            go_upto_region 20 with (first | (go_at_call 60; refine HIT.out.mono ?_; rintro e w6 ⟨rfl, hm6, hb6⟩) | (go_at_call 34; refine (HTK.out _ hb6).mono ?_; rintro e w7 ⟨hm7, ⟨y7, he7, _⟩, hb7⟩; obtain rfl : e = .returned (wdA y7) := he7; unfold wdA) | fail)
            have hs6 := hm6.rest.size
            have hs7 := hm7.rest.size
            have M7 := hidX (hm6.trans hm7)
            have hrq := (M7.out.block w.heap.size (by omega) (fun e => by injection e; omega)).trans LS.out.rq
            have hcq := (M7.out.block w2.heap.size (by omega) (fun e => by injection e; omega)).trans LS.out.cq
            have OW7 := hidX (own_mko LS.out.ow M7.out hpb)
            have HB7 := hidX hb7
            clear hm6 hb6 hm7 hb7 HTK HIT c3
            go_wp2_with (first | (refine wpList_load_blk (by rfl) 67 (.tmp 3) (by rfl) w2.heap.size (hdC hd (.slice la M.length lc)) (by rfl) 67 (0, 0) hcq _ Tryz.underlying67 rfl infoCd ?_) | (refine wpList_store_blk (by rfl) 67 (.tmp 2) (.tmp 58) (by rfl) w.heap.size (hdC hd (.slice la M.length lc)) (by rfl) (by rfl) _ 67 hrq (by rfl) infoCd (hdC_one _ _ _ _) ?_; intro w8 hb8 ht8) | fail)
            have hld := run_loadVar_mid (P := Tryz.prog) w8 w.heap.size 0 67 (hdC hd (.slice la M.length lc)) _ (range_blk hb8.out) Tryz.underlying67 rfl infoCd
            (try go_frame)
            refine bodyPost_ret (v := .agg (hdC hd (.slice la M.length lc)).toArray) (by simp [results, Tryz.results28, asAddr, hld]) rfl ?_
            have M8 := ((LS.out.mo.trans M7.out).turn ht8.out (Nat.le_refl _))
            have HB8 := HB7.out.turned ht8.out (by omega) (by omega)
            have OW8 := own_turn OW7.out ht8.out hrq (by decide)
            have HE2 := HE.out
            rw [← LS.out.pl] at HE2
            rcases cmd_list HH.out.ok (by rw [← HKD.out]; exact HL.out) HE2 with ⟨f, h1, h2⟩ | ⟨x, l, h1, h2⟩
            · rw [h2] at HB8
              exact MPost.err ⟨hd.1, hd.2.1, mkS hd.2.2, M⟩ h1 M8 ⟨la, lc, rfl, OW8⟩ HB8
            · rw [h2] at HB8
              exact MPost.good h1 M8 ⟨la, lc, rfl, OW8⟩ HB8
          | true =>
            rw [hI] at HIT
            have HVA := hidX (fun u (hu : MB u pb g W c (itemS (M.length : Int) 6 sx) R) => mvalue_any u pb g W c (itemS (M.length : Int) 6 sx) R hu)
            have HMO := hidX (item_more LS.out.mb hI)
            clear hI
            go_upto_region 18 with (first | (go_at_call 60; refine HIT.out.mono ?_; rintro e w6 ⟨rfl, hm6, hb6⟩) | fail)
            have hs6 := hm6.rest.size
            have hcq6 := (hm6.block w2.heap.size (by omega) (fun e => by injection e; omega)).trans LS.out.cq
            have c36 := cell_of hcq6 (j := 3) rfl
            have HCQ6 := hidX hcq6
            have HRQ6 := hidX ((hm6.block w.heap.size (by omega) (fun e => by injection e; omega)).trans LS.out.rq)
            have OW6 := hidX (own_mko LS.out.ow hm6 hpb)
            have HB6 := hidX hb6
            have M6 := hidX (LS.out.mo.trans hm6)
            clear hm6 hb6 hcq6 HIT c3
            refine wp_region_noPanic ?_
            refine wp_region_held_drew (S := (fun _ => True)) (by kernel_rfl) ?_ (fun hHeld => ?_)
            · (try dsimp only)
              all_goals trivial
            refine tk 0 hHeld ?_
            (try simp only [pA, pZ, pS])
            refine tk 2 hHeld ?_
            (try simp only [pA, pZ, pS])
            refine wpAnyH_ready (rs := [1, 3]) (by kernel_rfl) (by simp) ?_
            refine AllReadyH.cons (o := ?o1) ?ho1 (fun K hK => ?step1) (AllReadyH.cons (o := ?o2) ?ho2 (fun K hK => ?step2) AllReadyH.nil)
            case ho1 => (simp only [List.getElem?_toArray, List.getElem?_cons_succ, List.getElem?_cons_zero]; rfl)
            case ho2 => (simp only [List.getElem?_toArray, List.getElem?_cons_succ, List.getElem?_cons_zero]; rfl)
            case step1 =>
              go_simp
              refine hK.out _ _ ?hS3 (fun hHeld' => ?rest3)
              case hS3 => ((try dsimp only); all_goals trivial)
              clear hK K
              (try simp only [pA, pZ, pS])
              clear hHeld
              have hHeld := hHeld'
              clear hHeld'
              refine wpAnyH_ready (rs := [3]) (by kernel_rfl) (by simp) ?_
              refine AllReadyH.cons (o := ?o4) ?ho4 (fun K hK => ?step4) AllReadyH.nil
              case ho4 => (simp only [List.getElem?_toArray, List.getElem?_cons_succ, List.getElem?_cons_zero]; rfl)
              go_simp
              (go_at_call 61; refine (HVA.out _ (HB6.out.below ((Below.refl _ _).drew))).mono ?_; rintro e w7 ⟨hm7, ⟨v, he7, hv7⟩, hb7⟩; obtain rfl : e = .returned (.agg #[.int .i64 v.kind, .int .i64 v.num, .string v.sym]) := he7; have hs7 := hm7.rest.size; simp only [World.drew_size'] at hs7; have hcq7 := (hm7.block w2.heap.size (show w2.heap.size < w6.heap.size by omega) (fun e => by injection e; omega)).trans HCQ6.out; have c37 := cell_of hcq7 (j := 3) rfl)
              refine hK.out _ _ ?hS5 (fun hHeld' => ?rest5)
              case hS5 => ((try dsimp only); all_goals trivial)
              clear hK K
              (try simp only [pA, pZ, pS])
              clear hHeld
              have hHeld := hHeld'
              clear hHeld'
              refine wpAnyH_ready (rs := [4]) (by kernel_rfl) (by simp) ?_
              refine AllReadyH.cons (o := ?o6) ?ho6 (fun K hK => ?step6) AllReadyH.nil
              case ho6 => (simp only [List.getElem?_toArray, List.getElem?_cons_succ, List.getElem?_cons_zero]; rfl)
              go_simp
              have HA7 := hidX (fun o' => (Below.refl _ _).alloc (Nat.le_refl _) o' : ∀ o', Below w7.heap.size w7 (w7.alloc o')); have c37a : ∀ o', (w7.alloc o').cell? ⟨w2.heap.size, 3, none⟩ = some (.slice la M.length lc) := fun o' => cell_below (HA7.out o') c37
              refine hK.out _ _ ?hS7 (fun hHeld' => ?rest7)
              case hS7 => ((try dsimp only); all_goals trivial)
              clear hK K
              (try simp only [pA, pZ, pS])
              clear hHeld
              have hHeld := hHeld'
              clear hHeld'
              have M7 := hidX ((M6.out.drew).trans hm7)
              have OW7 := hidX (own_mko (own_bel OW6.out ((Below.refl _ _).drew)) hm7 hpb)
              have hws7 : w.heap.size ≤ w7.heap.size := by omega
              refine wpAnyH_ready (rs := [5]) (by kernel_rfl) (by simp) ?_
              refine AllReadyH.cons (o := ?o8) ?ho8 (fun K hK => ?step8) AllReadyH.nil
              case ho8 => (simp only [List.getElem?_toArray, List.getElem?_cons_succ, List.getElem?_cons_zero]; rfl)
              (refine step_append_any (by rfl) (.tmp 50) (.tmp 53) 65 (by rfl) w.heap.size 101 _ 3 32 Tryz.underlying65 infoVF1 (by rfl) (by omega) _ M.length _ (by rfl) (own_bel OW7.out (HA7.out _)) (some ⟨_, 0, none⟩) 1 1 (by rfl) (V.cells v) (by rfl) (fun e => by cases e) (news_new _ _ _ _ (by simp)) (vcells_one v) (by unfold maxLen; omega) (by omega) (by simp; omega) ?_; intro a8 c8 w8 ho8 hg8 hl8)
              refine hK.out _ _ ?hS9 (fun hHeld' => ?rest9)
              case hS9 => ((try dsimp only); all_goals trivial)
              clear hK K
              (try simp only [pA, pZ, pS])
              clear hHeld
              have hHeld := hHeld'
              clear hHeld'
              have hrow : ∀ k, (Value.slice la M.length lc).ownBlock = some k → w.heap.size ≤ k := fun k hk => (OW7.out.lt k hk).1
              have TY := hidX (fun o' g hg => own_type (own_bel OW7.out (HA7.out o')) (k := g) hg)
              have M8 := hidX ((M7.out.trans (MkO.of_below (HA7.out _))).grown hg8.out hrow)
              have HBA := hidX (fun o' => hb7.below (HA7.out o'))
              have HB8 := hidX ((HBA.out _).blocks (hg8.out.block pb (HBA.out _).lt (fun e => by have := hrow pb e.symm; omega)) (hg8.out.block g (HBA.out _).glt (fun e => by have := hrow g e.symm; omega)))
              have HCA := hidX (fun o' => ((HA7.out o').block w2.heap.size (by omega)).trans hcq7)
              have HC8 := hidX (box_grown (HCA.out _) hg8.out (TY.out _) (by decide))
              have HRA := hidX (fun o' => ((HA7.out o').block w.heap.size (by omega)).trans ((hm7.block w.heap.size (show w.heap.size < w6.heap.size by omega) (fun e => by injection e; omega)).trans HRQ6.out))
              have HR8 := hidX (box_grown (HRA.out _) hg8.out (TY.out _) (by decide))
              have f3 := cell_of HC8.out (j := 3) rfl
              have g3 := froz_of HC8.out 3
              have hs8 : w2.heap.size < w8.heap.size := lt_of_block' HC8.out
              refine tk 6 hHeld ?_
              (try simp only [pA, pZ, pS])
              refine wpAnyH_ready (rs := [7]) (by kernel_rfl) (by simp) ?_
              refine AllReadyH.cons (o := ?o10) ?ho10 (fun K hK => ?step10) AllReadyH.nil
              case ho10 => (simp only [List.getElem?_toArray, List.getElem?_cons_succ, List.getElem?_cons_zero]; rfl)
              go_simp
              refine hK.out _ _ ?hS11 (fun hHeld' => ?rest11)
              case hS11 => ((try dsimp only); all_goals trivial)
              clear hK K
              (try dsimp only)
              clear hHeld
              have hHeld := hHeld'
              clear hHeld'
              refine wpAnyH_done (by kernel_rfl) ?_ _
              refine NoPanic.normal ?_
              clear hHeld
              refine lift_setW HC8.out ?_
              intro w9 hq9 ht9
              replace hq9 : w9.heap[w2.heap.size]? = some (.cells (hdC hd (.slice a8 (M.length + 1) c8)).toArray 67 (0, 0)) := by
                rw [hq9]
                simp [hdC]
              obtain ⟨hn6, hpl⟩ := HMO.out v hv7 M
              have L9 := hidX (show LsAt w w9 pb g w.heap.size w2.heap.size W c R hd (stS (onS (stS (onS s (takeW 40))) headM)) (stS (onS (itemS (M.length : Int) 6 sx) pVal)) a8 c8 (M ++ [v]) from ⟨M8.out.turn ht9 (by omega), HB8.out.turned ht9 (by omega) (by omega), (ht9.block w.heap.size (by omega)).trans HR8.out, by simpa using hq9, by simpa using own_turn ho8.out ht9 HC8.out (by decide), by simp; omega, by rw [LS.out.pl, hpl]; simp⟩)
              have HL9 : Hid (lenC w2.heap.size w9 = M.length + 1) := show _ = _ from by unfold lenC; rw [cell_of hq9 (j := 3) rfl]; rfl
              clear hq9 ht9 f3 g3 hpl
              go_wp2_with fail
              go_roundw
              case rel => exact ⟨a8, c8, M ++ [v], _, L9.out⟩
              case measure =>
                change 6 - lenC w2.heap.size w9 < 6 - lenC w2.heap.size wr
                rw [HL9.out, HML.out]
                omega
            case step2 =>
              go_simp
              (go_at_call 61; refine (HVA.out _ (HB6.out.below ((Below.refl _ _).drew))).mono ?_; rintro e w7 ⟨hm7, ⟨v, he7, hv7⟩, hb7⟩; obtain rfl : e = .returned (.agg #[.int .i64 v.kind, .int .i64 v.num, .string v.sym]) := he7; have hs7 := hm7.rest.size; simp only [World.drew_size'] at hs7; have hcq7 := (hm7.block w2.heap.size (show w2.heap.size < w6.heap.size by omega) (fun e => by injection e; omega)).trans HCQ6.out; have c37 := cell_of hcq7 (j := 3) rfl)
              refine hK.out _ _ ?hS12 (fun hHeld' => ?rest12)
              case hS12 => ((try dsimp only); all_goals trivial)
              clear hK K
              (try simp only [pA, pZ, pS])
              clear hHeld
              have hHeld := hHeld'
              clear hHeld'
              refine wpAnyH_ready (rs := [1, 4]) (by kernel_rfl) (by simp) ?_
              refine AllReadyH.cons (o := ?o13) ?ho13 (fun K hK => ?step13) (AllReadyH.cons (o := ?o14) ?ho14 (fun K hK => ?step14) AllReadyH.nil)
              case ho13 => (simp only [List.getElem?_toArray, List.getElem?_cons_succ, List.getElem?_cons_zero]; rfl)
              case ho14 => (simp only [List.getElem?_toArray, List.getElem?_cons_succ, List.getElem?_cons_zero]; rfl)
              case step13 =>
                go_simp
                refine hK.out _ _ ?hS15 (fun hHeld' => ?rest15)
                case hS15 => ((try dsimp only); all_goals trivial)
                clear hK K
                (try simp only [pA, pZ, pS])
                clear hHeld
                have hHeld := hHeld'
                clear hHeld'
                refine wpAnyH_ready (rs := [4]) (by kernel_rfl) (by simp) ?_
                refine AllReadyH.cons (o := ?o16) ?ho16 (fun K hK => ?step16) AllReadyH.nil
                case ho16 => (simp only [List.getElem?_toArray, List.getElem?_cons_succ, List.getElem?_cons_zero]; rfl)
                go_simp
                have HA7 := hidX (fun o' => (Below.refl _ _).alloc (Nat.le_refl _) o' : ∀ o', Below w7.heap.size w7 (w7.alloc o')); have c37a : ∀ o', (w7.alloc o').cell? ⟨w2.heap.size, 3, none⟩ = some (.slice la M.length lc) := fun o' => cell_below (HA7.out o') c37
                refine hK.out _ _ ?hS17 (fun hHeld' => ?rest17)
                case hS17 => ((try dsimp only); all_goals trivial)
                clear hK K
                (try simp only [pA, pZ, pS])
                clear hHeld
                have hHeld := hHeld'
                clear hHeld'
                have M7 := hidX ((M6.out.drew).trans hm7)
                have OW7 := hidX (own_mko (own_bel OW6.out ((Below.refl _ _).drew)) hm7 hpb)
                have hws7 : w.heap.size ≤ w7.heap.size := by omega
                refine wpAnyH_ready (rs := [5]) (by kernel_rfl) (by simp) ?_
                refine AllReadyH.cons (o := ?o18) ?ho18 (fun K hK => ?step18) AllReadyH.nil
                case ho18 => (simp only [List.getElem?_toArray, List.getElem?_cons_succ, List.getElem?_cons_zero]; rfl)
                (refine step_append_any (by rfl) (.tmp 50) (.tmp 53) 65 (by rfl) w.heap.size 101 _ 3 32 Tryz.underlying65 infoVF1 (by rfl) (by omega) _ M.length _ (by rfl) (own_bel OW7.out (HA7.out _)) (some ⟨_, 0, none⟩) 1 1 (by rfl) (V.cells v) (by rfl) (fun e => by cases e) (news_new _ _ _ _ (by simp)) (vcells_one v) (by unfold maxLen; omega) (by omega) (by simp; omega) ?_; intro a8 c8 w8 ho8 hg8 hl8)
                refine hK.out _ _ ?hS19 (fun hHeld' => ?rest19)
                case hS19 => ((try dsimp only); all_goals trivial)
                clear hK K
                (try simp only [pA, pZ, pS])
                clear hHeld
                have hHeld := hHeld'
                clear hHeld'
                have hrow : ∀ k, (Value.slice la M.length lc).ownBlock = some k → w.heap.size ≤ k := fun k hk => (OW7.out.lt k hk).1
                have TY := hidX (fun o' g hg => own_type (own_bel OW7.out (HA7.out o')) (k := g) hg)
                have M8 := hidX ((M7.out.trans (MkO.of_below (HA7.out _))).grown hg8.out hrow)
                have HBA := hidX (fun o' => hb7.below (HA7.out o'))
                have HB8 := hidX ((HBA.out _).blocks (hg8.out.block pb (HBA.out _).lt (fun e => by have := hrow pb e.symm; omega)) (hg8.out.block g (HBA.out _).glt (fun e => by have := hrow g e.symm; omega)))
                have HCA := hidX (fun o' => ((HA7.out o').block w2.heap.size (by omega)).trans hcq7)
                have HC8 := hidX (box_grown (HCA.out _) hg8.out (TY.out _) (by decide))
                have HRA := hidX (fun o' => ((HA7.out o').block w.heap.size (by omega)).trans ((hm7.block w.heap.size (show w.heap.size < w6.heap.size by omega) (fun e => by injection e; omega)).trans HRQ6.out))
                have HR8 := hidX (box_grown (HRA.out _) hg8.out (TY.out _) (by decide))
                have f3 := cell_of HC8.out (j := 3) rfl
                have g3 := froz_of HC8.out 3
                have hs8 : w2.heap.size < w8.heap.size := lt_of_block' HC8.out
                refine tk 6 hHeld ?_
                (try simp only [pA, pZ, pS])
                refine wpAnyH_ready (rs := [7]) (by kernel_rfl) (by simp) ?_
                refine AllReadyH.cons (o := ?o20) ?ho20 (fun K hK => ?step20) AllReadyH.nil
                case ho20 => (simp only [List.getElem?_toArray, List.getElem?_cons_succ, List.getElem?_cons_zero]; rfl)
                go_simp
                refine hK.out _ _ ?hS21 (fun hHeld' => ?rest21)
                case hS21 => ((try dsimp only); all_goals trivial)
                clear hK K
                (try dsimp only)
                clear hHeld
                have hHeld := hHeld'
                clear hHeld'
                refine wpAnyH_done (by kernel_rfl) ?_ _
                refine NoPanic.normal ?_
                clear hHeld
                refine lift_setW HC8.out ?_
                intro w9 hq9 ht9
                replace hq9 : w9.heap[w2.heap.size]? = some (.cells (hdC hd (.slice a8 (M.length + 1) c8)).toArray 67 (0, 0)) := by
                  rw [hq9]
                  simp [hdC]
                obtain ⟨hn6, hpl⟩ := HMO.out v hv7 M
                have L9 := hidX (show LsAt w w9 pb g w.heap.size w2.heap.size W c R hd (stS (onS (stS (onS s (takeW 40))) headM)) (stS (onS (itemS (M.length : Int) 6 sx) pVal)) a8 c8 (M ++ [v]) from ⟨M8.out.turn ht9 (by omega), HB8.out.turned ht9 (by omega) (by omega), (ht9.block w.heap.size (by omega)).trans HR8.out, by simpa using hq9, by simpa using own_turn ho8.out ht9 HC8.out (by decide), by simp; omega, by rw [LS.out.pl, hpl]; simp⟩)
                have HL9 : Hid (lenC w2.heap.size w9 = M.length + 1) := show _ = _ from by unfold lenC; rw [cell_of hq9 (j := 3) rfl]; rfl
                clear hq9 ht9 f3 g3 hpl
                go_wp2_with fail
                go_roundw
                case rel => exact ⟨a8, c8, M ++ [v], _, L9.out⟩
                case measure =>
                  change 6 - lenC w2.heap.size w9 < 6 - lenC w2.heap.size wr
                  rw [HL9.out, HML.out]
                  omega
              case step14 =>
                go_simp
                have HA7 := hidX (fun o' => (Below.refl _ _).alloc (Nat.le_refl _) o' : ∀ o', Below w7.heap.size w7 (w7.alloc o')); have c37a : ∀ o', (w7.alloc o').cell? ⟨w2.heap.size, 3, none⟩ = some (.slice la M.length lc) := fun o' => cell_below (HA7.out o') c37
                refine hK.out _ _ ?hS22 (fun hHeld' => ?rest22)
                case hS22 => ((try dsimp only); all_goals trivial)
                clear hK K
                (try simp only [pA, pZ, pS])
                clear hHeld
                have hHeld := hHeld'
                clear hHeld'
                refine wpAnyH_ready (rs := [1]) (by kernel_rfl) (by simp) ?_
                refine AllReadyH.cons (o := ?o23) ?ho23 (fun K hK => ?step23) AllReadyH.nil
                case ho23 => (simp only [List.getElem?_toArray, List.getElem?_cons_succ, List.getElem?_cons_zero]; rfl)
                go_simp
                refine hK.out _ _ ?hS24 (fun hHeld' => ?rest24)
                case hS24 => ((try dsimp only); all_goals trivial)
                clear hK K
                (try simp only [pA, pZ, pS])
                clear hHeld
                have hHeld := hHeld'
                clear hHeld'
                have M7 := hidX ((M6.out.drew).trans hm7)
                have OW7 := hidX (own_mko (own_bel OW6.out ((Below.refl _ _).drew)) hm7 hpb)
                have hws7 : w.heap.size ≤ w7.heap.size := by omega
                refine wpAnyH_ready (rs := [5]) (by kernel_rfl) (by simp) ?_
                refine AllReadyH.cons (o := ?o25) ?ho25 (fun K hK => ?step25) AllReadyH.nil
                case ho25 => (simp only [List.getElem?_toArray, List.getElem?_cons_succ, List.getElem?_cons_zero]; rfl)
                (refine step_append_any (by rfl) (.tmp 50) (.tmp 53) 65 (by rfl) w.heap.size 101 _ 3 32 Tryz.underlying65 infoVF1 (by rfl) (by omega) _ M.length _ (by rfl) (own_bel OW7.out (HA7.out _)) (some ⟨_, 0, none⟩) 1 1 (by rfl) (V.cells v) (by rfl) (fun e => by cases e) (news_new _ _ _ _ (by simp)) (vcells_one v) (by unfold maxLen; omega) (by omega) (by simp; omega) ?_; intro a8 c8 w8 ho8 hg8 hl8)
                refine hK.out _ _ ?hS26 (fun hHeld' => ?rest26)
                case hS26 => ((try dsimp only); all_goals trivial)
                clear hK K
                (try simp only [pA, pZ, pS])
                clear hHeld
                have hHeld := hHeld'
                clear hHeld'
                have hrow : ∀ k, (Value.slice la M.length lc).ownBlock = some k → w.heap.size ≤ k := fun k hk => (OW7.out.lt k hk).1
                have TY := hidX (fun o' g hg => own_type (own_bel OW7.out (HA7.out o')) (k := g) hg)
                have M8 := hidX ((M7.out.trans (MkO.of_below (HA7.out _))).grown hg8.out hrow)
                have HBA := hidX (fun o' => hb7.below (HA7.out o'))
                have HB8 := hidX ((HBA.out _).blocks (hg8.out.block pb (HBA.out _).lt (fun e => by have := hrow pb e.symm; omega)) (hg8.out.block g (HBA.out _).glt (fun e => by have := hrow g e.symm; omega)))
                have HCA := hidX (fun o' => ((HA7.out o').block w2.heap.size (by omega)).trans hcq7)
                have HC8 := hidX (box_grown (HCA.out _) hg8.out (TY.out _) (by decide))
                have HRA := hidX (fun o' => ((HA7.out o').block w.heap.size (by omega)).trans ((hm7.block w.heap.size (show w.heap.size < w6.heap.size by omega) (fun e => by injection e; omega)).trans HRQ6.out))
                have HR8 := hidX (box_grown (HRA.out _) hg8.out (TY.out _) (by decide))
                have f3 := cell_of HC8.out (j := 3) rfl
                have g3 := froz_of HC8.out 3
                have hs8 : w2.heap.size < w8.heap.size := lt_of_block' HC8.out
                refine tk 6 hHeld ?_
                (try simp only [pA, pZ, pS])
                refine wpAnyH_ready (rs := [7]) (by kernel_rfl) (by simp) ?_
                refine AllReadyH.cons (o := ?o27) ?ho27 (fun K hK => ?step27) AllReadyH.nil
                case ho27 => (simp only [List.getElem?_toArray, List.getElem?_cons_succ, List.getElem?_cons_zero]; rfl)
                go_simp
                refine hK.out _ _ ?hS28 (fun hHeld' => ?rest28)
                case hS28 => ((try dsimp only); all_goals trivial)
                clear hK K
                (try dsimp only)
                clear hHeld
                have hHeld := hHeld'
                clear hHeld'
                refine wpAnyH_done (by kernel_rfl) ?_ _
                refine NoPanic.normal ?_
                clear hHeld
                refine lift_setW HC8.out ?_
                intro w9 hq9 ht9
                replace hq9 : w9.heap[w2.heap.size]? = some (.cells (hdC hd (.slice a8 (M.length + 1) c8)).toArray 67 (0, 0)) := by
                  rw [hq9]
                  simp [hdC]
                obtain ⟨hn6, hpl⟩ := HMO.out v hv7 M
                have L9 := hidX (show LsAt w w9 pb g w.heap.size w2.heap.size W c R hd (stS (onS (stS (onS s (takeW 40))) headM)) (stS (onS (itemS (M.length : Int) 6 sx) pVal)) a8 c8 (M ++ [v]) from ⟨M8.out.turn ht9 (by omega), HB8.out.turned ht9 (by omega) (by omega), (ht9.block w.heap.size (by omega)).trans HR8.out, by simpa using hq9, by simpa using own_turn ho8.out ht9 HC8.out (by decide), by simp; omega, by rw [LS.out.pl, hpl]; simp⟩)
                have HL9 : Hid (lenC w2.heap.size w9 = M.length + 1) := show _ = _ from by unfold lenC; rw [cell_of hq9 (j := 3) rfl]; rfl
                clear hq9 ht9 f3 g3 hpl
                go_wp2_with fail
                go_roundw
                case rel => exact ⟨a8, c8, M ++ [v], _, L9.out⟩
                case measure =>
                  change 6 - lenC w2.heap.size w9 < 6 - lenC w2.heap.size wr
                  rw [HL9.out, HML.out]
                  omega
    · have e1 : (kd == 1) = false := by simp; omega
      have e3 : (kd == 3) = false := by simp; omega
      have HCC := hidX (cmd_close HH.out.ok (by rw [← HKD.out]; exact hl))
      have HTK := hidX (mtake_any w5 pb g W c (stS (onS (stS (onS s (takeW 40))) headM)) R 2 41 rel41 (by decide) (by decide) HH.out.mb)
      clear hl
      go_upto_region 20 with (first | (go_at_call 34; refine HTK.out.mono ?_; rintro e w6 ⟨hm6, ⟨y6, he6, _⟩, hb6⟩; obtain rfl : e = .returned (wdA y6) := he6; unfold wdA) | fail)
      have hs6 := hm6.rest.size
      have hrq := (hm6.block w.heap.size (by omega) (fun e => by injection e; omega)).trans HH.out.rq
      have hcq := (hm6.block w2.heap.size (by omega) (fun e => by injection e; omega)).trans HH.out.cq
      have M6 := hidX (HH.out.mo.trans hm6)
      have HB6 := hidX hb6
      clear hm6 hb6 HTK b0
      go_wp2_with (first | (refine wpList_load_blk (by rfl) 67 (.tmp 3) (by rfl) w2.heap.size (hdC hd (.slice none 0 0)) (by rfl) 67 (0, 0) hcq _ Tryz.underlying67 rfl infoCd ?_) | (refine wpList_store_blk (by rfl) 67 (.tmp 2) (.tmp 58) (by rfl) w.heap.size (hdC hd (.slice none 0 0)) (by rfl) (by rfl) _ 67 hrq (by rfl) infoCd (hdC_one _ _ _ _) ?_; intro w7 hb7 ht7) | fail)
      have hld := run_loadVar_mid (P := Tryz.prog) w7 w.heap.size 0 67 (hdC hd (.slice none 0 0)) _ (range_blk hb7.out) Tryz.underlying67 rfl infoCd
      (try go_frame)
      refine bodyPost_ret (v := .agg (hdC hd (.slice none 0 0)).toArray) (by simp [results, Tryz.results28, asAddr, hld]) rfl ?_
      have M7 := (M6.out.turn ht7.out (Nat.le_refl _))
      have HB7 := HB6.out.turned ht7.out (by omega) (by omega)
      rcases HCC.out with ⟨f, h1, h2⟩ | ⟨x, l, h1, h2⟩
      · rw [h2] at HB7
        exact MPost.err ⟨hd.1, hd.2.1, mkS hd.2.2, []⟩ h1 M7 ⟨none, 0, rfl, World.ownsRow_nil _ _ _ _⟩ HB7
      · rw [h2] at HB7
        exact MPost.good h1 M7 ⟨none, 0, rfl, World.ownsRow_nil _ _ _ _⟩ HB7
end Go.Proofs.YtdhpoagjmiligaaGreatDoor
