/-
  OUR OWN TEXT. Mq2, Mq3, Mq4, one behind the other.
-/
import Derived.Test.YtdhpoagjmiligaaGreatDoorMq1m
import Derived.Test.YtdhpoagjmiligaaGreatDoorHwm
namespace Go.Proofs.YtdhpoagjmiligaaGreatDoor
open Go.RowKit
attribute [local go_sem ↓] Go.wp_at_zero Go.wp_at_succ

theorem var_not_sym {t : Bs} (h : isVarW t = true) : gSym t = false := by
  unfold isVarW at h
  simp only [Bool.and_eq_true, decide_eq_true_eq] at h
  cases t with
  | nil => simp at h
  | cons b r =>
    have hb : b = 63 := by simpa using h.1
    subst hb
    unfold gSym
    simp [show byteL 63 = false by decide]
theorem pkind_nil : pkind [] = -1 := by
  unfold pkind
  rw [numOf_bad1 (by decide) (.inl rfl), if_neg (by decide), if_neg (by decide), if_neg (by decide), if_neg (by decide), if_neg (by decide), if_neg (by decide), if_neg (by decide)]
theorem pk_rel {x : Wd} (h : WdOk x) : (x.kind = 1 ↔ pkW x = 40) ∧ (x.kind = 2 ↔ pkW x = 41) ∧ (x.kind = 3 ↔ pkW x = 48) ∧ (x.kind = 4 ↔ pkW x = 63) ∧ (x.kind = 5 ↔ pkW x = 97) ∧ (x.kind = 0 ↔ pkW x = 0) := by
  rcases h with ⟨ht, _, hk | hk | hk | hk⟩ | ⟨hk, _⟩
  · simp [pkW, hk]
  · simp [pkW, hk]
  · simp [pkW, hk]
  · have : pkW x = -1 := by simp [pkW, hk, ht, pkind_nil]
    rw [this, hk]
    decide
  · obtain ⟨m0, m1, m2, _⟩ := mkind_ne x.text
    have hp : pkW x = pkind x.text := by
      unfold pkW
      rw [hk, if_neg m0, if_neg m1, if_neg m2]
    rw [hp, hk]
    have hv := @var_not_sym x.text
    unfold mkind pkind
    by_cases h1 : (numOf x.text).isSome = true
    · simp [h1]
    · by_cases h3 : isVarW x.text = true
      · have h2 := hv h3
        simp [h1, h2, h3]
      · by_cases h2 : gSym x.text = true
        · simp [h1, h2, h3]
        · rw [if_neg h1, if_neg h3, if_neg h2, if_neg h1, if_neg h2, if_neg h3]
          repeat' split
          all_goals decide
theorem MB.head {w : World} {pb g : Nat} {W : List Wd} {c : Nat} {l : List Wd} {R : List Value} (h : MB w pb g W c (.ok l) R) : ∃ x r, l = x :: r ∧ WdOk x ∧ x.text.length ≤ 20000 := by
  obtain ⟨k, cd, pos, hq, hk, hs⟩ := h.st
  obtain ⟨x, r, e, hx, _⟩ := wdrop hs.2.2 hk
  have := h.ok x (List.mem_of_getElem? hx)
  exact ⟨x, r, e, this.1, this.2⟩
theorem nextW_head {x y : Wd} {r r' : List Wd} (h : nextW (x :: r) = .ok (y, r')) : y = x ∧ r' = if x.kind = 0 then x :: r else r := by
  unfold nextW at h
  cases hb : badW x with
  | some f => simp [hb] at h
  | none =>
    simp [hb] at h
    exact ⟨h.1.symm, h.2.symm⟩
/-- A word of a kind is asked for, and there is another. -/
theorem take_no {w : World} {pb g : Nat} {W : List Wd} {c : Nat} {s : Ps} {R : List Value} {kd pk : Int} (hM : MB w pb g W c s R) (hrel : ∀ x, WdOk x → (x.kind = kd ↔ pkW x = pk)) (h : lookK s ≠ kd) : ∃ f, onS s (takeW pk) = .error f ∧ failS 3 (lookS s) = .error f := by
  cases s with
  | error f => exact ⟨f, rfl, rfl⟩
  | ok l =>
    obtain ⟨x, r, rfl, hx, _⟩ := hM.head
    cases hr : nextW (x :: r) with
    | error f =>
      refine ⟨f, ?_, ?_⟩
      · simp [onS, takeW, hr]
      · rw [(look_err hr).2]
        rfl
    | ok p =>
      obtain ⟨y, r'⟩ := p
      obtain ⟨rfl, _⟩ := nextW_head hr
      rw [(look_ok hr).1] at h
      refine ⟨(3, y.pos), ?_, ?_⟩
      · simp only [onS, takeW, hr]
        rw [if_neg (fun e => h ((hrel y hx).2 e))]
      · rw [(look_ok hr).2]
        rfl
theorem take_yes {w : World} {pb g : Nat} {W : List Wd} {c : Nat} {s : Ps} {R : List Value} {kd pk : Int} (hM : MB w pb g W c s R) (hrel : ∀ x, WdOk x → (x.kind = kd ↔ pkW x = pk)) (h1 : kd ≠ -1) (h0 : kd ≠ 0) (h : lookK s = kd) : ∃ x r, s = .ok (x :: r) ∧ x.kind = kd ∧ onS s (takeW pk) = .ok (x, r) ∧ lookS s = .ok (x :: r) ∧ WdOk x ∧ x.text.length ≤ 20000 := by
  cases s with
  | error f => exact absurd h.symm h1
  | ok l =>
    obtain ⟨x, r, rfl, hx, hl⟩ := hM.head
    cases hr : nextW (x :: r) with
    | error f => exact absurd ((look_err hr).1.symm.trans h).symm h1
    | ok p =>
      obtain ⟨y, r'⟩ := p
      obtain ⟨rfl, hr'⟩ := nextW_head hr
      rw [(look_ok hr).1] at h
      refine ⟨y, r, rfl, h, ?_, (look_ok hr).2, hx, hl⟩
      simp only [onS, takeW, hr]
      rw [if_pos ((hrel y hx).1 h), hr', if_neg (by omega)]
theorem WsOk.drop {W r : List Wd} {x : Wd} {k : Nat} (h : WsOk W) (hd : W.drop k = x :: r) (hx : x.kind ≠ 0) : k + 1 < W.length := by
  obtain ⟨pre, e, rfl, he, hp⟩ := h
  apply Classical.byContradiction
  intro hc
  have hlt : k < (pre ++ [e]).length := by
    apply Classical.byContradiction
    intro hq
    rw [List.drop_eq_nil_of_le (by omega)] at hd
    cases hd
  have hk : k = pre.length := by simp at hlt hc; omega
  rw [hk, List.drop_left] at hd
  injection hd with h1 _
  exact hx (h1 ▸ he)
def Rmw (x : Wd) (e : Ending) (_ : World) : Prop := e = .returned (.agg (wdV x).toArray)
theorem MPost.err {α : Type} {w w' : World} {pb g : Nat} {W : List Wd} {c : Nat} {R : List Value} {Q : α → Ending → World → Prop} {r : Px α} {e : Ending} {f : Flt} (x : α) (hr : r = .error f) (hm : MkO (some pb) w w') (hq : Q x e w') (hb : MB w' pb g W c (.error f) R) : MPost w pb g W c R Q r e w' := by
  subst hr
  exact ⟨hm, ⟨x, hq, fun y l h => by cases h⟩, hb⟩
theorem MPost.good {α : Type} {w w' : World} {pb g : Nat} {W : List Wd} {c : Nat} {R : List Value} {Q : α → Ending → World → Prop} {r : Px α} {e : Ending} {x : α} {l : List Wd} (hr : r = .ok (x, l)) (hm : MkO (some pb) w w') (hq : Q x e w') (hb : MB w' pb g W c (.ok l) R) : MPost w pb g W c R Q r e w' := by
  subst hr
  exact ⟨hm, ⟨x, hq, fun y l h => by injection h with h; injection h with h _; exact h.symm⟩, hb⟩
theorem infoWz : (Tryz.prog.info? 72).map (·.size) = some 4 := by kernel_rfl
def zW : Wd := ⟨0, 0, [], 0⟩
theorem MB.turned {w w' : World} {pb g b : Nat} {W : List Wd} {c : Nat} {s : Ps} {R : List Value} (h : MB w pb g W c s R) (ht : Turned w w' b) (h1 : b ≠ pb) (h2 : b ≠ g) : MB w' pb g W c s R := by
  obtain ⟨k, cd, pos, hq, hk, hs⟩ := h.st
  exact ⟨⟨k, cd, pos, (ht.block pb (Ne.symm h1)).trans hq, hk, hs⟩, h.wds.block (ht.block g (Ne.symm h2)), h.far, h.ok, h.ends, h.caps, h.len⟩
theorem lift_set4 {P : World → Prop} {w : World} {b : Nat} {t : TypeId} {cs : Array Value} {v0 v1 v2 v3 : Value} (hq : w.heap[b]? = some (.cells cs t (0, 0))) (hs : cs.size = 4) (h : ∀ wt, wt.heap[b]? = some (.cells [v0, v1, v2, v3].toArray t (0, 0)) → Turned w wt b → P wt) : P (((((w.setCell ⟨b, 0, none⟩ v0).setCell ⟨b, 1, none⟩ v1).setCell ⟨b, 2, none⟩ v2).setCell ⟨b, 3, none⟩ v3).drew) := by
  have h1 := heap_setCells_splice hq (o := 0) [v0, v1, v2, v3] (by simp; omega)
  have hd : cs.toList.drop (0 + [v0, v1, v2, v3].length) = [] := List.drop_eq_nil_of_le (by simp; omega)
  rw [hd] at h1
  have ht := Turned.setCells [v0, v1, v2, v3] 0 w b
  exact h _ (h1.trans (by simp)) ⟨ht.os, ht.tape, ht.output, ht.size, ht.block⟩
set_option maxRecDepth 100000 in
set_option maxHeartbeats 1600000 in
theorem mtake_any (w : World) (pb g : Nat) (W : List Wd) (c : Nat) (s : Ps) (R : List Value) (kd pk : Int) (hrel : ∀ x, WdOk x → (x.kind = kd ↔ pkW x = pk)) (h1 : kd ≠ -1) (h0 : kd ≠ 0) (h : MB w pb g W c s R) : Calls Tryz.prog 34 #[.pointer (some ⟨pb, 0, none⟩), .int .i64 kd] w (MPost w pb g W c R Rmw (onS s (takeW pk))) := by
  have HM := hidX h
  have hpb := h.lt
  have hgl := h.glt
  have HR := hidX hrel
  have H1 := hidX h1
  have H0 := hidX h0
  clear h hrel h1 h0
  go_enter Tryz.func34, Tryz.ntmps34
  go_upto_region 1 with fail
  refine lift_alloc ?_
  intro w1 hW1 hq1
  have M1 := hidX (MkO.of_below hW1 : MkO (some pb) w w1)
  have HLK := hidX (look_any w1 pb g W c s R (HM.out.below hW1))
  have hrb : w.heap.size < w1.heap.size := lt_of_block' hq1
  have HQ1 := hidX hq1
  clear hW1 hq1
  obtain ⟨K, hK⟩ : ∃ K, K = lookK s := ⟨_, rfl⟩
  unfold LkPost at HLK
  rw [← hK] at HLK
  by_cases hk : K = kd
  · obtain ⟨x, r, hs, hxk, hot, hls, hxo, hxl⟩ := take_yes HM.out HR.out H1.out H0.out (hK.symm.trans hk)
    have HT := hidX hot
    have HX0 : Hid (x.kind ≠ 0) := show x.kind ≠ 0 from by rw [hxk]; exact H0.out
    rw [hls] at HLK
    have e1 : (K != kd) = false := by simp [hk]
    clear hk hK hs hxk hot hls
    go_upto_region 4 with (first | (go_at_call 19; refine HLK.out.mono ?_; rintro e w2 ⟨rfl, hm2, hb2⟩) | fail)
    obtain ⟨k, cd, pos, hq, hkl, hc0, hp0, hd⟩ := hb2.st
    subst hc0
    subst hp0
    obtain ⟨x', r', e', hx, hdr⟩ := wdrop hd hkl
    injection e' with e1' e2'
    subst e1'
    subst e2'
    have hk1 := hb2.ends.drop hd HX0.out
    have HB2 := hidX hb2
    have hs2 := hm2.rest.size
    have hbx := (hm2.block w.heap.size hrb (fun e => by injection e; omega)).trans HQ1.out
    have M2 := hidX (M1.out.trans hm2)
    have d1 := cell_of hq (j := 1) rfl
    have z1 := froz_of hq 1
    have HQ := hidX hq
    have HWD := hidX (hb2.wds k x hx)
    have hfar := hb2.far
    have hcap := hb2.caps
    have hlen := hb2.len
    have HDR := hidX hdr
    clear hb2 hm2 HLK HQ1 hq hd hx hdr
    go_upto_region 5 with fail
    refine lift_setW HQ.out ?_
    intro w3 hq3 ht3
    replace hq3 : w3.heap[pb]? = some (.cells (.slice (some ⟨g, 0, none⟩) W.length c :: .int .i64 ((k + 1 : Nat) : Int) :: .int .i64 0 :: .int .i64 ((0 : Nat) : Int) :: R).toArray 48 (0, 0)) := by
      rw [hq3]
      simp
    have f0 := cell_of hq3 (j := 0) rfl
    have f1 := cell_of hq3 (j := 1) rfl
    rw [show (((k + 1 : Nat) : Nat) : Int) = (k : Int) + 1 by omega] at f1
    have HQ3 := hidX hq3
    have HT3 := hidX ht3
    have hbx3 := (ht3.block w.heap.size (by omega)).trans hbx
    have HB3 := hidX hbx3
    have HW3 := hidX (show w3.rangeAt g (k * 4) (wdV x) from fun j v hv => (ht3.cell (p := ⟨g, k * 4 + j, none⟩) hfar).trans (HWD.out j v hv))
    have y0 := HW3.out 0 _ rfl
    have y1 := HW3.out 1 _ rfl
    have y2 := HW3.out 2 _ rfl
    have y3 := HW3.out 3 _ rfl
    simp only [Nat.add_zero] at y0
    have b0 := cell_of (L := [_, _, _, _]) hbx3 (j := 0) rfl
    have b1 := cell_of (L := [_, _, _, _]) hbx3 (j := 1) rfl
    have b2 := cell_of (L := [_, _, _, _]) hbx3 (j := 2) rfl
    have b3 := cell_of (L := [_, _, _, _]) hbx3 (j := 3) rfl
    have q0 := froz_of hbx3 0
    have q1 := froz_of hbx3 1
    have q2 := froz_of hbx3 2
    have q3 := froz_of hbx3 3
    have hl3 : w.heap.size < w3.heap.size := lt_of_block' hbx3
    have hg3 : g < w3.heap.size := by omega
    have hp3 : pb < w3.heap.size := by omega
    clear hq3 ht3 hbx hbx3 d1 z1 HQ HWD
    go_region
    refine lift_set4 HB3.out (by rfl) ?_
    intro w4 hb4 ht4
    clear f0 f1 y0 y1 y2 y3 b0 b1 b2 b3 q0 q1 q2 q3
    have hld := run_loadVar_mid (P := Tryz.prog) w4 w.heap.size 0 72 (wdV x) _ (range_blk hb4) Tryz.underlying72 rfl infoWz
    go_wp2_with fail
    (try go_frame)
    refine bodyPost_ret (v := .agg (wdV x).toArray) (by simp [results, Tryz.results34, asAddr, hld]) rfl (MPost.good HT.out ((M2.out.trans HT3.out.mko).turn ht4 (Nat.le_refl _)) rfl ?_)
    exact (HB2.out.to (s' := .ok r) (R' := R) HT3.out.mko ⟨k + 1, 0, 0, HQ3.out, hk1, rfl, rfl, HDR.out⟩).turned ht4 (by omega) (by omega)
  · obtain ⟨f, hot, hfs⟩ := take_no HM.out HR.out (fun e => hk (hK.trans e))
    have HT := hidX hot
    have e1 : (K != kd) = true := by simp [hk]
    have HF := hidX (fun u (hu : MB u pb g W c (lookS s) R) => fail_any u pb g W c (lookS s) R 3 (by decide) hu)
    rw [hfs] at HF
    clear hk hK hot hfs
    go_upto_region 3 with (first | (go_at_call 19; refine HLK.out.mono ?_; rintro e w2 ⟨rfl, hm2, hb2⟩) | (go_at_call 20; refine (HF.out _ hb2).mono ?_; rintro e w3 ⟨rfl, hm3, hb3⟩) | fail)
    have HB3 := hidX hb3
    have hs2 := hm2.rest.size
    have hbx := (hm3.block w.heap.size (by omega) (fun e => by injection e; omega)).trans ((hm2.block w.heap.size hrb (fun e => by injection e; omega)).trans HQ1.out)
    have M3 := hidX ((M1.out.trans hm2).trans hm3)
    clear hm2 hb2 hm3 hb3 HLK HF HQ1
    go_wp2_with (first | (refine wpList_store_blk (by rfl) 72 (.tmp 4) (.tmp 11) (by rfl) w.heap.size (wdV zW) (by rfl) (by rfl) _ 72 hbx (by rfl) infoWz (wdV_one _) ?_; intro w4 hb4 ht4) | fail)
    have hld := run_loadVar_mid (P := Tryz.prog) w4 w.heap.size 0 72 (wdV zW) _ (range_blk hb4.out) Tryz.underlying72 rfl infoWz
    go_frame
    refine bodyPost_ret (v := .agg (wdV zW).toArray) (by simp [results, Tryz.results34, asAddr, hld]) rfl (MPost.err zW HT.out (M3.out.turn ht4.out (Nat.le_refl _)) rfl (HB3.out.turned ht4.out (by omega) (by omega)))
end Go.Proofs.YtdhpoagjmiligaaGreatDoor

namespace Go.Proofs.YtdhpoagjmiligaaGreatDoor
open Go.RowKit
attribute [local go_sem ↓] Go.wp_at_zero Go.wp_at_succ

/-- A word of a kind that is one of some texts. -/
def oneM (kd : Int) (T : List Bs) (l : List Wd) : Px Bs := match nextW l with
  | .error f => .error f
  | .ok (x, r) => if x.kind = kd ∧ x.text ∈ T then .ok (x.text, r) else .error (3, x.pos)
/-- Texts in memory. -/
def TxAt (w : World) (lb : Nat) (T : List Bs) : Prop := ∀ (j : Nat) (t : Bs), T[j]? = some t → w.cell? ⟨lb, j, none⟩ = some (.string (mkS t))
theorem TxAt.block {w w' : World} {lb : Nat} {T : List Bs} (h : TxAt w lb T) (hb : w'.heap[lb]? = w.heap[lb]?) : TxAt w' lb T := fun j t ht => (World.cell?_of_block (w := w) hb).trans (h j t ht)
theorem TxAt.strs {w : World} {lb : Nat} {T : List Bs} (h : TxAt w lb T) : StrsAt none w (some ⟨lb, 0, none⟩) (T.map mkS) := StrsAt.of fun j x hx => by
  rw [Nat.zero_add]
  exact h j x hx
def kOf (W r : List Wd) : Nat := W.length - (r.length + 1)
/-- Where the parser stands, told by the words that are left. -/
theorem MB.cells {w : World} {pb g : Nat} {W : List Wd} {c : Nat} {x : Wd} {r : List Wd} {R : List Value} (h : MB w pb g W c (.ok (x :: r)) R) : w.heap[pb]? = some (.cells (.slice (some ⟨g, 0, none⟩) W.length c :: .int .i64 (kOf W r : Int) :: .int .i64 0 :: .int .i64 ((0 : Nat) : Int) :: R).toArray 48 (0, 0)) ∧ kOf W r < W.length ∧ w.rangeAt g (kOf W r * 4) (wdV x) ∧ W.drop (kOf W r) = x :: r ∧ W.drop (kOf W r + 1) = r := by
  obtain ⟨k, cd, pos, hq, hk, rfl, rfl, hd⟩ := h.st
  have hl : k = kOf W r := by
    have := congrArg List.length hd
    simp at this
    unfold kOf
    omega
  obtain ⟨x', r', e, hx, hr⟩ := wdrop hd hk
  injection e with e1 e2
  subst e1
  subst e2
  rw [← hl]
  exact ⟨hq, hk, h.wds k x hx, hd, hr⟩
theorem one_no {w : World} {pb g : Nat} {W : List Wd} {c : Nat} {s : Ps} {R : List Value} {kd : Int} {T : List Bs} (hM : MB w pb g W c s R) (h : lookK s ≠ kd) : ∃ f, onS s (oneM kd T) = .error f ∧ failS 3 (lookS s) = .error f := by
  cases s with
  | error f => exact ⟨f, rfl, rfl⟩
  | ok l =>
    obtain ⟨x, r, rfl, hx, _⟩ := hM.head
    cases hr : nextW (x :: r) with
    | error f =>
      refine ⟨f, ?_, ?_⟩
      · simp [onS, oneM, hr]
      · rw [(look_err hr).2]
        rfl
    | ok p =>
      obtain ⟨y, r'⟩ := p
      obtain ⟨rfl, _⟩ := nextW_head hr
      rw [(look_ok hr).1] at h
      refine ⟨(3, y.pos), ?_, ?_⟩
      · simp only [onS, oneM, hr]
        rw [if_neg (fun e => h e.1)]
      · rw [(look_ok hr).2]
        rfl
theorem look_yes {w : World} {pb g : Nat} {W : List Wd} {c : Nat} {s : Ps} {R : List Value} {kd : Int} (hM : MB w pb g W c s R) (h1 : kd ≠ -1) (h0 : kd ≠ 0) (h : lookK s = kd) : ∃ x r, s = .ok (x :: r) ∧ x.kind = kd ∧ nextW (x :: r) = .ok (x, r) ∧ lookS s = .ok (x :: r) ∧ WdOk x ∧ x.text.length ≤ 20000 := by
  cases s with
  | error f => exact absurd h.symm h1
  | ok l =>
    obtain ⟨x, r, rfl, hx, hl⟩ := hM.head
    cases hr : nextW (x :: r) with
    | error f => exact absurd ((look_err hr).1.symm.trans h).symm h1
    | ok p =>
      obtain ⟨y, r'⟩ := p
      obtain ⟨rfl, hr'⟩ := nextW_head hr
      rw [(look_ok hr).1] at h
      rw [if_neg (by omega)] at hr'
      subst hr'
      exact ⟨y, r', rfl, h, hr, (look_ok hr).2, hx, hl⟩
theorem MB.next {w w' : World} {pb g : Nat} {W : List Wd} {c : Nat} {x : Wd} {r : List Wd} {R : List Value} (h : MB w pb g W c (.ok (x :: r)) R) (hx : x.kind ≠ 0) (ht : Turned w w' pb) (hq : w'.heap[pb]? = some (.cells (.slice (some ⟨g, 0, none⟩) W.length c :: .int .i64 ((kOf W r + 1 : Nat) : Int) :: .int .i64 0 :: .int .i64 ((0 : Nat) : Int) :: R).toArray 48 (0, 0))) : MB w' pb g W c (.ok r) R := by
  obtain ⟨_, hk, _, hd, hr⟩ := h.cells
  exact h.to (s' := .ok r) (R' := R) ht.mko ⟨kOf W r + 1, 0, 0, hq, h.ends.drop hd hx, rfl, rfl, hr⟩
set_option maxRecDepth 100000 in
set_option maxHeartbeats 3200000 in
theorem mone_any (w : World) (pb g lb ct : Nat) (W : List Wd) (c : Nat) (s : Ps) (R : List Value) (kd : Int) (T : List Bs) (h1 : kd ≠ -1) (h0 : kd ≠ 0) (hT : TxAt w lb T) (hlb : lb ≠ pb) (hll : lb < w.heap.size) (hTl : T.length ≤ 100) (h : MB w pb g W c s R) : Calls Tryz.prog 35 #[.pointer (some ⟨pb, 0, none⟩), .int .i64 kd, .slice (some ⟨lb, 0, none⟩) T.length ct] w (MPost w pb g W c R Rs1 (onS s (oneM kd T))) := by
  have HM := hidX h
  have hpb := h.lt
  have hgl := h.glt
  have hfar := h.far
  have hcap := h.caps
  have hlen := h.len
  have H1 := hidX h1
  have H0 := hidX h0
  have HT := hidX hT
  have HLK := hidX (fun u (hu : MB u pb g W c s R) => look_any u pb g W c s R hu)
  obtain ⟨K, hK⟩ : ∃ K, K = lookK s := ⟨_, rfl⟩
  unfold LkPost at HLK
  rw [← hK] at HLK
  clear h h1 h0 hT
  by_cases hk : K = kd
  · obtain ⟨x, r, hs, hxk, hot, hls, hxo, hxl⟩ := look_yes HM.out H1.out H0.out (hK.symm.trans hk)
    have HX0 : Hid (x.kind ≠ 0) := show x.kind ≠ 0 from by rw [hxk]; exact H0.out
    have HXK := hidX hxk
    have HNX := hidX hot
    rw [hls] at HLK
    have e1 : (K != kd) = false := by simp [hk]
    subst hs
    obtain ⟨hq, hkl, hrg, hd, hdr⟩ := HM.out.cells
    have c0 := cell_of hq (j := 0) rfl
    have c1 := cell_of hq (j := 1) rfl
    have c2 := hrg 2 _ rfl
    have HIS := hidX (fun u (hu : TxAt u lb T) => (l2Is_any (mkS x.text) (some ⟨lb, 0, none⟩) ct (T.map mkS) u hu.strs (by rw [List.length_map]; omega)))
    rw [memB_map, bs_mkS, List.length_map] at HIS
    obtain ⟨k, hkk⟩ : ∃ k, k = kOf W r := ⟨_, rfl⟩
    rw [← hkk] at c1 c2 hkl
    have HKK := hidX hkk
    clear hk hK hxk hot hls hq hrg hd hdr hkk
    by_cases ht : x.text ∈ T
    · have HOT : Hid (onS (.ok (x :: r)) (oneM kd T) = .ok (x.text, r)) := show _ = _ from by simp only [onS, oneM, HNX.out]; rw [if_pos ⟨HXK.out, ht⟩]
      have e2 : decide (x.text ∈ T) = true := decide_eq_true ht
      rw [e2] at HIS
      clear ht e2
      go_enter Tryz.func35, Tryz.ntmps35
      go_upto_region 1 with fail
      refine wp_region_noPanic ?_
      refine wp_region_held_drew (S := (fun u => u.cell? ⟨pb, 0, none⟩ = some (.slice (some ⟨g, 0, none⟩) W.length c) ∧ u.cell? ⟨pb, 1, none⟩ = some (.int .i64 (k : Int)) ∧ u.cell? ⟨g, k * 4 + 2, none⟩ = some (.string (mkS x.text)))) (by kernel_rfl) ?_ (fun hHeld => ?_)
      · (try dsimp only)
        exact ⟨c0, c1, c2⟩
      refine tk 0 hHeld ?_
      (try simp only [pA, pZ, pS])
      refine tk 2 hHeld ?_
      (try simp only [pA, pZ, pS])
      refine wpAnyH_ready (rs := [1]) (by kernel_rfl) (by simp) ?_
      refine AllReadyH.cons (o := ?o1) ?ho1 (fun K hK => ?step1) AllReadyH.nil
      case ho1 => (simp only [List.getElem?_toArray, List.getElem?_cons_succ, List.getElem?_cons_zero]; rfl)
      go_simp
      (go_at_call 19; refine (HLK.out _ (HM.out.below (Below.refl _ _).drew)).mono ?_; rintro e w2 ⟨rfl, hm2, hb2⟩; have hT2 := HT.out.block (w' := w2) (hm2.block lb hll (fun e => hlb (by injection e with e; exact e.symm))); have hq2 := hb2.cells.1; have hg2 := hb2.cells.2.2.1 2 _ rfl; rw [← HKK.out] at hq2 hg2; have u0 := cell_of hq2 (j := 0) rfl; have u1 := cell_of hq2 (j := 1) rfl; clear hq2)
      (try go_wp2_with fail)
      refine hK.out _ _ ?hS1 (fun hHeld' => ?rest1)
      case hS1 => ((try dsimp only); exact ⟨u0, u1, hg2⟩)
      clear hK K
      (first | simp only [pA, pZ, pS] | simp only [pN] | skip)
      clear hHeld
      have hHeld := hHeld'
      clear hHeld'
      refine tk 3 hHeld ?_
      (try simp only [pA, pZ, pS])
      refine tk 4 hHeld ?_
      (try simp only [pA, pZ, pS])
      refine tk 5 hHeld ?_
      (try simp only [pA, pZ, pS])
      refine tk 6 hHeld ?_
      (try simp only [pA, pZ, pS])
      refine tk 7 hHeld ?_
      (try simp only [pA, pZ, pS])
      refine tk 8 hHeld ?_
      (try simp only [pA, pZ, pS])
      refine tk 9 hHeld ?_
      (try simp only [pA, pZ, pS])
      refine tk 10 hHeld ?_
      (try simp only [pA, pZ, pS])
      refine tk 11 hHeld ?_
      (try simp only [pA, pZ, pS])
      refine tk 12 hHeld ?_
      (try simp only [pA, pZ, pS])
      refine tk 13 hHeld ?_
      (try simp only [pA, pZ, pS])
      refine tk 14 hHeld ?_
      (try simp only [pA, pZ, pS])
      refine tk 15 hHeld ?_
      (try simp only [pA, pZ, pS])
      refine tk 16 hHeld ?_
      (try simp only [pA, pZ, pS])
      refine wpAnyH_ready (rs := [17]) (by kernel_rfl) (by simp) ?_
      refine AllReadyH.cons (o := ?o2) ?ho2 (fun K hK => ?step2) AllReadyH.nil
      case ho2 => (simp only [List.getElem?_toArray, List.getElem?_cons_succ, List.getElem?_cons_zero]; rfl)
      go_simp
      (go_at_call 68; refine (HIS.out _ hT2).mono ?_; rintro e w2' ⟨rfl, rfl⟩)
      (try go_wp2_with fail)
      refine hK.out _ _ ?hS2 (fun hHeld' => ?rest2)
      case hS2 => ((try dsimp only); exact ⟨u0, u1, hg2⟩)
      clear hK K
      (first | simp only [pA, pZ, pS] | simp only [pN] | skip)
      clear hHeld
      have hHeld := hHeld'
      clear hHeld'
      refine tk 18 hHeld ?_
      (try simp only [pA, pZ, pS])
      refine tk 19 hHeld ?_
      (try simp only [pA, pZ, pS])
      refine wpAnyH_done (by kernel_rfl) ?_ _
      refine NoPanic.normal ?_
      (try dsimp only)
      obtain ⟨hq, hkl3, hrg, hd, hdr⟩ := hb2.cells
      rw [← HKK.out] at hq hkl3 hrg
      have d1 := cell_of hq (j := 1) rfl
      have z1 := froz_of hq 1
      have HQ := hidX hq
      have HRG := hidX hrg
      have HB2 := hidX hb2
      have M2 := hidX hm2
      have hs2 := hm2.rest.size
      clear hq hrg hd hdr hb2 hm2 c0 c1 c2 hT2 hkl3
      go_upto_region 5 with fail
      refine lift_setW HQ.out ?_
      intro w3 hq3 ht3
      replace hq3 : w3.heap[pb]? = some (.cells (.slice (some ⟨g, 0, none⟩) W.length c :: .int .i64 ((k + 1 : Nat) : Int) :: .int .i64 0 :: .int .i64 ((0 : Nat) : Int) :: R).toArray 48 (0, 0)) := by
        rw [hq3]
        simp
      have f0 := cell_of hq3 (j := 0) rfl
      have f1 := cell_of hq3 (j := 1) rfl
      rw [show (((k + 1 : Nat) : Nat) : Int) = (k : Int) + 1 by omega] at f1
      have y2 := (ht3.cell (p := ⟨g, k * 4 + 2, none⟩) hfar).trans (HRG.out 2 _ rfl)
      rw [HKK.out] at hq3
      have B3 := hidX (HB2.out.next HX0.out ht3 hq3)
      have M3 := hidX ((MkO.refl (some pb) w).drew.trans (M2.out.trans ht3.mko))
      have hp3 := lt_of_block' hq3
      have hg3 : g < w3.heap.size := by have := ht3.size; simp at hs2; omega
      clear hq3 ht3 d1 z1 HQ HRG
      go_region
      go_wp2_with fail
      go_ret
      exact MPost.good HOT.out M3.out.drew rfl (B3.out.below (Below.refl _ _).drew)
    · have HOT : Hid (onS (.ok (x :: r)) (oneM kd T) = .error (3, x.pos)) := show _ = _ from by simp only [onS, oneM, HNX.out]; rw [if_neg (fun e => ht e.2)]
      have e2 : decide (x.text ∈ T) = false := decide_eq_false ht
      rw [e2] at HIS
      clear ht e2
      have HF := hidX (fun u (hu : MB u pb g W c (.ok (x :: r)) R) => fail_any u pb g W c (.ok (x :: r)) R 3 (by decide) hu)
      go_enter Tryz.func35, Tryz.ntmps35
      go_upto_region 1 with fail
      refine wp_region_noPanic ?_
      refine wp_region_held_drew (S := (fun u => u.cell? ⟨pb, 0, none⟩ = some (.slice (some ⟨g, 0, none⟩) W.length c) ∧ u.cell? ⟨pb, 1, none⟩ = some (.int .i64 (k : Int)) ∧ u.cell? ⟨g, k * 4 + 2, none⟩ = some (.string (mkS x.text)))) (by kernel_rfl) ?_ (fun hHeld => ?_)
      · (try dsimp only)
        exact ⟨c0, c1, c2⟩
      refine tk 0 hHeld ?_
      (try simp only [pA, pZ, pS])
      refine tk 2 hHeld ?_
      (try simp only [pA, pZ, pS])
      refine wpAnyH_ready (rs := [1]) (by kernel_rfl) (by simp) ?_
      refine AllReadyH.cons (o := ?o3) ?ho3 (fun K hK => ?step3) AllReadyH.nil
      case ho3 => (simp only [List.getElem?_toArray, List.getElem?_cons_succ, List.getElem?_cons_zero]; rfl)
      go_simp
      (go_at_call 19; refine (HLK.out _ (HM.out.below (Below.refl _ _).drew)).mono ?_; rintro e w2 ⟨rfl, hm2, hb2⟩; have hT2 := HT.out.block (w' := w2) (hm2.block lb hll (fun e => hlb (by injection e with e; exact e.symm))); have hq2 := hb2.cells.1; have hg2 := hb2.cells.2.2.1 2 _ rfl; rw [← HKK.out] at hq2 hg2; have u0 := cell_of hq2 (j := 0) rfl; have u1 := cell_of hq2 (j := 1) rfl; clear hq2)
      (try go_wp2_with fail)
      refine hK.out _ _ ?hS3 (fun hHeld' => ?rest3)
      case hS3 => ((try dsimp only); exact ⟨u0, u1, hg2⟩)
      clear hK K
      (first | simp only [pA, pZ, pS] | simp only [pN] | skip)
      clear hHeld
      have hHeld := hHeld'
      clear hHeld'
      refine tk 3 hHeld ?_
      (try simp only [pA, pZ, pS])
      refine tk 4 hHeld ?_
      (try simp only [pA, pZ, pS])
      refine tk 5 hHeld ?_
      (try simp only [pA, pZ, pS])
      refine tk 6 hHeld ?_
      (try simp only [pA, pZ, pS])
      refine tk 7 hHeld ?_
      (try simp only [pA, pZ, pS])
      refine tk 8 hHeld ?_
      (try simp only [pA, pZ, pS])
      refine tk 9 hHeld ?_
      (try simp only [pA, pZ, pS])
      refine tk 10 hHeld ?_
      (try simp only [pA, pZ, pS])
      refine tk 11 hHeld ?_
      (try simp only [pA, pZ, pS])
      refine tk 12 hHeld ?_
      (try simp only [pA, pZ, pS])
      refine tk 13 hHeld ?_
      (try simp only [pA, pZ, pS])
      refine tk 14 hHeld ?_
      (try simp only [pA, pZ, pS])
      refine tk 15 hHeld ?_
      (try simp only [pA, pZ, pS])
      refine tk 16 hHeld ?_
      (try simp only [pA, pZ, pS])
      refine wpAnyH_ready (rs := [17]) (by kernel_rfl) (by simp) ?_
      refine AllReadyH.cons (o := ?o4) ?ho4 (fun K hK => ?step4) AllReadyH.nil
      case ho4 => (simp only [List.getElem?_toArray, List.getElem?_cons_succ, List.getElem?_cons_zero]; rfl)
      go_simp
      (go_at_call 68; refine (HIS.out _ hT2).mono ?_; rintro e w2' ⟨rfl, rfl⟩)
      (try go_wp2_with fail)
      refine hK.out _ _ ?hS4 (fun hHeld' => ?rest4)
      case hS4 => ((try dsimp only); exact ⟨u0, u1, hg2⟩)
      clear hK K
      (first | simp only [pA, pZ, pS] | simp only [pN] | skip)
      clear hHeld
      have hHeld := hHeld'
      clear hHeld'
      refine tk 18 hHeld ?_
      (try simp only [pA, pZ, pS])
      refine tk 19 hHeld ?_
      (try simp only [pA, pZ, pS])
      refine wpAnyH_done (by kernel_rfl) ?_ _
      refine NoPanic.normal ?_
      (try dsimp only)
      have HB2 := hidX hb2
      have M2 := hidX ((MkO.refl (some pb) w).drew.trans hm2)
      clear hb2 hm2 c0 c1 c2 hT2
      go_wp2_with (first | (go_at_call 20; refine (HF.out _ HB2.out).mono ?_; rintro e w3 ⟨rfl, hm3, hb3⟩) | fail)
      go_ret
      exact MPost.err [] HOT.out (M2.out.trans hm3) rfl hb3
  · obtain ⟨f, hot, hfs⟩ := one_no (T := T) HM.out (fun e => hk (hK.trans e))
    have HOT := hidX hot
    have e1 : (K != kd) = true := by simp [hk]
    have HF := hidX (fun u (hu : MB u pb g W c (lookS s) R) => fail_any u pb g W c (lookS s) R 3 (by decide) hu)
    rw [hfs] at HF
    clear hk hK hot hfs
    go_enter Tryz.func35, Tryz.ntmps35
    go_upto_region 1 with fail
    refine wp_region_noPanic ?_
    refine wp_region_held_drew (S := (fun _ => True)) (by kernel_rfl) ?_ (fun hHeld => ?_)
    · (try dsimp only)
      all_goals trivial
    refine tk 0 hHeld ?_
    (try simp only [pA, pZ, pS])
    refine tk 2 hHeld ?_
    (try simp only [pA, pZ, pS])
    refine wpAnyH_ready (rs := [1]) (by kernel_rfl) (by simp) ?_
    refine AllReadyH.cons (o := ?o5) ?ho5 (fun K hK => ?step5) AllReadyH.nil
    case ho5 => (simp only [List.getElem?_toArray, List.getElem?_cons_succ, List.getElem?_cons_zero]; rfl)
    go_simp
    (go_at_call 19; refine (HLK.out _ (HM.out.below (Below.refl _ _).drew)).mono ?_; rintro e w2 ⟨rfl, hm2, hb2⟩)
    (try go_wp2_with fail)
    refine hK.out _ _ ?hS5 (fun hHeld' => ?rest5)
    case hS5 => ((try dsimp only); all_goals trivial)
    clear hK K
    (first | simp only [pA, pZ, pS] | simp only [pN] | skip)
    clear hHeld
    have hHeld := hHeld'
    clear hHeld'
    refine tk 3 hHeld ?_
    (try simp only [pA, pZ, pS])
    refine tk 4 hHeld ?_
    (try simp only [pA, pZ, pS])
    refine tn 5 hHeld ?_
    refine tn 6 hHeld ?_
    refine tn 7 hHeld ?_
    refine tn 8 hHeld ?_
    (try simp only [pA, pZ, pS])
    refine tn 9 hHeld ?_
    refine tn 10 hHeld ?_
    refine tn 11 hHeld ?_
    refine tn 12 hHeld ?_
    (try simp only [pA, pZ, pS])
    refine tn 13 hHeld ?_
    refine tn 14 hHeld ?_
    refine tn 15 hHeld ?_
    refine tn 16 hHeld ?_
    (try simp only [pA, pZ, pS])
    refine tn 17 hHeld ?_
    refine tn 18 hHeld ?_
    (try simp only [pA, pZ, pS])
    refine tk 19 hHeld ?_
    (try simp only [pA, pZ, pS])
    refine wpAnyH_done (by kernel_rfl) ?_ _
    refine NoPanic.normal ?_
    (try dsimp only)
    have HB2 := hidX hb2
    have M2 := hidX ((MkO.refl (some pb) w).drew.trans hm2)
    clear hb2 hm2
    go_wp2_with (first | (go_at_call 20; refine (HF.out _ HB2.out).mono ?_; rintro e w3 ⟨rfl, hm3, hb3⟩) | fail)
    go_ret
    exact MPost.err [] HOT.out (M2.out.trans hm3) rfl hb3
end Go.Proofs.YtdhpoagjmiligaaGreatDoor

namespace Go.Proofs.YtdhpoagjmiligaaGreatDoor
open Go.RowKit
attribute [local go_sem ↓] Go.wp_at_zero Go.wp_at_succ

theorem mfield2 (x0 x1 x2 x3 : Value) (w : World) : (Instr.field 72 (.agg #[x0, x1, x2, x3]) 2).run Tryz.prog w = .ok x2 w := by kernel_rfl
theorem mfield3 (x0 x1 x2 x3 : Value) (w : World) : (Instr.field 72 (.agg #[x0, x1, x2, x3]) 3).run Tryz.prog w = .ok x3 w := by kernel_rfl
def wdA (x : Wd) : Value := .agg #[.int .i64 x.kind, .int .i64 (x.pos : Int), .string (mkS x.text), .int .i64 x.num]
theorem ptW_sym {x : Wd} (h : WdOk x) (hk : x.kind = 5) : ptW x = x.text := by
  rcases h with ⟨ht, _, h0 | h0 | h0 | h0⟩ | ⟨hm, _⟩
  · omega
  · omega
  · omega
  · omega
  · have hn : ¬ (numOf x.text).isSome = true := fun e => by
      rw [hk] at hm
      unfold mkind at hm
      rw [if_pos e] at hm
      exact absurd hm (by decide)
    have hg : gSym x.text = true := by
      apply Classical.byContradiction
      intro hg
      rw [hk] at hm
      unfold mkind at hm
      rw [if_neg hn, if_neg hg] at hm
      revert hm
      repeat' split
      all_goals decide
    unfold ptW
    rw [hk, if_neg (by decide), if_neg (by decide), if_neg (by decide)]
    unfold ptext
    rw [if_neg hn, if_pos hg]
theorem rel97 : ∀ x, WdOk x → (x.kind = 5 ↔ pkW x = 97) := fun _ h => (pk_rel h).2.2.2.2.1
theorem rel48 : ∀ x, WdOk x → (x.kind = 3 ↔ pkW x = 48) := fun _ h => (pk_rel h).2.2.1
theorem rel40 : ∀ x, WdOk x → (x.kind = 1 ↔ pkW x = 40) := fun _ h => (pk_rel h).1
theorem rel41 : ∀ x, WdOk x → (x.kind = 2 ↔ pkW x = 41) := fun _ h => (pk_rel h).2.1
theorem look_same {w : World} {pb g : Nat} {W : List Wd} {c : Nat} {s : Ps} {R : List Value} (h : MB w pb g W c s R) {α : Type} (p : List Wd → Px α) (hp : ∀ l f, nextW l = .error f → p l = .error f) : onS (lookS s) p = onS s p := by
  cases s with
  | error f => rfl
  | ok l =>
    cases hr : nextW l with
    | error f =>
      rw [(look_err hr).2]
      simp [onS, hp l f hr]
    | ok q =>
      obtain ⟨x, r⟩ := q
      rw [(look_ok hr).2]
theorem take_bad {pk : Int} : ∀ l f, nextW l = .error f → takeW pk l = .error f := fun l f h => by unfold takeW; rw [h]
theorem class_bad {l : List Wd} {f : Flt} (h : takeW 97 l = .error f) : pClass l = .error f := by unfold pClass; rw [h]
theorem class_err {s : Ps} {f : Flt} (h : onS s (takeW 97) = .error f) : onS s pClass = .error f := by
  cases s with
  | error f' => injection h with h; rw [h]; rfl
  | ok l => exact class_bad h
set_option maxRecDepth 100000 in
set_option maxHeartbeats 3200000 in
theorem mclass_any (w : World) (pb g : Nat) (W : List Wd) (c : Nat) (s : Ps) (R : List Value) (h : MB w pb g W c s R) : Calls Tryz.prog 59 #[.pointer (some ⟨pb, 0, none⟩)] w (MPost w pb g W c R Rs1 (onS s pClass)) := by
  have hfd := mfield2
  have HM := hidX h
  have hpb := h.lt
  have hgl := h.glt
  have hfar := h.far
  have hcap := h.caps
  have hlen := h.len
  have HLK := hidX (fun u (hu : MB u pb g W c s R) => look_any u pb g W c s R hu)
  obtain ⟨K, hK⟩ : ∃ K, K = lookK s := ⟨_, rfl⟩
  unfold LkPost at HLK
  rw [← hK] at HLK
  clear h
  by_cases hk : K = 5
  · obtain ⟨x, r, hs, hxk, hot, hls, hxo, hxl⟩ := look_yes HM.out (by decide) (by decide) (hK.symm.trans hk)
    have HXT := hidX (ptW_sym hxo hxk)
    have HTW : Hid (takeW 97 (x :: r) = .ok (x, r)) := show _ = _ from by unfold takeW; rw [hot]; simp only; rw [if_pos ((rel97 x hxo).1 hxk)]
    rw [hls] at HLK
    have e1 : (K == 5) = true := by simp [hk]
    subst hs
    obtain ⟨hq, hkl, hrg, hd, hdr⟩ := HM.out.cells
    have c0 := cell_of hq (j := 0) rfl
    have c1 := cell_of hq (j := 1) rfl
    have c2 := hrg 2 _ rfl
    obtain ⟨k, hkk⟩ : ∃ k, k = kOf W r := ⟨_, rfl⟩
    rw [← hkk] at c1 c2 hkl
    have HKK := hidX hkk
    have hbq := beq_lit (mkS x.text) notT
    rw [bs_mkS] at hbq
    clear hk hK hxk hot hls hq hrg hd hdr hkk
    by_cases ht : x.text = notT
    · have HOT : Hid (onS (.ok (x :: r)) pClass = .error (3, x.pos)) := show _ = _ from by simp only [onS, pClass, HTW.out]; rw [if_pos (HXT.out.trans ht)]
      have HF := hidX (fun u (hu : MB u pb g W c (.ok (x :: r)) R) => fail_any u pb g W c (.ok (x :: r)) R 3 (by decide) hu)
      have HTK := hidX (fun u (hu : MB u pb g W c (.error (3, x.pos)) R) => mtake_any u pb g W c (.error (3, x.pos)) R 5 97 rel97 (by decide) (by decide) hu)
      rw [decide_eq_true ht] at hbq
      replace hbq : ((mkS x.text).toList == [110, 111, 116]) = true := hbq
      clear ht
      go_enter Tryz.func59, Tryz.ntmps59
      go_upto_region 1 with fail
      refine wp_region_noPanic ?_
      refine wp_region_held_drew (S := (fun u => u.cell? ⟨pb, 0, none⟩ = some (.slice (some ⟨g, 0, none⟩) W.length c) ∧ u.cell? ⟨pb, 1, none⟩ = some (.int .i64 (k : Int)) ∧ u.cell? ⟨g, k * 4 + 2, none⟩ = some (.string (mkS x.text)))) (by kernel_rfl) ?_ (fun hHeld => ?_)
      · (try dsimp only)
        exact ⟨c0, c1, c2⟩
      refine tk 0 hHeld ?_
      (try simp only [pA, pZ, pS])
      refine wpAnyH_ready (rs := [1]) (by kernel_rfl) (by simp) ?_
      refine AllReadyH.cons (o := ?o1) ?ho1 (fun K hK => ?step1) AllReadyH.nil
      case ho1 => (simp only [List.getElem?_toArray, List.getElem?_cons_succ, List.getElem?_cons_zero]; rfl)
      go_simp
      (go_at_call 19; refine (HLK.out _ (HM.out.below (Below.refl _ _).drew)).mono ?_; rintro e w2 ⟨rfl, hm2, hb2⟩; have hq2 := hb2.cells.1; have hg2 := hb2.cells.2.2.1 2 _ rfl; rw [← HKK.out] at hq2 hg2; have u0 := cell_of hq2 (j := 0) rfl; have u1 := cell_of hq2 (j := 1) rfl; clear hq2)
      (try go_wp2_with fail)
      refine hK.out _ _ ?hS1 (fun hHeld' => ?rest1)
      case hS1 => ((try dsimp only); exact ⟨u0, u1, hg2⟩)
      clear hK K
      (first | simp only [pA, pZ, pS] | simp only [pN] | skip)
      clear hHeld
      have hHeld := hHeld'
      clear hHeld'
      refine tk 2 hHeld ?_
      (try simp only [pA, pZ, pS])
      refine tk 3 hHeld ?_
      (try simp only [pA, pZ, pS])
      refine tk 4 hHeld ?_
      (try simp only [pA, pZ, pS])
      refine tk 5 hHeld ?_
      (try simp only [pA, pZ, pS])
      refine tk 6 hHeld ?_
      (try simp only [pA, pZ, pS])
      refine tk 7 hHeld ?_
      (try simp only [pA, pZ, pS])
      refine tk 8 hHeld ?_
      (try simp only [pA, pZ, pS])
      refine tk 9 hHeld ?_
      (try simp only [pA, pZ, pS])
      refine tk 10 hHeld ?_
      (try simp only [pA, pZ, pS])
      refine tk 11 hHeld ?_
      (try simp only [pA, pZ, pS])
      refine tk 12 hHeld ?_
      (try simp only [pA, pZ, pS])
      refine tk 13 hHeld ?_
      (try simp only [pA, pZ, pS])
      refine tk 14 hHeld ?_
      (try simp only [pA, pZ, pS])
      refine tk 15 hHeld ?_
      (try simp only [pA, pZ, pS])
      refine tk 16 hHeld ?_
      (try simp only [pA, pZ, pS])
      refine wpAnyH_done (by kernel_rfl) ?_ _
      refine NoPanic.normal ?_
      (try dsimp only)
      have HB2 := hidX hb2
      have M2 := hidX ((MkO.refl (some pb) w).drew.trans hm2)
      clear hb2 hm2 c0 c1 c2
      go_wp2_with (first | (go_at_call 20; refine (HF.out _ HB2.out).mono ?_; rintro e w3 ⟨rfl, hm3, hb3⟩) | (go_at_call 34; refine (HTK.out _ hb3).mono ?_; rintro e w4 ⟨hm4, ⟨y, he4, _⟩, hb4⟩; obtain rfl : e = .returned (wdA y) := he4; unfold wdA) | fail)
      go_ret
      exact MPost.err y.text HOT.out ((M2.out.trans hm3).trans hm4) rfl hb4
    · have HOT : Hid (onS (.ok (x :: r)) pClass = .ok (x.text, r)) := show _ = _ from by simp only [onS, pClass, HTW.out]; rw [if_neg (fun e => ht (HXT.out.symm.trans e)), HXT.out]
      have HTK := hidX (fun u (hu : MB u pb g W c (.ok (x :: r)) R) => mtake_any u pb g W c (.ok (x :: r)) R 5 97 rel97 (by decide) (by decide) hu)
      simp only [onS, HTW.out] at HTK
      rw [decide_eq_false ht] at hbq
      replace hbq : ((mkS x.text).toList == [110, 111, 116]) = false := hbq
      clear ht
      go_enter Tryz.func59, Tryz.ntmps59
      go_upto_region 1 with fail
      refine wp_region_noPanic ?_
      refine wp_region_held_drew (S := (fun u => u.cell? ⟨pb, 0, none⟩ = some (.slice (some ⟨g, 0, none⟩) W.length c) ∧ u.cell? ⟨pb, 1, none⟩ = some (.int .i64 (k : Int)) ∧ u.cell? ⟨g, k * 4 + 2, none⟩ = some (.string (mkS x.text)))) (by kernel_rfl) ?_ (fun hHeld => ?_)
      · (try dsimp only)
        exact ⟨c0, c1, c2⟩
      refine tk 0 hHeld ?_
      (try simp only [pA, pZ, pS])
      refine wpAnyH_ready (rs := [1]) (by kernel_rfl) (by simp) ?_
      refine AllReadyH.cons (o := ?o2) ?ho2 (fun K hK => ?step2) AllReadyH.nil
      case ho2 => (simp only [List.getElem?_toArray, List.getElem?_cons_succ, List.getElem?_cons_zero]; rfl)
      go_simp
      (go_at_call 19; refine (HLK.out _ (HM.out.below (Below.refl _ _).drew)).mono ?_; rintro e w2 ⟨rfl, hm2, hb2⟩; have hq2 := hb2.cells.1; have hg2 := hb2.cells.2.2.1 2 _ rfl; rw [← HKK.out] at hq2 hg2; have u0 := cell_of hq2 (j := 0) rfl; have u1 := cell_of hq2 (j := 1) rfl; clear hq2)
      (try go_wp2_with fail)
      refine hK.out _ _ ?hS2 (fun hHeld' => ?rest2)
      case hS2 => ((try dsimp only); exact ⟨u0, u1, hg2⟩)
      clear hK K
      (first | simp only [pA, pZ, pS] | simp only [pN] | skip)
      clear hHeld
      have hHeld := hHeld'
      clear hHeld'
      refine tk 2 hHeld ?_
      (try simp only [pA, pZ, pS])
      refine tk 3 hHeld ?_
      (try simp only [pA, pZ, pS])
      refine tk 4 hHeld ?_
      (try simp only [pA, pZ, pS])
      refine tk 5 hHeld ?_
      (try simp only [pA, pZ, pS])
      refine tk 6 hHeld ?_
      (try simp only [pA, pZ, pS])
      refine tk 7 hHeld ?_
      (try simp only [pA, pZ, pS])
      refine tk 8 hHeld ?_
      (try simp only [pA, pZ, pS])
      refine tk 9 hHeld ?_
      (try simp only [pA, pZ, pS])
      refine tk 10 hHeld ?_
      (try simp only [pA, pZ, pS])
      refine tk 11 hHeld ?_
      (try simp only [pA, pZ, pS])
      refine tk 12 hHeld ?_
      (try simp only [pA, pZ, pS])
      refine tk 13 hHeld ?_
      (try simp only [pA, pZ, pS])
      refine tk 14 hHeld ?_
      (try simp only [pA, pZ, pS])
      refine tk 15 hHeld ?_
      (try simp only [pA, pZ, pS])
      refine tk 16 hHeld ?_
      (try simp only [pA, pZ, pS])
      refine wpAnyH_done (by kernel_rfl) ?_ _
      refine NoPanic.normal ?_
      (try dsimp only)
      have HB2 := hidX hb2
      have M2 := hidX ((MkO.refl (some pb) w).drew.trans hm2)
      clear hb2 hm2 c0 c1 c2
      go_wp2_with (first | (go_at_call 34; refine (HTK.out _ HB2.out).mono ?_; rintro e w4 ⟨hm4, ⟨y, he4, hy4⟩, hb4⟩; obtain rfl : x = y := hy4 _ _ rfl; obtain rfl : e = .returned (wdA x) := he4; unfold wdA) | fail)
      go_ret
      exact MPost.good HOT.out (M2.out.trans hm4) rfl hb4
  · obtain ⟨f, hot, hfs⟩ := take_no (pk := 97) HM.out rel97 (fun e => hk (hK.trans e))
    have HOT := hidX (class_err hot)
    have e1 : (K == 5) = false := by simp [hk]
    have HTK := hidX (fun u (hu : MB u pb g W c (lookS s) R) => mtake_any u pb g W c (lookS s) R 5 97 rel97 (by decide) (by decide) hu)
    rw [look_same HM.out _ take_bad, hot] at HTK
    clear hk hK hot hfs
    go_enter Tryz.func59, Tryz.ntmps59
    go_upto_region 1 with fail
    refine wp_region_noPanic ?_
    refine wp_region_held_drew (S := (fun _ => True)) (by kernel_rfl) ?_ (fun hHeld => ?_)
    · (try dsimp only)
      all_goals trivial
    refine tk 0 hHeld ?_
    (try simp only [pA, pZ, pS])
    refine wpAnyH_ready (rs := [1]) (by kernel_rfl) (by simp) ?_
    refine AllReadyH.cons (o := ?o3) ?ho3 (fun K hK => ?step3) AllReadyH.nil
    case ho3 => (simp only [List.getElem?_toArray, List.getElem?_cons_succ, List.getElem?_cons_zero]; rfl)
    go_simp
    (go_at_call 19; refine (HLK.out _ (HM.out.below (Below.refl _ _).drew)).mono ?_; rintro e w2 ⟨rfl, hm2, hb2⟩)
    (try go_wp2_with fail)
    refine hK.out _ _ ?hS3 (fun hHeld' => ?rest3)
    case hS3 => ((try dsimp only); all_goals trivial)
    clear hK K
    (first | simp only [pA, pZ, pS] | simp only [pN] | skip)
    clear hHeld
    have hHeld := hHeld'
    clear hHeld'
    refine tk 2 hHeld ?_
    (try simp only [pA, pZ, pS])
    refine tk 3 hHeld ?_
    (try simp only [pA, pZ, pS])
    refine tn 4 hHeld ?_
    refine tn 5 hHeld ?_
    refine tn 6 hHeld ?_
    refine tn 7 hHeld ?_
    (try simp only [pA, pZ, pS])
    refine tn 8 hHeld ?_
    refine tn 9 hHeld ?_
    refine tn 10 hHeld ?_
    refine tn 11 hHeld ?_
    (try simp only [pA, pZ, pS])
    refine tn 12 hHeld ?_
    refine tn 13 hHeld ?_
    refine tn 14 hHeld ?_
    refine tn 15 hHeld ?_
    (try simp only [pA, pZ, pS])
    refine tk 16 hHeld ?_
    (try simp only [pA, pZ, pS])
    refine wpAnyH_done (by kernel_rfl) ?_ _
    refine NoPanic.normal ?_
    (try dsimp only)
    have HB2 := hidX hb2
    have M2 := hidX ((MkO.refl (some pb) w).drew.trans hm2)
    clear hb2 hm2
    go_wp2_with (first | (go_at_call 34; refine (HTK.out _ HB2.out).mono ?_; rintro e w4 ⟨hm4, ⟨y, he4, _⟩, hb4⟩; obtain rfl : e = .returned (wdA y) := he4; unfold wdA) | fail)
    go_ret
    exact MPost.err y.text HOT.out (M2.out.trans hm4) rfl hb4
/-- Whether one more item of a list with a limit follows. -/
def itemB (n m : Int) (s : Ps) : Bool := !(decide (lookK s = -1) || (decide (lookK s = 2) || (decide (lookK s = 0) || decide (m ≤ n))))
def itemS (n m : Int) (s : Ps) : Ps := if lookK s = -1 ∨ lookK s = 2 then lookS s else if lookK s = 0 then failS 3 (lookS s) else if m ≤ n then failS 4 (lookS s) else lookS s
def ItPost (w : World) (pb g : Nat) (W : List Wd) (c : Nat) (R : List Value) (n m : Int) (s : Ps) (e : Ending) (w' : World) : Prop := e = .returned (.bool (itemB n m s)) ∧ MkO (some pb) w w' ∧ MB w' pb g W c (itemS n m s) R
set_option maxRecDepth 100000 in
set_option maxHeartbeats 1600000 in
theorem mitem_any (w : World) (pb g : Nat) (W : List Wd) (c : Nat) (s : Ps) (R : List Value) (n m : Int) (h : MB w pb g W c s R) : Calls Tryz.prog 60 #[.pointer (some ⟨pb, 0, none⟩), .int .i64 n, .int .i64 m] w (ItPost w pb g W c R n m s) := by
  have HLK := hidX (look_any w pb g W c s R h)
  obtain ⟨K, hK⟩ : ∃ K, K = lookK s := ⟨_, rfl⟩
  unfold LkPost at HLK
  rw [← hK] at HLK
  have HF3 := hidX (fun u (hu : MB u pb g W c (lookS s) R) => fail_any u pb g W c (lookS s) R 3 (by decide) hu)
  have HF4 := hidX (fun u (hu : MB u pb g W c (lookS s) R) => fail_any u pb g W c (lookS s) R 4 (by decide) hu)
  clear h
  by_cases h1 : K = -1
  · have HP : Hid (itemB n m s = false ∧ itemS n m s = lookS s) := show _ ∧ _ from ⟨by simp [itemB, ← hK, h1], by simp [itemS, ← hK, h1]⟩
    clear hK
    subst h1
    go_enter Tryz.func60, Tryz.ntmps60
    go_wp2_with (first | (go_at_call 19; refine HLK.out.mono ?_; rintro e w2 ⟨rfl, hm2, hb2⟩) | fail)
    go_ret
    exact ⟨by rw [HP.out.1]; rfl, hm2, by rw [HP.out.2]; exact hb2⟩
  by_cases h2 : K = 2
  · have HP : Hid (itemB n m s = false ∧ itemS n m s = lookS s) := show _ ∧ _ from ⟨by simp [itemB, ← hK, h2], by simp [itemS, ← hK, h2]⟩
    clear hK h1
    subst h2
    go_enter Tryz.func60, Tryz.ntmps60
    go_wp2_with (first | (go_at_call 19; refine HLK.out.mono ?_; rintro e w2 ⟨rfl, hm2, hb2⟩) | fail)
    go_ret
    exact ⟨by rw [HP.out.1]; rfl, hm2, by rw [HP.out.2]; exact hb2⟩
  by_cases h0 : K = 0
  · have HP : Hid (itemB n m s = false ∧ itemS n m s = failS 3 (lookS s)) := show _ ∧ _ from ⟨by simp [itemB, ← hK, h0], by simp [itemS, ← hK, h0]⟩
    clear hK h1 h2
    subst h0
    go_enter Tryz.func60, Tryz.ntmps60
    go_wp2_with (first | (go_at_call 19; refine HLK.out.mono ?_; rintro e w2 ⟨rfl, hm2, hb2⟩) | (go_at_call 20; refine (HF3.out _ hb2).mono ?_; rintro e w3 ⟨rfl, hm3, hb3⟩) | fail)
    go_ret
    exact ⟨by rw [HP.out.1]; rfl, hm2.trans hm3, by rw [HP.out.2]; exact hb3⟩
  by_cases hm : m ≤ n
  · have HP : Hid (itemB n m s = false ∧ itemS n m s = failS 4 (lookS s)) := show _ ∧ _ from ⟨by simp [itemB, ← hK, hm], by unfold itemS; rw [← hK, if_neg (by omega), if_neg h0, if_pos hm]⟩
    clear hK
    go_enter Tryz.func60, Tryz.ntmps60
    go_wp2_with (first | (go_at_call 19; refine HLK.out.mono ?_; rintro e w2 ⟨rfl, hm2, hb2⟩) | (go_at_call 20; refine (HF4.out _ hb2).mono ?_; rintro e w3 ⟨rfl, hm3, hb3⟩) | fail)
    go_ret
    exact ⟨by rw [HP.out.1]; rfl, hm2.trans hm3, by rw [HP.out.2]; exact hb3⟩
  · have HP : Hid (itemB n m s = true ∧ itemS n m s = lookS s) := show _ ∧ _ from ⟨by simp [itemB, ← hK, h1, h2, h0, hm], by unfold itemS; rw [← hK, if_neg (by omega), if_neg h0, if_neg hm]⟩
    clear hK
    go_enter Tryz.func60, Tryz.ntmps60
    go_wp2_with (first | (go_at_call 19; refine HLK.out.mono ?_; rintro e w2 ⟨rfl, hm2, hb2⟩) | fail)
    go_ret
    exact ⟨by rw [HP.out.1]; rfl, hm2, by rw [HP.out.2]; exact hb2⟩
end Go.Proofs.YtdhpoagjmiligaaGreatDoor
