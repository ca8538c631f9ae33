/-
  OUR OWN TEXT. Mr2, Mr3, one behind the other.
-/
import Derived.Test.YtdhpoagjmiligaaGreatDoorKbb
import Derived.Test.YtdhpoagjmiligaaGreatDoorKay
namespace Go.Proofs.YtdhpoagjmiligaaGreatDoor
open Go.RowKit
attribute [local go_sem ↓] Go.wp_at_zero Go.wp_at_succ

theorem term_und {x : Wd} {r : List Wd} (hx : WdOk x) (h : nextW (x :: r) = .ok (x, r)) (hk : x.kind = 6) (ht : x.text = [95]) : pTerm (x :: r) = .ok (⟨0, 0, mkS [], zVr⟩, r) := by
  unfold pTerm
  rw [h, andP_ok, if_pos ((und_rel hx).1 ⟨hk, ht⟩)]
theorem term_var {x : Wd} {r : List Wd} (hx : WdOk x) (h : nextW (x :: r) = .ok (x, r)) (hk : x.kind = 4) : pTerm (x :: r) = .ok (⟨2, 0, mkS x.text.tail, zVr⟩, r) := by
  have hp := (rel63 x hx).1 hk
  unfold pTerm
  rw [h, andP_ok, if_neg (by omega), if_neg (by omega), if_pos hp, ptW_var hx hk]
theorem term_test {x : Wd} {r : List Wd} (hx : WdOk x) (h : nextW (x :: r) = .ok (x, r)) (hk : x.kind = 1) : pTerm (x :: r) = pTest r := by
  have hp := (rel40 x hx).1 hk
  unfold pTerm
  rw [h, andP_ok, if_neg (by omega), if_neg (by omega), if_neg (by omega), if_pos hp]
theorem term_val {w : World} {pb g : Nat} {W : List Wd} {c : Nat} {s : Ps} {R : List Value} (hM : MB w pb g W c s R) (h6 : ∀ x r, s = .ok (x :: r) → ¬ (x.kind = 6 ∧ x.text = [95])) (h4 : lookK s ≠ 4) (h1 : lookK s ≠ 1) : onS s pTerm = andP (onS (lookS s) pVal) fun v l => .ok (⟨1, 0, mkS [], v⟩, l) := by
  cases s with
  | error f => rfl
  | ok l =>
    obtain ⟨x, r, rfl, hx, _⟩ := hM.head
    cases hr : nextW (x :: r) with
    | error f =>
      rw [(look_err hr).2]
      simp only [onS, pTerm, hr]
      rfl
    | ok p =>
      obtain ⟨y, r'⟩ := p
      obtain ⟨rfl, _⟩ := nextW_head hr
      rw [(look_ok hr).1] at h4 h1
      rw [(look_ok hr).2]
      have e95 : pkW y ≠ 95 := fun e => h6 y r rfl ((und_rel hx).2 e)
      have e63 : pkW y ≠ 63 := fun e => h4 ((rel63 y hx).2 e)
      have e40 : pkW y ≠ 40 := fun e => h1 ((rel40 y hx).2 e)
      simp only [onS, pTerm, pVal, hr, andP_ok, if_neg e95, if_neg e63, if_neg e40]
      split <;> rfl
theorem var_cons {x : Wd} (h : WdOk x) (hk : x.kind = 4) : 0 < x.text.length := by
  rcases h with ⟨_, _, h | h | h | h⟩ | ⟨h, _⟩
  · omega
  · omega
  · omega
  · omega
  · rw [hk] at h
    unfold mkind at h
    split at h
    · exact absurd h (by decide)
    · split at h
      · rename_i h2
        unfold isVarW at h2
        cases ht : x.text with
        | nil => rw [ht] at h2; simp at h2
        | cons b r => simp
      · repeat' split at h
        all_goals exact absurd h (by decide)
theorem mkS_sz (t : Bs) : (mkS t).size = t.length := by simp [mkS, ByteArray.size]
theorem mkS_tail {t : Bs} (h : 0 < t.length) : (mkS t).extract 1 (mkS t).size = mkS t.tail := by
  have h1 := bs_extract (mkS t) (by rw [mkS_sz]; exact h)
  rw [bs_mkS] at h1
  rw [← h1, mkS_bs]
/-- The test's number, k of them seen. -/
def opK (k : Nat) (t : Bs) : Int := if testIx t ≤ k then (testIx t : Int) else 0
theorem testIx_le (t : Bs) : testIx t ≤ 6 := by
  unfold testIx
  repeat' split
  all_goals omega
theorem opK_zero (t : Bs) : opK 0 t = 0 := by unfold opK; split <;> omega
theorem opK_six (t : Bs) : opK 6 t = (testIx t : Int) := by unfold opK; rw [if_pos (testIx_le t)]
theorem opK_hit {k : Nat} {t : Bs} (h : testIx t = k + 1) : opK (k + 1) t = (k : Int) + 1 := by unfold opK; rw [if_pos (by omega)]; omega
theorem opK_miss {k : Nat} {t : Bs} (h : testIx t ≠ k + 1) : opK (k + 1) t = opK k t := by
  unfold opK
  by_cases h1 : testIx t ≤ k
  · rw [if_pos (by omega), if_pos h1]
  · rw [if_neg (by omega), if_neg h1]
theorem test_one {r l : List Wd} {t : Bs} (hg : GoodL r) (h : oneM 6 opTx r = .ok (t, l)) : ∃ o, takeW 61 r = .ok (o, l) ∧ ptW o = t := by
  rw [one_test hg] at h
  cases ht : takeW 61 r with
  | error f => rw [ht] at h; cases h
  | ok q =>
    rw [ht, andP_ok] at h
    injection h with h
    injection h with h1 h2
    exact ⟨q.1, by rw [← h2], h1⟩
theorem test_none {r : List Wd} {f : Flt} (hg : GoodL r) (h : oneM 6 opTx r = .error f) : pTest r = .error f := by
  rw [one_test hg] at h
  unfold pTest
  cases ht : takeW 61 r with
  | error f' =>
    rw [ht] at h
    injection h with h
    rw [h]
    rfl
  | ok q => rw [ht, andP_ok] at h; cases h
theorem test_var {r r2 : List Wd} {x : Wd} {t : Bs} (hg : GoodL r) (h : oneM 6 opTx r = .ok (t, x :: r2)) (hx : WdOk x) (hk : x.kind = 4) (hn : nextW (x :: r2) = .ok (x, r2)) : (∃ f, pTest r = .error f ∧ takeW 41 r2 = .error f) ∨ ∃ y l, pTest r = .ok (⟨3, (testIx t : Int), mkS x.text.tail, zVr⟩, l) ∧ takeW 41 r2 = .ok (y, l) := by
  obtain ⟨o, h1, rfl⟩ := test_one hg h
  have hp := (rel63 x hx).1 hk
  have e : pTest r = andP (takeW 41 r2) fun _ l3 => .ok (⟨3, (testIx (ptW o) : Int), mkS x.text.tail, zVr⟩, l3) := by
    unfold pTest
    rw [h1, andP_ok, hn, andP_ok, if_neg (by omega), if_pos hp, ptW_var hx hk]
  rw [e]
  cases takeW 41 r2 with
  | error f => exact .inl ⟨f, rfl, rfl⟩
  | ok q => exact .inr ⟨q.1, q.2, rfl, rfl⟩
theorem test_val {r : List Wd} {s2 : Ps} {t : Bs} {v : V} (hg : GoodL r) (h2 : s2 = stS (oneM 6 opTx r)) (hk : lookK s2 ≠ 4) (ht : ∀ y l, oneM 6 opTx r = .ok (y, l) → y = t) (hv : ∀ y l, onS (lookS s2) pVal = .ok (y, l) → y = v) : (∃ f, pTest r = .error f ∧ onS (stS (onS (lookS s2) pVal)) (takeW 41) = .error f) ∨ ∃ y l, pTest r = .ok (⟨3, (testIx t : Int), mkS [], v⟩, l) ∧ onS (stS (onS (lookS s2) pVal)) (takeW 41) = .ok (y, l) := by
  subst h2
  cases ho : oneM 6 opTx r with
  | error f => exact .inl ⟨f, test_none hg ho, rfl⟩
  | ok q =>
    obtain ⟨t', l⟩ := q
    obtain rfl := ht t' l ho
    obtain ⟨o, h1, rfl⟩ := test_one hg ho
    have hgl : GoodL l := by have := Fine.take 61 r hg; rw [h1] at this; exact this
    rw [ho] at hk hv
    simp only [stS] at hk hv ⊢
    cases hr : nextW l with
    | error f =>
      rw [(look_err hr).2]
      refine .inl ⟨f, ?_, rfl⟩
      unfold pTest
      rw [h1, andP_ok, hr]
      rfl
    | ok p =>
      obtain ⟨x, r'⟩ := p
      have hx : WdOk x := hgl.2 x (nextW_mem hr)
      rw [(look_ok hr).1] at hk
      rw [(look_ok hr).2] at hv ⊢
      have e63 : pkW x ≠ 63 := fun e => hk ((rel63 x hx).2 e)
      simp only [onS] at hv ⊢
      by_cases hp : pkW x = 48 ∨ pkW x = 97
      · have hpv : pVal l = .ok (wVal (pkW x) x.num (ptW x), r') := by simp only [pVal, hr, if_pos hp]
        obtain rfl := hv _ _ hpv
        have e : pTest r = andP (takeW 41 r') fun _ l3 => .ok (⟨3, (testIx (ptW o) : Int), mkS [], wVal (pkW x) x.num (ptW x)⟩, l3) := by
          unfold pTest
          rw [h1, andP_ok, hr, andP_ok, if_pos hp]
        rw [e, hpv]
        simp only
        cases takeW 41 r' with
        | error f => exact .inl ⟨f, rfl, rfl⟩
        | ok q => exact .inr ⟨q.1, q.2, rfl, rfl⟩
      · have hpv : pVal l = .error (3, x.pos) := by simp only [pVal, hr, if_neg hp]
        refine .inl ⟨(3, x.pos), ?_, ?_⟩
        · unfold pTest
          rw [h1, andP_ok, hr, andP_ok, if_neg hp, if_neg e63]
        · rw [hpv]
end Go.Proofs.YtdhpoagjmiligaaGreatDoor

namespace Go.Proofs.YtdhpoagjmiligaaGreatDoor
open Go.RowKit
attribute [local go_sem ↓] Go.wp_at_zero Go.wp_at_succ

/-- In a test's search for its number. -/
structure TsAt (w wr : World) (pb g rb tb lb : Nat) (W : List Wd) (c : Nat) (R : List Value) (s2 : Ps) (t : Bs) (k : Nat) : Prop where
  mo : MkO (some pb) w wr
  mb : MB wr pb g W c s2 R
  rq : wr.heap[rb]? = some (.cells (tmC ⟨0, 0, mkS [], zVr⟩).toArray 111 (0, 0))
  tq : wr.heap[tb]? = some (.cells (tmC ⟨3, opK k t, mkS [], zVr⟩).toArray 111 (0, 0))
  tx : TxAt wr lb opTx
  ll : lb < wr.heap.size
set_option maxRecDepth 100000 in
set_option maxHeartbeats 6400000 in
theorem mterm_any (w : World) (pb g : Nat) (W : List Wd) (c : Nat) (s : Ps) (R : List Value) (h : MB w pb g W c s R) : Calls Tryz.prog 71 #[.pointer (some ⟨pb, 0, none⟩)] w (MPost w pb g W c R Rtm (onS s pTerm)) := by
  have hf2 := mfield2
  have HM := hidX h
  have hpb := h.lt
  have hgl := h.glt
  have hfar := h.far
  have hcap := h.caps
  have hlen := h.len
  clear h
  go_enter Tryz.func71, Tryz.ntmps71
  go_upto_region 1 with fail
  refine lift_alloc ?_
  intro w1 hW1 hq1
  have hrb : w.heap.size < w1.heap.size := lt_of_block' hq1
  have hM1 := HM.out.below hW1
  obtain ⟨k, x0, hk, c0, c1, hrg, hx0⟩ := hM1.now
  have y0 := hrg 0 _ rfl
  have y1 := hrg 1 _ rfl
  have y2 := hrg 2 _ rfl
  have y3 := hrg 3 _ rfl
  simp only [Nat.add_zero] at y0
  have hp1 := hM1.lt
  have hg1 := hM1.glt
  have HX0 := hidX hx0
  have HQ1 := hidX hq1
  have M1 := hidX (MkO.of_below hW1 : MkO (some pb) w w1)
  have HM1 := hidX hM1
  clear hW1 hq1 hM1 hrg hx0
  go_region
  refine lift_allocE ?_
  intro w2 hq2 hW2
  have HLK := hidX (look_any w2 pb g W c s R (HM1.out.below hW2))
  have M2 := hidX (M1.out.trans (MkO.of_below hW2))
  have hl2 : w1.heap.size < w2.heap.size := lt_of_block' hq2
  have HRB := hidX ((hW2.block w.heap.size hrb).trans HQ1.out)
  have HQ2 := hidX hq2
  clear c0 c1 y0 y1 y2 y3 hW2 HQ1 HM1 hp1 hg1 hq2
  obtain ⟨K, hK⟩ : ∃ K, K = lookK s := ⟨_, rfl⟩
  have HVA := hidX (fun u (hu : MB u pb g W c (lookS s) R) => mvalue_any u pb g W c (lookS s) R hu)
  unfold LkPost at HLK
  rw [← hK] at HLK
  by_cases h6 : K = 6
  · obtain ⟨x, r, hs, hxk, hot, hls, hxo, hxl⟩ := look_yes HM.out (by decide) (by decide) (hK.symm.trans h6)
    have hxx : x0 = x := HX0.out x r hs
    subst hxx
    have q95 := beq_lit (mkS x0.text) [95]
    rw [bs_mkS] at q95
    by_cases hu : x0.text = [95]
    · have HOT : Hid (onS s pTerm = .ok (⟨0, 0, mkS [], zVr⟩, r)) := show _ = _ from by rw [hs]; exact term_und hxo hot hxk hu
      have HX : Hid (x0.kind ≠ 0) := show x0.kind ≠ 0 from by omega
      rw [decide_eq_true hu] at q95
      rw [hls] at HLK
      clear hK hs hxk hot hls hu HVA
      subst h6
      go_upto_region 5 with (first | (go_at_call 19; refine HLK.out.mono ?_; rintro e w3 ⟨rfl, hm3, hb3⟩; have b2 := cell_of (L := [_, _, _, _]) ((hm3.block w1.heap.size hl2 (fun e => by injection e; omega)).trans HQ2.out) (j := 2) rfl) | fail)
      obtain ⟨hq3, hkl3, hrg3, hd3, hdr3⟩ := hb3.cells
      have d1 := cell_of hq3 (j := 1) rfl
      have z1 := froz_of hq3 1
      have HQ3 := hidX hq3
      have HB3 := hidX hb3
      have M3 := hidX (M2.out.trans hm3)
      have hs3 := hm3.rest.size
      have HBX := hidX ((hm3.block w1.heap.size hl2 (fun e => by injection e; omega)).trans HQ2.out)
      have HRB3 := hidX ((hm3.block w.heap.size (by omega) (fun e => by injection e; omega)).trans HRB.out)
      clear hq3 hb3 hm3 hrg3 hd3 hdr3 HLK HQ2 HRB
      go_upto_region 6 with fail
      refine lift_setW HQ3.out ?_
      intro w4 hq4 ht4
      replace hq4 : w4.heap[pb]? = some (.cells (.slice (some ⟨g, 0, none⟩) W.length c :: .int .i64 ((kOf W r + 1 : Nat) : Int) :: .int .i64 0 :: .int .i64 ((0 : Nat) : Int) :: R).toArray 48 (0, 0)) := by
        rw [hq4]
        simp
      have HB4 := hidX (HB3.out.next HX.out ht4 hq4)
      have M4 := hidX (M3.out.trans ht4.mko)
      have hs4 := ht4.size
      have hbx4 := (ht4.block w1.heap.size (by omega)).trans HBX.out
      have hrb4 := (ht4.block w.heap.size (by omega)).trans HRB3.out
      have b2 := cell_of (L := [_, _, _, _]) hbx4 (j := 2) rfl
      have hs4' : w3.heap.size ≤ w4.heap.size := Nat.le_of_eq hs4.symm
      have HRB4 := hidX hrb4
      clear hq4 ht4 hbx4 hs4 HQ3 HBX HRB3 d1 z1
      go_wp2_with (first | (refine wpList_store_blk (by rfl) 111 (.tmp 2) (.tmp 32) (by rfl) w.heap.size (tmC ⟨0, 0, mkS [], zVr⟩) (by rfl) (by rfl) _ 111 hrb4 (by rfl) infoTmP (tmC_one _) ?_; intro w6 hb6 ht6) | fail)
      have hld := run_loadVar_mid (P := Tryz.prog) w6 w.heap.size 0 111 (tmC ⟨0, 0, mkS [], zVr⟩) _ (range_blk hb6.out) Tryz.underlying111 rfl infoTmP
      (try go_frame)
      exact bodyPost_ret (v := .agg (tmC ⟨0, 0, mkS [], zVr⟩).toArray) (by simp [results, Tryz.results71, asAddr, hld]) rfl (MPost.good HOT.out (M4.out.turn ht6.out (Nat.le_refl _)) rfl (HB4.out.turned ht6.out (by omega) (by omega)))
    · have HOT := hidX (term_val HM.out (fun y r' e => by have := HX0.out y r' e; subst this; exact fun e' => hu e'.2) (by omega) (by omega))
      rw [decide_eq_false hu] at q95
      clear hK hs hxk hot hls hu hxo hxl
      subst h6
      go_wp2_with (first | (go_at_call 19; refine HLK.out.mono ?_; rintro e w3 ⟨rfl, hm3, hb3⟩; have b2 := cell_of (L := [_, _, _, _]) ((hm3.block w1.heap.size hl2 (fun e => by injection e; omega)).trans HQ2.out) (j := 2) rfl) | (go_at_call 61; refine (HVA.out _ hb3).mono ?_; rintro e w4 ⟨hm4, ⟨v, he4, hv4⟩, hb4⟩; obtain rfl : e = .returned (.agg #[.int .i64 v.kind, .int .i64 v.num, .string v.sym]) := he4; have hs3 := hm3.rest.size; have hrb4 := (hm4.block w.heap.size (by omega) (fun e => by injection e; omega)).trans ((hm3.block w.heap.size (by omega) (fun e => by injection e; omega)).trans HRB.out)) | (refine wpList_store_blk (by rfl) 111 (.tmp 2) (.tmp 89) (by rfl) w.heap.size (tmC ⟨1, 0, mkS [], v⟩) (by rfl) (by rfl) _ 111 hrb4 (by rfl) infoTmP (tmC_one _) ?_; intro w6 hb6 ht6) | fail)
      have hld := run_loadVar_mid (P := Tryz.prog) w6 w.heap.size 0 111 (tmC ⟨1, 0, mkS [], v⟩) _ (range_blk hb6.out) Tryz.underlying111 rfl infoTmP
      (try go_frame)
      refine bodyPost_ret (v := .agg (tmC ⟨1, 0, mkS [], v⟩).toArray) (by simp [results, Tryz.results71, asAddr, hld]) rfl ?_
      have M6 := ((M2.out.trans hm3).trans hm4).turn ht6.out (Nat.le_refl _)
      have HB6 := hb4.turned ht6.out (by omega) (by omega)
      rw [HOT.out]
      cases hpv : onS (lookS s) pVal with
      | error f =>
        rw [hpv] at HB6
        exact MPost.err ⟨1, 0, mkS [], v⟩ rfl M6 rfl HB6
      | ok q =>
        obtain ⟨v', l'⟩ := q
        obtain rfl := hv4 v' l' hpv
        rw [hpv] at HB6
        exact MPost.good rfl M6 rfl HB6
  by_cases h4 : K = 4
  · obtain ⟨x, r, hs, hxk, hot, hls, hxo, hxl⟩ := look_yes HM.out (by decide) (by decide) (hK.symm.trans h4)
    have hxx : x0 = x := HX0.out x r hs
    subst hxx
    have HOT : Hid (onS s pTerm = .ok (⟨2, 0, mkS x0.text.tail, zVr⟩, r)) := show _ = _ from by rw [hs]; exact term_var hxo hot hxk
    have HX : Hid (x0.kind ≠ 0) := show x0.kind ≠ 0 from by omega
    have hvc := var_cons hxo hxk
    have HTL := hidX (mkS_tail hvc)
    have hsz : 0 < (mkS x0.text).size := by rw [mkS_sz]; exact hvc
    have hsz2 : (mkS x0.text).size ≤ 20000 := by rw [mkS_sz]; exact hxl
    rw [hls] at HLK
    clear hK hs hxk hot hls h6 HVA hvc
    subst h4
    go_upto_region 8 with (first | (go_at_call 19; refine HLK.out.mono ?_; rintro e w3 ⟨rfl, hm3, hb3⟩; have b2 := cell_of (L := [_, _, _, _]) ((hm3.block w1.heap.size hl2 (fun e => by injection e; omega)).trans HQ2.out) (j := 2) rfl) | fail)
    obtain ⟨hq3, hkl3, hrg3, hd3, hdr3⟩ := hb3.cells
    have d1 := cell_of hq3 (j := 1) rfl
    have z1 := froz_of hq3 1
    have HQ3 := hidX hq3
    have HB3 := hidX hb3
    have M3 := hidX (M2.out.trans hm3)
    have hs3 := hm3.rest.size
    have HBX := hidX ((hm3.block w1.heap.size hl2 (fun e => by injection e; omega)).trans HQ2.out)
    have HRB3 := hidX ((hm3.block w.heap.size (by omega) (fun e => by injection e; omega)).trans HRB.out)
    clear hq3 hb3 hm3 hrg3 hd3 hdr3 HLK HQ2 HRB
    go_upto_region 9 with fail
    refine lift_setW HQ3.out ?_
    intro w4 hq4 ht4
    replace hq4 : w4.heap[pb]? = some (.cells (.slice (some ⟨g, 0, none⟩) W.length c :: .int .i64 ((kOf W r + 1 : Nat) : Int) :: .int .i64 0 :: .int .i64 ((0 : Nat) : Int) :: R).toArray 48 (0, 0)) := by
      rw [hq4]
      simp
    have HB4 := hidX (HB3.out.next HX.out ht4 hq4)
    have M4 := hidX (M3.out.trans ht4.mko)
    have hs4 := ht4.size
    have hbx4 := (ht4.block w1.heap.size (by omega)).trans HBX.out
    have hrb4 := (ht4.block w.heap.size (by omega)).trans HRB3.out
    have b2 := cell_of (L := [_, _, _, _]) hbx4 (j := 2) rfl
    have hs4' : w3.heap.size ≤ w4.heap.size := Nat.le_of_eq hs4.symm
    have HRB4 := hidX hrb4
    clear hq4 ht4 hbx4 hs4 HQ3 HBX HRB3 d1 z1
    go_wp2_with (first | (refine wpList_store_blk (by rfl) 111 (.tmp 2) (.tmp 45) (by rfl) w.heap.size (tmC ⟨2, 0, (mkS x0.text).extract 1 (mkS x0.text).size, zVr⟩) (by rfl) (by rfl) _ 111 hrb4 (by rfl) infoTmP (tmC_one _) ?_; intro w6 hb6 ht6) | fail)
    have hld := run_loadVar_mid (P := Tryz.prog) w6 w.heap.size 0 111 (tmC ⟨2, 0, (mkS x0.text).extract 1 (mkS x0.text).size, zVr⟩) _ (range_blk hb6.out) Tryz.underlying111 rfl infoTmP
    (try go_frame)
    exact bodyPost_ret (v := .agg (tmC ⟨2, 0, (mkS x0.text).extract 1 (mkS x0.text).size, zVr⟩).toArray) (by simp [results, Tryz.results71, asAddr, hld]) rfl (MPost.good HOT.out (M4.out.turn ht6.out (Nat.le_refl _)) (by rw [HTL.out]; rfl) (HB4.out.turned ht6.out (by omega) (by omega)))
  by_cases h1 : K = 1
  · obtain ⟨x, r, hs, hxk, hot, hls, hxo, hxl⟩ := look_yes HM.out (by decide) (by decide) (hK.symm.trans h1)
    have hxx : x0 = x := HX0.out x r hs
    subst hxx
    have HOT : Hid (onS s pTerm = pTest r) := show _ = _ from by rw [hs]; exact term_test hxo hot hxk
    have HX : Hid (x0.kind ≠ 0) := show x0.kind ≠ 0 from by omega
    rw [hls] at HLK
    clear hK hs hxk hot hls h6 h4 HVA
    subst h1
    go_upto_region 11 with (first | (go_at_call 19; refine HLK.out.mono ?_; rintro e w3 ⟨rfl, hm3, hb3⟩; have b2 := cell_of (L := [_, _, _, _]) ((hm3.block w1.heap.size hl2 (fun e => by injection e; omega)).trans HQ2.out) (j := 2) rfl) | fail)
    obtain ⟨hq3, hkl3, hrg3, hd3, hdr3⟩ := hb3.cells
    have d1 := cell_of hq3 (j := 1) rfl
    have z1 := froz_of hq3 1
    have HQ3 := hidX hq3
    have HB3 := hidX hb3
    have M3 := hidX (M2.out.trans hm3)
    have hs3 := hm3.rest.size
    have HBX := hidX ((hm3.block w1.heap.size hl2 (fun e => by injection e; omega)).trans HQ2.out)
    have HRB3 := hidX ((hm3.block w.heap.size (by omega) (fun e => by injection e; omega)).trans HRB.out)
    clear hq3 hb3 hm3 hrg3 hd3 hdr3 HLK HQ2 HRB
    go_upto_region 12 with fail
    refine lift_setW HQ3.out ?_
    intro w4 hq4 ht4
    replace hq4 : w4.heap[pb]? = some (.cells (.slice (some ⟨g, 0, none⟩) W.length c :: .int .i64 ((kOf W r + 1 : Nat) : Int) :: .int .i64 0 :: .int .i64 ((0 : Nat) : Int) :: R).toArray 48 (0, 0)) := by
      rw [hq4]
      simp
    have HB4 := hidX (HB3.out.next HX.out ht4 hq4)
    have M4 := hidX (M3.out.trans ht4.mko)
    have hs4 := ht4.size
    have hbx4 := (ht4.block w1.heap.size (by omega)).trans HBX.out
    have hrb4 := (ht4.block w.heap.size (by omega)).trans HRB3.out
    have b2 := cell_of (L := [_, _, _, _]) hbx4 (j := 2) rfl
    have hs4' : w3.heap.size ≤ w4.heap.size := Nat.le_of_eq hs4.symm
    have HRB4 := hidX hrb4
    clear hq4 ht4 hbx4 hs4 HQ3 HBX HRB3 d1 z1
    go_upto_region 13 with fail
    refine lift_alloc ?_
    intro w5 hW5 hq5
    have s5 : w4.heap.size < w5.heap.size := lt_of_block' hq5
    have HB5 := hidX (HB4.out.below hW5)
    have HGR := hidX HB4.out.good
    have M5 := hidX (M4.out.trans (MkO.of_below hW5))
    have HRB5 := hidX ((hW5.block w.heap.size (by omega)).trans HRB4.out)
    have HTB5 := hidX (show w5.heap[w4.heap.size]? = some (.cells (tmC ⟨3, 0, mkS [], zVr⟩).toArray 111 (0, 0)) from hq5)
    have HAL := hidX (fun o => (Below.refl _ _).alloc (Nat.le_refl _) o : ∀ o, Below w5.heap.size w5 (w5.alloc o))
    have HON := hidX (mone_any (w5.alloc (.cells #[.string ⟨#[61]⟩, .string ⟨#[33, 61]⟩, .string ⟨#[60]⟩, .string ⟨#[62]⟩, .string ⟨#[60, 61]⟩, .string ⟨#[62, 61]⟩] 9)) pb g w5.heap.size 6 W c (.ok r) R 6 opTx (by decide) (by decide) (opTx_new _) (by omega) (by simp) (by decide) (HB5.out.below (HAL.out _)))
    clear hW5 hq5 M4 HB4 HRB4 hrb4
    go_upto_region 14 with (first | (go_at_call 69; refine (tests_any _).mono ?_; rintro e wt ⟨rfl, rfl⟩) | (go_at_call 35; refine HON.out.mono ?_; rintro e w6 ⟨hm6, ⟨t, he6, ht6⟩, hb6⟩; obtain rfl : e = .returned (.string (mkS t)) := he6) | fail)
    obtain ⟨s2, hs2⟩ : ∃ s2, s2 = stS (oneM 6 opTx r) := ⟨_, rfl⟩
    have hb6' : MB w6 pb g W c s2 R := by rw [hs2]; exact hb6
    have s6 := hm6.rest.size
    simp at s6
    have AL6 := hidX (fun o => (Below.refl _ _).alloc (Nat.le_refl _) o : ∀ o, Below w6.heap.size w6 (w6.alloc o))
    have TS := hidX (show TsAt w (w6.alloc (.cells #[.string ⟨#[61]⟩, .string ⟨#[33, 61]⟩, .string ⟨#[60]⟩, .string ⟨#[62]⟩, .string ⟨#[60, 61]⟩, .string ⟨#[62, 61]⟩] 9)) pb g w.heap.size w4.heap.size w6.heap.size W c R s2 t 0 from
      ⟨((M5.out.trans (MkO.of_below (HAL.out _))).trans hm6).trans (MkO.of_below (AL6.out _)), hb6'.below (AL6.out _),
       ((AL6.out _).block w.heap.size (by omega)).trans ((hm6.block w.heap.size (by simp; omega) (fun e => by injection e; omega)).trans (((HAL.out _).block w.heap.size (by omega)).trans HRB5.out)),
       by rw [opK_zero]; exact ((AL6.out _).block w4.heap.size (by omega)).trans ((hm6.block w4.heap.size (by simp; omega) (fun e => by injection e; omega)).trans (((HAL.out _).block w4.heap.size (by omega)).trans HTB5.out)),
       opTx_new _, by simp⟩)
    have HS2 := hidX hs2
    have HT6 := hidX ht6
    have hl6 : w4.heap.size < w6.heap.size := by omega
    clear hm6 hb6 hb6' hs2 ht6 HON HAL AL6 M5 HB5 HRB5 HTB5
    go_wp2_with (first | (go_at_call 69; refine (tests_any _).mono ?_; rintro e wt ⟨rfl, rfl⟩) | fail)
    go_loopw [61] (fun i wr => ∃ (j : Nat), j ≤ 6 ∧ i = .int .i64 j ∧ TsAt w wr pb g w.heap.size w4.heap.size w6.heap.size W c R s2 t j) (fun i _ => 6 - (intOf i).toNat)
    case atStart => exact ⟨0, by omega, rfl, TS.out⟩
    case round =>
      obtain ⟨j, hj, rfl, hts⟩ := hrel
      have TR := hidX hts
      clear TS
      by_cases hjl : j < 6
      · obtain ⟨S, hS⟩ : ∃ S, S = mkS (opTx.getD j []) := ⟨_, rfl⟩
        have cS : wr.cell? ⟨w6.heap.size, j, none⟩ = some (.string S) := by
          rw [hS]
          refine hts.tx j _ ?_
          rw [List.getD_eq_getElem?_getD]
          have : j < opTx.length := hjl
          simp [List.getElem?_eq_getElem this]
        have hwl := hts.ll
        have z0 : (0 : Int) ≤ (j : Int) := by omega
        have z1 : (j : Int) < 6 := by omega
        have d1 := cell_of hts.tq (j := 1) rfl
        have f1 := froz_of hts.tq 1
        have hbl : w4.heap.size < wr.heap.size := lt_of_block' hts.tq
        have HS := hidX hS
        have hjw : IntKind.i64.wrap ((j : Int) + 1) = (j : Int) + 1 := by rw [IntKind.wrap_i64]; omega
        clear hts hS
        cases e1 : (S.toList == (mkS t).toList)
        · go_wp2_with fail
          have hne : testIx t ≠ j + 1 := fun e => by
            have := (testIx_at hjl t).2 e
            rw [HS.out, this] at e1
            simp at e1
          go_roundw
          case rel => exact ⟨j + 1, by omega, by go_num, TR.out.mo, TR.out.mb, TR.out.rq, by rw [opK_miss hne]; exact TR.out.tq, TR.out.tx, TR.out.ll⟩
          case measure => simp [intOf]; omega
        · go_upto_region 19 with fail
          have heq : testIx t = j + 1 := by
            rw [bytes_beq] at e1
            have e2 : S = mkS t := by simpa using e1
            refine (testIx_at hjl t).1 ?_
            rw [← bs_mkS (opTx.getD j []), ← HS.out, e2, bs_mkS]
          refine lift_setW TR.out.tq ?_
          intro w7 hq7 ht7
          have s7 := ht7.size
          have T7 := hidX (show TsAt w w7 pb g w.heap.size w4.heap.size w6.heap.size W c R s2 t (j + 1) from ⟨TR.out.mo.turn ht7 (by omega), TR.out.mb.turned ht7 (by omega) (by omega), (ht7.block w.heap.size (by omega)).trans TR.out.rq, by rw [opK_hit heq]; simpa [tmC] using hq7, TR.out.tx.block (ht7.block w6.heap.size (by omega)), by have := TR.out.ll; omega⟩)
          clear hq7 ht7 d1 f1 cS s7
          go_wp2_with fail
          go_roundw
          case rel => exact ⟨j + 1, by omega, by go_num, T7.out⟩
          case measure => simp [intOf]; omega
      · obtain rfl : j = 6 := by omega
        have HTQ : Hid (wr.heap[w4.heap.size]? = some (.cells (tmC ⟨3, (testIx t : Int), mkS [], zVr⟩).toArray 111 (0, 0))) := show _ = _ from by rw [← opK_six]; exact hts.tq
        obtain ⟨ix, hix⟩ : ∃ ix : Int, ix = (testIx t : Int) := ⟨_, rfl⟩
        rw [← hix] at HTQ
        have HIX := hidX hix
        have hbl : w4.heap.size < wr.heap.size := lt_of_block' hts.tq
        have HLK := hidX (look_any wr pb g W c s2 R hts.mb)
        have hgr : g < wr.heap.size := hts.mb.glt
        clear hts hix
        unfold LkPost at HLK
        obtain ⟨K2, hK2⟩ : ∃ K2, K2 = lookK s2 := ⟨_, rfl⟩
        rw [← hK2] at HLK
        by_cases hk4 : K2 = 4
        · obtain ⟨x, r2, hsx, hxk2, hot2, hls2, hxo2, hxl2⟩ := take_yes TR.out.mb rel63 (by decide) (by decide) (hK2.symm.trans hk4)
          have hnx : nextW (x :: r2) = .ok (x, r2) := by
            obtain ⟨x', r', e1, _, e2, _⟩ := look_yes TR.out.mb (by decide) (by decide) (hK2.symm.trans hk4)
            rw [hsx] at e1
            injection e1 with e1
            injection e1 with e1 e3
            subst e1
            subst e3
            exact e2
          have hon : oneM 6 opTx r = .ok (t, x :: r2) := by
            have h2 := HS2.out
            rw [hsx] at h2
            cases ho : oneM 6 opTx r with
            | error f => rw [ho] at h2; cases h2
            | ok q =>
              obtain ⟨t', l'⟩ := q
              rw [ho] at h2
              injection h2 with h2
              rw [← HT6.out t' l' ho, h2]
          have HE := hidX (test_var HGR.out hon hxo2 hxk2 hnx)
          have hot3 : onS (.ok (x :: r2)) (takeW 63) = .ok (x, r2) := by rw [← hsx]; exact hot2
          rw [hls2] at HLK
          have HTK := hidX (fun u (hu : MB u pb g W c (.ok (x :: r2)) R) => mtake_any u pb g W c (.ok (x :: r2)) R 4 63 rel63 (by decide) (by decide) hu)
          unfold MPost at HTK
          rw [hot3] at HTK
          have HTC := hidX (fun u (hu : MB u pb g W c (.ok r2) R) => mtake_any u pb g W c (.ok r2) R 2 41 rel41 (by decide) (by decide) hu)
          have hvc := var_cons hxo2 hxk2
          have HTL := hidX (mkS_tail hvc)
          have hsz : 0 < (mkS x.text).size := by rw [mkS_sz]; exact hvc
          have hsz2 : (mkS x.text).size ≤ 20000 := by rw [mkS_sz]; exact hxl2
          clear hK2 hsx hot2 hls2 hot3 hnx hon hvc
          subst hk4
          go_upto_region 21 with (first | (go_at_call 19; refine HLK.out.mono ?_; rintro e w7 ⟨rfl, hm7, hb7⟩) | fail)
          have s7 := hm7.rest.size
          have HTK7 := hidX (HTK.out _ hb7)
          clear HLK HTK hb7
          go_upto_region 23 with (first | (go_at_call 34; refine HTK7.out.mono ?_; rintro e w8 ⟨hm8, ⟨y8, he8, hy8⟩, hb8⟩; obtain rfl : e = .returned (wdA y8) := he8; obtain rfl := hy8 _ _ rfl; unfold wdA; have s8 := hm8.rest.size; have hq8 := (hm8.block w4.heap.size (by omega) (fun e => by injection e; omega)).trans ((hm7.block w4.heap.size (by omega) (fun e => by injection e; omega)).trans HTQ.out); have d2 := cell_of hq8 (j := 2) rfl; have f2 := froz_of hq8 2) | fail)
          refine lift_setW hq8 ?_
          intro w9 hq9 ht9
          have s9 := ht9.size
          have HQ9 := hidX (show w9.heap[w4.heap.size]? = some (.cells (tmC ⟨3, ix, (mkS x.text).extract 1 (mkS x.text).size, zVr⟩).toArray 111 (0, 0)) from by simpa [tmC] using hq9)
          have M9 := hidX (((TR.out.mo.trans hm7).trans hm8).turn ht9 (by omega))
          have R9 := hidX ((ht9.block w.heap.size (by omega)).trans ((hm8.block w.heap.size (by omega) (fun e => by injection e; omega)).trans ((hm7.block w.heap.size (by omega) (fun e => by injection e; omega)).trans TR.out.rq)))
          have HTC9 := hidX (HTC.out w9 (hb8.turned ht9 (by omega) (by omega)))
          have s49 : w4.heap.size < w9.heap.size := by omega
          have sg9 : g < w9.heap.size := by omega
          clear HTC HTK7 hq8 d2 f2 hq9 ht9 hm7 hm8 hb8
          go_upto_region 24 with (first | (go_at_call 34; refine HTC9.out.mono ?_; rintro e w10 ⟨hm10, ⟨y10, he10, _⟩, hb10⟩; obtain rfl : e = .returned (wdA y10) := he10; unfold wdA) | fail)
          have s10 := hm10.rest.size
          have hq10 := (hm10.block w4.heap.size s49 (fun e => by injection e; omega)).trans HQ9.out
          have hr10 := (hm10.block w.heap.size (by omega) (fun e => by injection e; omega)).trans R9.out
          have HB10 := hidX hb10
          have M10 := hidX (M9.out.trans hm10)
          clear hm10 hb10 HTC9
          go_wp2_with (first | (refine wpList_load_blk (by rfl) 111 (.tmp 4) (by rfl) w4.heap.size (tmC ⟨3, ix, (mkS x.text).extract 1 (mkS x.text).size, zVr⟩) (by rfl) 111 (0, 0) hq10 _ Tryz.underlying111 rfl infoTmP ?_) | (refine wpList_store_blk (by rfl) 111 (.tmp 2) (.tmp 86) (by rfl) w.heap.size (tmC ⟨3, ix, (mkS x.text).extract 1 (mkS x.text).size, zVr⟩) (by rfl) (by rfl) _ 111 hr10 (by rfl) infoTmP (tmC_one _) ?_; intro w11 hb11 ht11) | fail)
          have hld := run_loadVar_mid (P := Tryz.prog) w11 w.heap.size 0 111 (tmC ⟨3, ix, (mkS x.text).extract 1 (mkS x.text).size, zVr⟩) _ (range_blk hb11.out) Tryz.underlying111 rfl infoTmP
          (try go_frame)
          refine bodyPost_ret (v := .agg (tmC ⟨3, ix, (mkS x.text).extract 1 (mkS x.text).size, zVr⟩).toArray) (by simp [results, Tryz.results71, asAddr, hld]) rfl ?_
          have M11 := M10.out.turn ht11.out (Nat.le_refl _)
          have HB11 := HB10.out.turned ht11.out (by omega) (by omega)
          have EQ : onS s pTerm = pTest r := HOT.out
          rcases HE.out with ⟨f, h1, h2⟩ | ⟨y, l, h1, h2⟩
          · rw [show onS (.ok r2) (takeW 41) = .error f from h2] at HB11
            exact MPost.err ⟨3, ix, (mkS x.text).extract 1 (mkS x.text).size, zVr⟩ (EQ.trans h1) M11 rfl HB11
          · rw [show onS (.ok r2) (takeW 41) = .ok (y, l) from h2] at HB11
            exact MPost.good (EQ.trans h1) M11 (by rw [HTL.out, HIX.out]; rfl) HB11
        · have e4 : (K2 == 4) = false := by simp [hk4]
          have HVA := hidX (fun u (hu : MB u pb g W c (lookS s2) R) => mvalue_any u pb g W c (lookS s2) R hu)
          have HK4 : Hid (lookK s2 ≠ 4) := show _ ≠ _ from by rw [← hK2]; exact hk4
          clear hK2 hk4
          go_upto_region 22 with (first | (go_at_call 19; refine HLK.out.mono ?_; rintro e w7 ⟨rfl, hm7, hb7⟩) | fail)
          have s7 := hm7.rest.size
          have HV7 := hidX (HVA.out _ hb7)
          clear HLK HVA hb7
          go_upto_region 23 with (first | (go_at_call 61; refine HV7.out.mono ?_; rintro e w8 ⟨hm8, ⟨v, he8, hv8⟩, hb8⟩; obtain rfl : e = .returned (.agg #[.int .i64 v.kind, .int .i64 v.num, .string v.sym]) := he8; have s8 := hm8.rest.size; have hq8 := (hm8.block w4.heap.size (by omega) (fun e => by injection e; omega)).trans ((hm7.block w4.heap.size (by omega) (fun e => by injection e; omega)).trans HTQ.out); have d3 := cell_of hq8 (j := 3) rfl; have d4 := cell_of hq8 (j := 4) rfl; have d5 := cell_of hq8 (j := 5) rfl; have f3 := froz_of hq8 3; have f4 := froz_of hq8 4; have f5 := froz_of hq8 5) | fail)
          refine lift_set3o hq8 (o := 3) (by simp [tmC]) ?_
          intro w9 hq9 ht9
          have s9 := ht9.size
          have HQ9 := hidX (show w9.heap[w4.heap.size]? = some (.cells (tmC ⟨3, ix, mkS [], v⟩).toArray 111 (0, 0)) from by simpa [tmC] using hq9)
          have M9 := hidX (((TR.out.mo.trans hm7).trans hm8).turn ht9 (by omega))
          have R9 := hidX ((ht9.block w.heap.size (by omega)).trans ((hm8.block w.heap.size (by omega) (fun e => by injection e; omega)).trans ((hm7.block w.heap.size (by omega) (fun e => by injection e; omega)).trans TR.out.rq)))
          have HTC9 := hidX (mtake_any w9 pb g W c _ R 2 41 rel41 (by decide) (by decide) (hb8.turned ht9 (by omega) (by omega)))
          have HE := hidX (test_val HGR.out HS2.out HK4.out HT6.out hv8)
          have s49 : w4.heap.size < w9.heap.size := by omega
          have sg9 : g < w9.heap.size := by omega
          clear HV7 hq8 d3 d4 d5 f3 f4 f5 hq9 ht9 hm7 hm8 hb8
          go_upto_region 24 with (first | (go_at_call 34; refine HTC9.out.mono ?_; rintro e w10 ⟨hm10, ⟨y10, he10, _⟩, hb10⟩; obtain rfl : e = .returned (wdA y10) := he10; unfold wdA) | fail)
          have s10 := hm10.rest.size
          have hq10 := (hm10.block w4.heap.size s49 (fun e => by injection e; omega)).trans HQ9.out
          have hr10 := (hm10.block w.heap.size (by omega) (fun e => by injection e; omega)).trans R9.out
          have HB10 := hidX hb10
          have M10 := hidX (M9.out.trans hm10)
          clear hm10 hb10 HTC9
          go_wp2_with (first | (refine wpList_load_blk (by rfl) 111 (.tmp 4) (by rfl) w4.heap.size (tmC ⟨3, ix, mkS [], v⟩) (by rfl) 111 (0, 0) hq10 _ Tryz.underlying111 rfl infoTmP ?_) | (refine wpList_store_blk (by rfl) 111 (.tmp 2) (.tmp 86) (by rfl) w.heap.size (tmC ⟨3, ix, mkS [], v⟩) (by rfl) (by rfl) _ 111 hr10 (by rfl) infoTmP (tmC_one _) ?_; intro w11 hb11 ht11) | fail)
          have hld := run_loadVar_mid (P := Tryz.prog) w11 w.heap.size 0 111 (tmC ⟨3, ix, mkS [], v⟩) _ (range_blk hb11.out) Tryz.underlying111 rfl infoTmP
          (try go_frame)
          refine bodyPost_ret (v := .agg (tmC ⟨3, ix, mkS [], v⟩).toArray) (by simp [results, Tryz.results71, asAddr, hld]) rfl ?_
          have M11 := M10.out.turn ht11.out (Nat.le_refl _)
          have HB11 := HB10.out.turned ht11.out (by omega) (by omega)
          have EQ : onS s pTerm = pTest r := HOT.out
          rcases HE.out with ⟨f, h1, h2⟩ | ⟨y, l, h1, h2⟩
          · rw [h2] at HB11
            exact MPost.err ⟨3, ix, mkS [], v⟩ (EQ.trans h1) M11 rfl HB11
          · rw [h2] at HB11
            exact MPost.good (EQ.trans h1) M11 (by rw [HIX.out]; rfl) HB11
  · have HOT := hidX (term_val HM.out (fun y r' e => fun e' => h6 (by
      have := (look_ok (nextN (r := r') (show ¬ y.kind = 7 by omega) (show ¬ y.kind = 8 by omega))).1
      rw [hK, e, this]
      exact e'.1)) (by omega) (by omega))
    have e6 : (K == 6) = false := by simp [h6]
    have e4 : (K == 4) = false := by simp [h4]
    have e1 : (K == 1) = false := by simp [h1]
    clear hK h6 h4 h1
    go_wp2_with (first | (go_at_call 19; refine HLK.out.mono ?_; rintro e w3 ⟨rfl, hm3, hb3⟩; have b2 := cell_of (L := [_, _, _, _]) ((hm3.block w1.heap.size hl2 (fun e => by injection e; omega)).trans HQ2.out) (j := 2) rfl) | (go_at_call 61; refine (HVA.out _ hb3).mono ?_; rintro e w4 ⟨hm4, ⟨v, he4, hv4⟩, hb4⟩; obtain rfl : e = .returned (.agg #[.int .i64 v.kind, .int .i64 v.num, .string v.sym]) := he4; have hs3 := hm3.rest.size; have hrb4 := (hm4.block w.heap.size (by omega) (fun e => by injection e; omega)).trans ((hm3.block w.heap.size (by omega) (fun e => by injection e; omega)).trans HRB.out)) | (refine wpList_store_blk (by rfl) 111 (.tmp 2) (.tmp 89) (by rfl) w.heap.size (tmC ⟨1, 0, mkS [], v⟩) (by rfl) (by rfl) _ 111 hrb4 (by rfl) infoTmP (tmC_one _) ?_; intro w6 hb6 ht6) | fail)
    have hld := run_loadVar_mid (P := Tryz.prog) w6 w.heap.size 0 111 (tmC ⟨1, 0, mkS [], v⟩) _ (range_blk hb6.out) Tryz.underlying111 rfl infoTmP
    (try go_frame)
    refine bodyPost_ret (v := .agg (tmC ⟨1, 0, mkS [], v⟩).toArray) (by simp [results, Tryz.results71, asAddr, hld]) rfl ?_
    have M6 := ((M2.out.trans hm3).trans hm4).turn ht6.out (Nat.le_refl _)
    have HB6 := hb4.turned ht6.out (by omega) (by omega)
    rw [HOT.out]
    cases hpv : onS (lookS s) pVal with
    | error f =>
      rw [hpv] at HB6
      exact MPost.err ⟨1, 0, mkS [], v⟩ rfl M6 rfl HB6
    | ok q =>
      obtain ⟨v', l'⟩ := q
      obtain rfl := hv4 v' l' hpv
      rw [hpv] at HB6
      exact MPost.good rfl M6 rfl HB6
end Go.Proofs.YtdhpoagjmiligaaGreatDoor
