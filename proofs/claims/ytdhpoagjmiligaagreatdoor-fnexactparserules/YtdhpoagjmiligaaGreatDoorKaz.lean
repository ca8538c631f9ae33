/-
  OUR OWN TEXT. Mq5, Mq6, one behind the other.
-/
import Derived.Test.YtdhpoagjmiligaaGreatDoorKav
import Derived.Test.YtdhpoagjmiligaaGreatDoorKaw
namespace Go.Proofs.YtdhpoagjmiligaaGreatDoor
open Go.RowKit
attribute [local go_sem ↓] Go.wp_at_zero Go.wp_at_succ

theorem mNum_any (n : Int) (w : World) : Calls Tryz.prog 96 #[.int .i64 n] w fun e w' => e = .returned (.agg (V.cells (0, n, mkS [])).toArray) ∧ Below w.heap.size w w' := by
  go_enter Tryz.func96, Tryz.ntmps96
  go_wp2
  exact bodyPost_ret (v := .agg #[.int .i64 0, .int .i64 n, .string ⟨#[]⟩]) (by simp [results, Tryz.results96, go_sem]) rfl ⟨by simp [V.cells, V.kind, V.num, V.sym, mkS], (Below.refl _ _).alloc (Nat.le_refl _) _⟩
theorem mSym_any (t : Bs) (w : World) : Calls Tryz.prog 97 #[.string (mkS t)] w fun e w' => e = .returned (.agg (V.cells (1, 0, mkS t)).toArray) ∧ Below w.heap.size w w' := by
  go_enter Tryz.func97, Tryz.ntmps97
  go_wp2
  exact bodyPost_ret (v := .agg #[.int .i64 1, .int .i64 0, .string (mkS t)]) (by simp [results, Tryz.results97, go_sem]) rfl ⟨by simp [V.cells, V.kind, V.num, V.sym], (Below.refl _ _).alloc (Nat.le_refl _) _⟩
theorem lift_allocE {P : World → Prop} {w : World} {o : Obj} (h : ∀ wt, wt.heap[w.heap.size]? = some o → Below w.heap.size w wt → P wt) : P (w.alloc o).drew := h _ (heap_alloc_new _ _) ((Below.refl _ _).alloc (Nat.le_refl _) _).drew
/-- The word at hand, whatever came before. -/
theorem MB.now {w : World} {pb g : Nat} {W : List Wd} {c : Nat} {s : Ps} {R : List Value} (h : MB w pb g W c s R) : ∃ (k : Nat) (x : Wd), k < W.length ∧ w.cell? ⟨pb, 0, none⟩ = some (.slice (some ⟨g, 0, none⟩) W.length c) ∧ w.cell? ⟨pb, 1, none⟩ = some (.int .i64 (k : Int)) ∧ w.rangeAt g (k * 4) (wdV x) ∧ ∀ y r, s = .ok (y :: r) → x = y := by
  obtain ⟨k, cd, pos, hq, hk, hs⟩ := h.st
  have hx : W[k]? = some W[k] := List.getElem?_eq_getElem hk
  refine ⟨k, W[k], hk, cell_of hq (j := 0) rfl, cell_of hq (j := 1) rfl, h.wds k _ hx, fun y r e => ?_⟩
  subst e
  obtain ⟨x', r', e, hx', _⟩ := wdrop hs.2.2 hk
  injection e with e1 e2
  rw [hx] at hx'
  injection hx' with hx'
  rw [hx', ← e1]
theorem val_no {w : World} {pb g : Nat} {W : List Wd} {c : Nat} {s : Ps} {R : List Value} (hM : MB w pb g W c s R) (h3 : lookK s ≠ 3) (h5 : lookK s ≠ 5) : ∃ f, onS s pVal = .error f ∧ failS 3 (lookS s) = .error f := by
  cases s with
  | error f => exact ⟨f, rfl, rfl⟩
  | ok l =>
    obtain ⟨x, r, rfl, hx, _⟩ := hM.head
    cases hr : nextW (x :: r) with
    | error f =>
      refine ⟨f, ?_, ?_⟩
      · simp [onS, pVal, hr]
      · rw [(look_err hr).2]
        rfl
    | ok p =>
      obtain ⟨y, r'⟩ := p
      obtain ⟨rfl, _⟩ := nextW_head hr
      rw [(look_ok hr).1] at h3 h5
      refine ⟨(3, y.pos), ?_, ?_⟩
      · simp only [onS, pVal, hr]
        rw [if_neg (fun e => e.elim (fun e => h3 ((rel48 y hx).2 e)) (fun e => h5 ((rel97 y hx).2 e)))]
      · rw [(look_ok hr).2]
        rfl
def zV0 : V := (0, 0, mkS [])
set_option maxRecDepth 100000 in
set_option maxHeartbeats 3200000 in
theorem mvalue_any (w : World) (pb g : Nat) (W : List Wd) (c : Nat) (s : Ps) (R : List Value) (h : MB w pb g W c s R) : Calls Tryz.prog 61 #[.pointer (some ⟨pb, 0, none⟩)] w (MPost w pb g W c R Rv (onS s pVal)) := by
  have HM := hidX h
  have hpb := h.lt
  have hgl := h.glt
  have hfar := h.far
  have hcap := h.caps
  have hlen := h.len
  clear h
  go_enter Tryz.func61, Tryz.ntmps61
  go_upto_region 1 with fail
  refine lift_alloc ?_
  intro w1 hW1 hq1
  have hrb : w.heap.size < w1.heap.size := lt_of_block' hq1
  have hM1 := HM.out.below hW1
  obtain ⟨k, x0, hk, c0, c1, hrg, hx0⟩ := hM1.now
  have y0 := hrg 0 _ rfl
  have y1 := hrg 1 _ rfl
  have y2 := hrg 2 _ rfl
  have y3 := hrg 3 _ rfl
  simp only [Nat.add_zero] at y0
  have hp1 := hM1.lt
  have hg1 := hM1.glt
  have HX0 := hidX hx0
  have HQ1 := hidX hq1
  have M1 := hidX (MkO.of_below hW1 : MkO (some pb) w w1)
  have HM1 := hidX hM1
  clear hW1 hq1 hM1 hrg hx0
  go_region
  refine lift_allocE ?_
  intro w2 hq2 hW2
  have HLK := hidX (look_any w2 pb g W c s R (HM1.out.below hW2))
  have M2 := hidX (M1.out.trans (MkO.of_below hW2))
  have hl2 : w1.heap.size < w2.heap.size := lt_of_block' hq2
  have HRB := hidX ((hW2.block w.heap.size hrb).trans HQ1.out)
  have HQ2 := hidX hq2
  clear c0 c1 y0 y1 y2 y3 hW2 HQ1 HM1 hp1 hg1 hq2
  obtain ⟨K, hK⟩ : ∃ K, K = lookK s := ⟨_, rfl⟩
  unfold LkPost at HLK
  rw [← hK] at HLK
  by_cases h3 : K = 3
  · obtain ⟨x, r, hs, hxk, hot, hls, hxo, hxl⟩ := look_yes HM.out (by decide) (by decide) (hK.symm.trans h3)
    have hxx : x0 = x := HX0.out x r hs
    subst hxx
    have HOT : Hid (onS s pVal = .ok ((0, x0.num, mkS []), r)) := show _ = _ from by
      rw [hs]
      simp only [onS, pVal, hot]
      rw [(rel48 x0 hxo).1 hxk]
      simp [wVal]
    have HX : Hid (x0.kind ≠ 0) := show x0.kind ≠ 0 from by omega
    rw [hls] at HLK
    clear hK hs hxk hot hls
    subst h3
    go_upto_region 4 with (first | (go_at_call 19; refine HLK.out.mono ?_; rintro e w3 ⟨rfl, hm3, hb3⟩) | fail)
    obtain ⟨hq3, hkl3, hrg3, hd3, hdr3⟩ := hb3.cells
    have d1 := cell_of hq3 (j := 1) rfl
    have z1 := froz_of hq3 1
    have HQ3 := hidX hq3
    have HB3 := hidX hb3
    have M3 := hidX (M2.out.trans hm3)
    have hs3 := hm3.rest.size
    have HBX := hidX ((hm3.block w1.heap.size hl2 (fun e => by injection e; omega)).trans HQ2.out)
    have HRB3 := hidX ((hm3.block w.heap.size (by omega) (fun e => by injection e; omega)).trans HRB.out)
    clear hq3 hb3 hm3 hrg3 hd3 hdr3 HLK HQ2 HRB
    go_upto_region 5 with fail
    refine lift_setW HQ3.out ?_
    intro w4 hq4 ht4
    replace hq4 : w4.heap[pb]? = some (.cells (.slice (some ⟨g, 0, none⟩) W.length c :: .int .i64 ((kOf W r + 1 : Nat) : Int) :: .int .i64 0 :: .int .i64 ((0 : Nat) : Int) :: R).toArray 48 (0, 0)) := by
      rw [hq4]
      simp
    have HB4 := hidX (HB3.out.next HX.out ht4 hq4)
    have M4 := hidX (M3.out.trans ht4.mko)
    have hs4 := ht4.size
    have hbx4 := (ht4.block w1.heap.size (by omega)).trans HBX.out
    have hrb4 := (ht4.block w.heap.size (by omega)).trans HRB3.out
    have b3 := cell_of (L := [_, _, _, _]) hbx4 (j := 3) rfl
    have hs4' : w3.heap.size ≤ w4.heap.size := Nat.le_of_eq hs4.symm
    have HRB4 := hidX hrb4
    clear hq4 ht4 hbx4 hrb4 hs4 HQ3 HBX HRB3 d1 z1
    go_wp2_with (first | (go_at_call 96; refine (mNum_any _ _).mono ?_; rintro e w5 ⟨rfl, hb5⟩; have hrb5 := (hb5.block w.heap.size (by omega)).trans HRB4.out) | (refine wpList_store_blk (by rfl) 101 (.tmp 2) (.tmp 27) (by rfl) w.heap.size (V.cells (0, x0.num, mkS [])) (by rfl) (by rfl) _ 101 hrb5 (by rfl) infoVl (vcells_one _) ?_; intro w6 hb6 ht6) | fail)
    have hld := run_loadVar_mid (P := Tryz.prog) w6 w.heap.size 0 101 (V.cells (0, x0.num, mkS [])) _ (range_blk hb6.out) Tryz.underlying101 rfl infoVl
    (try go_frame)
    refine bodyPost_ret (v := .agg (V.cells (0, x0.num, mkS [])).toArray) (by simp [results, Tryz.results61, asAddr, hld]) rfl (MPost.good HOT.out ((M4.out.trans (MkO.of_below hb5)).turn ht6.out (Nat.le_refl _)) rfl ?_)
    exact (HB4.out.below hb5).turned ht6.out (by omega) (by omega)
  by_cases h5 : K = 5
  · obtain ⟨x, r, hs, hxk, hot, hls, hxo, hxl⟩ := look_yes HM.out (by decide) (by decide) (hK.symm.trans h5)
    have hxx : x0 = x := HX0.out x r hs
    subst hxx
    have HOT : Hid (onS s pVal = .ok ((1, 0, mkS x0.text), r)) := show _ = _ from by
      rw [hs]
      simp only [onS, pVal, hot]
      rw [(rel97 x0 hxo).1 hxk]
      simp [wVal, ptW_sym hxo hxk]
    have HX : Hid (x0.kind ≠ 0) := show x0.kind ≠ 0 from by omega
    rw [hls] at HLK
    clear hK hs hxk hot hls h3
    subst h5
    go_upto_region 7 with (first | (go_at_call 19; refine HLK.out.mono ?_; rintro e w3 ⟨rfl, hm3, hb3⟩) | fail)
    obtain ⟨hq3, hkl3, hrg3, hd3, hdr3⟩ := hb3.cells
    have d1 := cell_of hq3 (j := 1) rfl
    have z1 := froz_of hq3 1
    have HQ3 := hidX hq3
    have HB3 := hidX hb3
    have M3 := hidX (M2.out.trans hm3)
    have hs3 := hm3.rest.size
    have HBX := hidX ((hm3.block w1.heap.size hl2 (fun e => by injection e; omega)).trans HQ2.out)
    have HRB3 := hidX ((hm3.block w.heap.size (by omega) (fun e => by injection e; omega)).trans HRB.out)
    clear hq3 hb3 hm3 hrg3 hd3 hdr3 HLK HQ2 HRB
    go_upto_region 8 with fail
    refine lift_setW HQ3.out ?_
    intro w4 hq4 ht4
    replace hq4 : w4.heap[pb]? = some (.cells (.slice (some ⟨g, 0, none⟩) W.length c :: .int .i64 ((kOf W r + 1 : Nat) : Int) :: .int .i64 0 :: .int .i64 ((0 : Nat) : Int) :: R).toArray 48 (0, 0)) := by
      rw [hq4]
      simp
    have HB4 := hidX (HB3.out.next HX.out ht4 hq4)
    have M4 := hidX (M3.out.trans ht4.mko)
    have hs4 := ht4.size
    have hbx4 := (ht4.block w1.heap.size (by omega)).trans HBX.out
    have hrb4 := (ht4.block w.heap.size (by omega)).trans HRB3.out
    have b2 := cell_of (L := [_, _, _, _]) hbx4 (j := 2) rfl
    have hs4' : w3.heap.size ≤ w4.heap.size := Nat.le_of_eq hs4.symm
    have HRB4 := hidX hrb4
    clear hq4 ht4 hbx4 hrb4 hs4 HQ3 HBX HRB3 d1 z1
    go_wp2_with (first | (go_at_call 97; refine (mSym_any _ _).mono ?_; rintro e w5 ⟨rfl, hb5⟩; have hrb5 := (hb5.block w.heap.size (by omega)).trans HRB4.out) | (refine wpList_store_blk (by rfl) 101 (.tmp 2) (.tmp 39) (by rfl) w.heap.size (V.cells (1, 0, mkS x0.text)) (by rfl) (by rfl) _ 101 hrb5 (by rfl) infoVl (vcells_one _) ?_; intro w6 hb6 ht6) | fail)
    have hld := run_loadVar_mid (P := Tryz.prog) w6 w.heap.size 0 101 (V.cells (1, 0, mkS x0.text)) _ (range_blk hb6.out) Tryz.underlying101 rfl infoVl
    (try go_frame)
    refine bodyPost_ret (v := .agg (V.cells (1, 0, mkS x0.text)).toArray) (by simp [results, Tryz.results61, asAddr, hld]) rfl (MPost.good HOT.out ((M4.out.trans (MkO.of_below hb5)).turn ht6.out (Nat.le_refl _)) rfl ?_)
    exact (HB4.out.below hb5).turned ht6.out (by omega) (by omega)
  · obtain ⟨f, hot, hfs⟩ := val_no HM.out (fun e => h3 (hK.trans e)) (fun e => h5 (hK.trans e))
    have HOT := hidX hot
    have HF := hidX (fun u (hu : MB u pb g W c (lookS s) R) => fail_any u pb g W c (lookS s) R 3 (by decide) hu)
    rw [hfs] at HF
    have e3 : (K == 3) = false := by simp [h3]
    have e5 : (K == 5) = false := by simp [h5]
    clear hK hot hfs h3 h5
    go_upto_region 10 with (first | (go_at_call 19; refine HLK.out.mono ?_; rintro e w3 ⟨rfl, hm3, hb3⟩) | (go_at_call 20; refine (HF.out _ hb3).mono ?_; rintro e w4 ⟨rfl, hm4, hb4⟩) | fail)
    have hs3 := hm3.rest.size
    have hs4 := hm4.rest.size
    have hrb4 := (hm4.block w.heap.size (by omega) (fun e => by injection e; omega)).trans ((hm3.block w.heap.size (by omega) (fun e => by injection e; omega)).trans HRB.out)
    have HB4 := hidX hb4
    have M4 := hidX ((M2.out.trans hm3).trans hm4)
    clear hm3 hb3 hm4 hb4 HLK HF HRB HQ2
    go_wp2_with (first | (refine wpList_store_blk (by rfl) 101 (.tmp 2) (.tmp 42) (by rfl) w.heap.size (V.cells zV0) (by rfl) (by rfl) _ 101 hrb4 (by rfl) infoVl (vcells_one _) ?_; intro w6 hb6 ht6) | fail)
    have hld := run_loadVar_mid (P := Tryz.prog) w6 w.heap.size 0 101 (V.cells zV0) _ (range_blk hb6.out) Tryz.underlying101 rfl infoVl
    (try go_frame)
    refine bodyPost_ret (v := .agg (V.cells zV0).toArray) (by simp [results, Tryz.results61, asAddr, hld]) rfl (MPost.err zV0 HOT.out (M4.out.turn ht6.out (Nat.le_refl _)) rfl (HB4.out.turned ht6.out (by omega) (by omega)))
end Go.Proofs.YtdhpoagjmiligaaGreatDoor

namespace Go.Proofs.YtdhpoagjmiligaaGreatDoor
open Go.RowKit

theorem andP_ok {α β : Type} {x : α} {l : List Wd} {k : α → List Wd → Px β} : andP (.ok (x, l)) k = k x l := rfl
theorem oneM_in {kd : Int} {T : List Bs} {l l1 : List Wd} {t : Bs} (h : oneM kd T l = .ok (t, l1)) : t ∈ T := by
  unfold oneM at h
  cases hr : nextW l with
  | error f => rw [hr] at h; cases h
  | ok p =>
    obtain ⟨x, r⟩ := p
    rw [hr] at h
    simp only at h
    split at h
    · rename_i hc
      injection h with h
      injection h with h _
      rw [← h]
      exact hc.2
    · cases h
theorem preL_nil {α : Type} {M : List α} {l : List Wd} : preL M (.ok ([], l)) = .ok (M, l) := by simp [preL]
theorem kind_low {x : Wd} (h : WdOk x) : x.kind ≠ -1 := by
  rcases h with ⟨_, _, h | h | h | h⟩ | ⟨h, _⟩
  · omega
  · omega
  · omega
  · omega
  · rw [h]
    unfold mkind
    repeat' split
    all_goals decide
end Go.Proofs.YtdhpoagjmiligaaGreatDoor
