/-
  OUR OWN TEXT. The program's parser of rules: an action (written by genpt8.py's like: gen in NOTES).
-/
import Derived.Test.YtjjjagepnnbebaaGreatDoorKbh
namespace Go.Proofs.YtjjjagepnnbebaaGreatDoor
open Go.RowKit Go.Maps
attribute [local go_sem ↓] Go.wp_at_zero Go.wp_at_succ

theorem zeroAF (w : World) : (zeroValue 197).run Tryz.prog w = .ok .nilFunc w := by kernel_rfl
set_option maxRecDepth 100000 in
set_option maxHeartbeats 3200000 in
theorem paction_any (w : World) (B pb mb : Nat) (src : Bs) (a : Option Addr) (c : Nat) (l : List Wd) (cm rv lv : Value) (s : ES) (ea : Option Addr) (ec : Nat) (h : ExS w B pb src a c l (.map (some mb)) cm rv lv s ea ec) (hk : s.1.length ≤ s.2) (h60 : s.2 ≤ 60) (hM : FnMap w pb mb actF) (hne : pb < mb) : Calls Tryz.prog 95 #[.pointer (some ⟨pb, 0, none⟩)] w (EPost w B pb src a c (.map (some mb)) cm rv lv (obE s ea ec) (Rac w.heap.size) (pAct s l)) := by
  have HP := hidX h
  have HM := hidX hM
  have hpb := h.ps.lt
  have OB0 := hidX (fun k (hk : obE s ea ec = some k) => (HP.out.ow.lt k hk).2)
  have HK := hidX hk
  have H60 := hidX h60
  clear h hM hk h60
  go_enter Tryz.func95, Tryz.ntmps95
  go_upto_region 1 with fail
  refine lift_alloc ?_
  intro w1 hW1 hq1
  have P1 := hidX (HP.out.below hW1)
  have M1 := hidX (MkO.of_below hW1 : MkO (some pb) w w1)
  have HF := hidX (take_any w1 pb src a c l _ 97 P1.out.ps)
  have hrb : w.heap.size < w1.heap.size := lt_of_block' hq1
  have HQ1 := hidX hq1
  clear hW1 hq1
  cases hr : takeW 97 l with
  | error f =>
    have HT : Hid (pAct s l = .error f) := show _ = _ from by unfold pAct; rw [hr]; rfl
    rw [hr] at HF
    go_wp2_with (first | (go_at_call 85; refine HF.out.mono ?_; rintro e w2 ⟨hm2, rfl⟩; unfold fltE) | fail)
    exact ⟨rfl, EPost.err HT.out (MkX.of (M1.out.trans hm2))⟩
  | ok p =>
    obtain ⟨x, l1⟩ := p
    rw [hr] at HF
    have hxl := HP.out.ps.text (takeW_ok hr).1
    have HPC : Hid (pAct s l = if ptW x = haltT then aHalt s l1 else if ptW x = modT then aMod s l1 else if ptW x = dropT then aDrop s l1 else if ptW x = addT then aAdd s l1 else .error (3, x.pos)) := show _ = _ from by unfold pAct; rw [hr]; rfl
    go_upto_region 2 with (first | (go_at_call 85; refine HF.out.mono ?_; rintro e w2 ⟨hm2, hw2, hp2⟩; replace hw2 : e = .returned (pwA x) := hw2; subst hw2; unfold pwA) | fail)
    refine lift_alloc ?_
    intro w3 hW3 hq3
    obtain ⟨L, X, HLX, hLl, hq3, y0⟩ := wd_box hq3
    have MO3 := hidX ((M1.out.trans hm2).trans (MkO.of_below hW3))
    have M3 := hidX (MkX.of MO3.out.drew : MkX pb (obE s ea ec) w w3.drew)
    have P3 := hidX ((((P1.out.mko hm2 hp2).below hW3)).below ((Below.refl _ _).drew))
    have y2 := (wd_text HLX hq3).1
    have hs2 := hm2.rest.size
    have hqr := (hW3.block w.heap.size (by omega)).trans ((hm2.block w.heap.size hrb (fun e => by injection e; omega)).trans HQ1.out)
    have hl3 : w2.heap.size < w3.heap.size := lt_of_block' hq3
    have c3 := (hp2.below hW3).cell (j := 0) rfl
    have hlk := look_fn (t := 52) Tryz.underlying52 zeroAF (HM.out.mko MO3.out (Nat.ne_of_lt hne)) hxl
    have hlkd := look_fn (w := w3.drew) (t := 52) Tryz.underlying52 zeroAF (HM.out.mko MO3.out.drew (Nat.ne_of_lt hne)) hxl
    clear hW3 hm2 hp2 HF M1 y0 hr HQ1
    by_cases k1 : ptW x = haltT
    · have hcf : actF (ptW x) = some 39 := by unfold actF; rw [if_pos k1]
      have HC : Hid (pAct s l = aHalt s l1) := show _ = _ from by rw [HPC.out]; rw [if_pos k1]
      rw [hcf] at hlk hlkd
      unfold mth at hlk hlkd
      simp only [Option.isSome_some] at hlk hlkd
      have HS := hidX (phalt_any w3.drew B pb src a c l1 (.map (some mb)) cm rv lv s ea ec P3.out HK.out H60.out)
      clear hcf k1
      go_wp2_with fail
      go_region
      cases hs : aHalt s l1 with
      | error f =>
        rw [hs] at HS HC
        go_wp2_with (first | (go_at_call 39; refine HS.out.mono ?_; rintro e w4 ⟨hm4, rfl⟩; unfold fltE) | fail)
        exact ⟨rfl, EPost.err HC.out (M3.out.trans hm4 (.inl rfl))⟩
      | ok q =>
        obtain ⟨⟨y, s'⟩, l2⟩ := q
        rw [hs] at HS HC
        go_wp2_with (first | (go_at_call 39; refine HS.out.mono ?_; rintro e w4 ⟨hm4, ⟨la, lc, rfl, ho4⟩, ea4, ec4, hs4, hr4⟩; have s4 := hm4.rest.size; simp at s4; have hq4 := (hm4.block w.heap.size (by simp; omega) (by omega) (fun e => by have := OB0.out _ e; omega)).trans hqr) | (refine wpList_store_blk (by rfl) 73 (.tmp 2) (.tmp 24) (by rfl) w.heap.size (acL y (.slice la y.args.length lc)) (by rfl) (by rfl) _ 73 hq4 (by rfl) infoAcP (acL_one _ _ _ _) ?_; intro w5 hb5 ht5) | fail)
        have OB4 : ∀ k, obE s' ea4 ec4 = some k → k ≠ w.heap.size := fun k hk => by
          rcases hr4 with e | e
          · have := OB0.out k (e ▸ hk)
            omega
          · have := e k hk
            simp at this
            omega
        have hld := run_loadVar_mid (P := Tryz.prog) w5 w.heap.size 0 73 (acL y (.slice la y.args.length lc)) _ (range_blk hb5.out) Tryz.underlying73 rfl infoAcP
        (try go_frame)
        exact bodyPost_ret (v := .agg (acL y (.slice la y.args.length lc)).toArray) (by simp [results, Tryz.results95, asAddr, hld]) rfl (EPost.good HC.out ((M3.out.trans hm4 (.inl rfl)).turn ht5.out (Nat.le_refl _)) ⟨la, lc, rfl, owns_base (own_turn ho4 ht5.out hq4 (by decide)) (by simp; omega)⟩ (hs4.turned ht5.out (by omega) hq4 (fun _ => OB4)) (hr4.imp id fun h g hg => by have := h g hg; simp at this; omega))
    by_cases k2 : ptW x = modT
    · have hcf : actF (ptW x) = some 38 := by unfold actF; rw [if_neg k1, if_pos k2]
      have HC : Hid (pAct s l = aMod s l1) := show _ = _ from by rw [HPC.out]; rw [if_neg k1, if_pos k2]
      rw [hcf] at hlk hlkd
      unfold mth at hlk hlkd
      simp only [Option.isSome_some] at hlk hlkd
      have HS := hidX (pmod_any w3.drew B pb src a c l1 (.map (some mb)) cm rv lv s ea ec P3.out HK.out H60.out)
      clear hcf k1 k2
      go_wp2_with fail
      go_region
      cases hs : aMod s l1 with
      | error f =>
        rw [hs] at HS HC
        go_wp2_with (first | (go_at_call 38; refine HS.out.mono ?_; rintro e w4 ⟨hm4, rfl⟩; unfold fltE) | fail)
        exact ⟨rfl, EPost.err HC.out (M3.out.trans hm4 (.inl rfl))⟩
      | ok q =>
        obtain ⟨⟨y, s'⟩, l2⟩ := q
        rw [hs] at HS HC
        go_wp2_with (first | (go_at_call 38; refine HS.out.mono ?_; rintro e w4 ⟨hm4, ⟨la, lc, rfl, ho4⟩, ea4, ec4, hs4, hr4⟩; have s4 := hm4.rest.size; simp at s4; have hq4 := (hm4.block w.heap.size (by simp; omega) (by omega) (fun e => by have := OB0.out _ e; omega)).trans hqr) | (refine wpList_store_blk (by rfl) 73 (.tmp 2) (.tmp 24) (by rfl) w.heap.size (acL y (.slice la y.args.length lc)) (by rfl) (by rfl) _ 73 hq4 (by rfl) infoAcP (acL_one _ _ _ _) ?_; intro w5 hb5 ht5) | fail)
        have OB4 : ∀ k, obE s' ea4 ec4 = some k → k ≠ w.heap.size := fun k hk => by
          rcases hr4 with e | e
          · have := OB0.out k (e ▸ hk)
            omega
          · have := e k hk
            simp at this
            omega
        have hld := run_loadVar_mid (P := Tryz.prog) w5 w.heap.size 0 73 (acL y (.slice la y.args.length lc)) _ (range_blk hb5.out) Tryz.underlying73 rfl infoAcP
        (try go_frame)
        exact bodyPost_ret (v := .agg (acL y (.slice la y.args.length lc)).toArray) (by simp [results, Tryz.results95, asAddr, hld]) rfl (EPost.good HC.out ((M3.out.trans hm4 (.inl rfl)).turn ht5.out (Nat.le_refl _)) ⟨la, lc, rfl, owns_base (own_turn ho4 ht5.out hq4 (by decide)) (by simp; omega)⟩ (hs4.turned ht5.out (by omega) hq4 (fun _ => OB4)) (hr4.imp id fun h g hg => by have := h g hg; simp at this; omega))
    by_cases k3 : ptW x = dropT
    · have hcf : actF (ptW x) = some 37 := by unfold actF; rw [if_neg k1, if_neg k2, if_pos k3]
      have HC : Hid (pAct s l = aDrop s l1) := show _ = _ from by rw [HPC.out]; rw [if_neg k1, if_neg k2, if_pos k3]
      rw [hcf] at hlk hlkd
      unfold mth at hlk hlkd
      simp only [Option.isSome_some] at hlk hlkd
      have HS := hidX (pdrop_any w3.drew B pb src a c l1 (.map (some mb)) cm rv lv s ea ec P3.out HK.out H60.out)
      clear hcf k1 k2 k3
      go_wp2_with fail
      go_region
      cases hs : aDrop s l1 with
      | error f =>
        rw [hs] at HS HC
        go_wp2_with (first | (go_at_call 37; refine HS.out.mono ?_; rintro e w4 ⟨hm4, rfl⟩; unfold fltE) | fail)
        exact ⟨rfl, EPost.err HC.out (M3.out.trans hm4 (.inl rfl))⟩
      | ok q =>
        obtain ⟨⟨y, s'⟩, l2⟩ := q
        rw [hs] at HS HC
        go_wp2_with (first | (go_at_call 37; refine HS.out.mono ?_; rintro e w4 ⟨hm4, ⟨la, lc, rfl, ho4⟩, ea4, ec4, hs4, hr4⟩; have s4 := hm4.rest.size; simp at s4; have hq4 := (hm4.block w.heap.size (by simp; omega) (by omega) (fun e => by have := OB0.out _ e; omega)).trans hqr) | (refine wpList_store_blk (by rfl) 73 (.tmp 2) (.tmp 24) (by rfl) w.heap.size (acL y (.slice la y.args.length lc)) (by rfl) (by rfl) _ 73 hq4 (by rfl) infoAcP (acL_one _ _ _ _) ?_; intro w5 hb5 ht5) | fail)
        have OB4 : ∀ k, obE s' ea4 ec4 = some k → k ≠ w.heap.size := fun k hk => by
          rcases hr4 with e | e
          · have := OB0.out k (e ▸ hk)
            omega
          · have := e k hk
            simp at this
            omega
        have hld := run_loadVar_mid (P := Tryz.prog) w5 w.heap.size 0 73 (acL y (.slice la y.args.length lc)) _ (range_blk hb5.out) Tryz.underlying73 rfl infoAcP
        (try go_frame)
        exact bodyPost_ret (v := .agg (acL y (.slice la y.args.length lc)).toArray) (by simp [results, Tryz.results95, asAddr, hld]) rfl (EPost.good HC.out ((M3.out.trans hm4 (.inl rfl)).turn ht5.out (Nat.le_refl _)) ⟨la, lc, rfl, owns_base (own_turn ho4 ht5.out hq4 (by decide)) (by simp; omega)⟩ (hs4.turned ht5.out (by omega) hq4 (fun _ => OB4)) (hr4.imp id fun h g hg => by have := h g hg; simp at this; omega))
    by_cases k4 : ptW x = addT
    · have hcf : actF (ptW x) = some 36 := by unfold actF; rw [if_neg k1, if_neg k2, if_neg k3, if_pos k4]
      have HC : Hid (pAct s l = aAdd s l1) := show _ = _ from by rw [HPC.out]; rw [if_neg k1, if_neg k2, if_neg k3, if_pos k4]
      rw [hcf] at hlk hlkd
      unfold mth at hlk hlkd
      simp only [Option.isSome_some] at hlk hlkd
      have HS := hidX (padd_any w3.drew B pb src a c l1 (.map (some mb)) cm rv lv s ea ec P3.out HK.out H60.out)
      clear hcf k1 k2 k3 k4
      go_wp2_with fail
      go_region
      cases hs : aAdd s l1 with
      | error f =>
        rw [hs] at HS HC
        go_wp2_with (first | (go_at_call 36; refine HS.out.mono ?_; rintro e w4 ⟨hm4, rfl⟩; unfold fltE) | fail)
        exact ⟨rfl, EPost.err HC.out (M3.out.trans hm4 (.inl rfl))⟩
      | ok q =>
        obtain ⟨⟨y, s'⟩, l2⟩ := q
        rw [hs] at HS HC
        go_wp2_with (first | (go_at_call 36; refine HS.out.mono ?_; rintro e w4 ⟨hm4, ⟨la, lc, rfl, ho4⟩, ea4, ec4, hs4, hr4⟩; have s4 := hm4.rest.size; simp at s4; have hq4 := (hm4.block w.heap.size (by simp; omega) (by omega) (fun e => by have := OB0.out _ e; omega)).trans hqr) | (refine wpList_store_blk (by rfl) 73 (.tmp 2) (.tmp 24) (by rfl) w.heap.size (acL y (.slice la y.args.length lc)) (by rfl) (by rfl) _ 73 hq4 (by rfl) infoAcP (acL_one _ _ _ _) ?_; intro w5 hb5 ht5) | fail)
        have OB4 : ∀ k, obE s' ea4 ec4 = some k → k ≠ w.heap.size := fun k hk => by
          rcases hr4 with e | e
          · have := OB0.out k (e ▸ hk)
            omega
          · have := e k hk
            simp at this
            omega
        have hld := run_loadVar_mid (P := Tryz.prog) w5 w.heap.size 0 73 (acL y (.slice la y.args.length lc)) _ (range_blk hb5.out) Tryz.underlying73 rfl infoAcP
        (try go_frame)
        exact bodyPost_ret (v := .agg (acL y (.slice la y.args.length lc)).toArray) (by simp [results, Tryz.results95, asAddr, hld]) rfl (EPost.good HC.out ((M3.out.trans hm4 (.inl rfl)).turn ht5.out (Nat.le_refl _)) ⟨la, lc, rfl, owns_base (own_turn ho4 ht5.out hq4 (by decide)) (by simp; omega)⟩ (hs4.turned ht5.out (by omega) hq4 (fun _ => OB4)) (hr4.imp id fun h g hg => by have := h g hg; simp at this; omega))
    · have hcf : actF (ptW x) = none := by unfold actF; rw [if_neg k1, if_neg k2, if_neg k3, if_neg k4]
      have HC : Hid (pAct s l = .error (3, x.pos)) := show _ = _ from by rw [HPC.out]; rw [if_neg k1, if_neg k2, if_neg k3, if_neg k4]
      rw [hcf] at hlk hlkd
      simp only [Option.isSome_none] at hlk hlkd
      clear hcf k1 k2 k3 k4
      go_wp2_with fail
      go_region
      go_wp2_with (first | (refine wpList_load_blk (by rfl) 131 (.tmp 3) (by rfl) w2.heap.size L (by rfl) 131 (0, 0) hq3 _ Tryz.underlying131 rfl hLl.1 ?_) | (go_at_call 93; refine (fault_L HLX 3 _).mono ?_; rintro e w4 ⟨rfl, hb4⟩) | fail)
      exact ⟨rfl, EPost.err HC.out (M3.out.below hb4)⟩
end Go.Proofs.YtjjjagepnnbebaaGreatDoor
