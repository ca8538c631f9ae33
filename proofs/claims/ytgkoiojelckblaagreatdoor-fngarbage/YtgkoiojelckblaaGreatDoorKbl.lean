/-
  OUR OWN TEXT. Pt8, Nr1, one behind the other.
-/
import Derived.Test.YtgkoiojelckblaaGreatDoorKbj
import Derived.Test.YtgkoiojelckblaaGreatDoorKbg
namespace Go.Proofs.YtgkoiojelckblaaGreatDoor
open Go.RowKit Go.Maps
attribute [local go_sem ↓] Go.wp_at_zero Go.wp_at_succ

theorem zeroAF (w : World) : (zeroValue 230).run Tryz.prog w = .ok .nilFunc w := by kernel_rfl
set_option maxRecDepth 100000 in
set_option maxHeartbeats 3200000 in
theorem paction_any (w : World) (B pb mb : Nat) (src : Bs) (a : Option Addr) (c : Nat) (l : List Wd) (cm rv lv : Value) (s : ES) (ea : Option Addr) (ec : Nat) (h : ExS w B pb src a c l (.map (some mb)) cm rv lv s ea ec) (hk : s.1.length ≤ s.2) (h60 : s.2 ≤ 60) (hM : FnMap w pb mb actF) (hne : pb < mb) : Calls Tryz.prog 72 #[.pointer (some ⟨pb, 0, none⟩)] w (EPost w B pb src a c (.map (some mb)) cm rv lv (obE s ea ec) (Rac w.heap.size) (pAct s l)) := by
  have HP := hidX h
  have HM := hidX hM
  have hpb := h.ps.lt
  have OB0 := hidX (fun k (hk : obE s ea ec = some k) => (HP.out.ow.lt k hk).2)
  have HK := hidX hk
  have H60 := hidX h60
  clear h hM hk h60
  go_enter Tryz.func72, Tryz.ntmps72
  go_upto_region 1 with fail
  refine lift_alloc ?_
  intro w1 hW1 hq1
  have P1 := hidX (HP.out.below hW1)
  have M1 := hidX (MkO.of_below hW1 : MkO (some pb) w w1)
  have HF := hidX (take_any w1 pb src a c l _ 97 P1.out.ps)
  have hrb : w.heap.size < w1.heap.size := lt_of_block' hq1
  have HQ1 := hidX hq1
  clear hW1 hq1
  cases hr : takeW 97 l with
  | error f =>
    have HT : Hid (pAct s l = .error f) := show _ = _ from by unfold pAct; rw [hr]; rfl
    rw [hr] at HF
    go_wp2_with (first | (go_at_call 62; refine HF.out.mono ?_; rintro e w2 ⟨hm2, rfl⟩; unfold fltE) | fail)
    exact ⟨rfl, EPost.err HT.out (MkX.of (M1.out.trans hm2))⟩
  | ok p =>
    obtain ⟨x, l1⟩ := p
    rw [hr] at HF
    have hxl := HP.out.ps.text (takeW_ok hr).1
    have HPC : Hid (pAct s l = if ptW x = haltT then aHalt s l1 else if ptW x = modT then aMod s l1 else if ptW x = dropT then aDrop s l1 else if ptW x = addT then aAdd s l1 else .error (3, x.pos)) := show _ = _ from by unfold pAct; rw [hr]; rfl
    go_upto_region 2 with (first | (go_at_call 62; refine HF.out.mono ?_; rintro e w2 ⟨hm2, hw2, hp2⟩; replace hw2 : e = .returned (pwA x) := hw2; subst hw2; unfold pwA) | fail)
    refine lift_alloc ?_
    intro w3 hW3 hq3
    obtain ⟨L, X, HLX, hLl, hq3, y0⟩ := wd_box hq3
    have MO3 := hidX ((M1.out.trans hm2).trans (MkO.of_below hW3))
    have M3 := hidX (MkX.of MO3.out.drew : MkX pb (obE s ea ec) w w3.drew)
    have P3 := hidX ((((P1.out.mko hm2 hp2).below hW3)).below ((Below.refl _ _).drew))
    have y2 := (wd_text HLX hq3).1
    have hs2 := hm2.rest.size
    have hqr := (hW3.block w.heap.size (by omega)).trans ((hm2.block w.heap.size hrb (fun e => by injection e; omega)).trans HQ1.out)
    have hl3 : w2.heap.size < w3.heap.size := lt_of_block' hq3
    have c3 := (hp2.below hW3).cell (j := 0) rfl
    have hlk := look_fn (t := 66) Tryz.underlying66 zeroAF (HM.out.mko MO3.out (Nat.ne_of_lt hne)) hxl
    have hlkd := look_fn (w := w3.drew) (t := 66) Tryz.underlying66 zeroAF (HM.out.mko MO3.out.drew (Nat.ne_of_lt hne)) hxl
    clear hW3 hm2 hp2 HF M1 y0 hr HQ1
    by_cases k1 : ptW x = haltT
    · have hcf : actF (ptW x) = some 31 := by unfold actF; rw [if_pos k1]
      have HC : Hid (pAct s l = aHalt s l1) := show _ = _ from by rw [HPC.out]; rw [if_pos k1]
      rw [hcf] at hlk hlkd
      unfold mth at hlk hlkd
      simp only [Option.isSome_some] at hlk hlkd
      have HS := hidX (phalt_any w3.drew B pb src a c l1 (.map (some mb)) cm rv lv s ea ec P3.out HK.out H60.out)
      clear hcf k1
      go_wp2_with fail
      go_region
      cases hs : aHalt s l1 with
      | error f =>
        rw [hs] at HS HC
        go_wp2_with (first | (go_at_call 31; refine HS.out.mono ?_; rintro e w4 ⟨hm4, rfl⟩; unfold fltE) | fail)
        exact ⟨rfl, EPost.err HC.out (M3.out.trans hm4 (.inl rfl))⟩
      | ok q =>
        obtain ⟨⟨y, s'⟩, l2⟩ := q
        rw [hs] at HS HC
        go_wp2_with (first | (go_at_call 31; refine HS.out.mono ?_; rintro e w4 ⟨hm4, ⟨la, lc, rfl, ho4⟩, ea4, ec4, hs4, hr4⟩; have s4 := hm4.rest.size; simp at s4; have hq4 := (hm4.block w.heap.size (by simp; omega) (by omega) (fun e => by have := OB0.out _ e; omega)).trans hqr) | (refine wpList_store_blk (by rfl) 53 (.tmp 2) (.tmp 24) (by rfl) w.heap.size (acL y (.slice la y.args.length lc)) (by rfl) (by rfl) _ 53 hq4 (by rfl) infoAcP (acL_one _ _ _ _) ?_; intro w5 hb5 ht5) | fail)
        have OB4 : ∀ k, obE s' ea4 ec4 = some k → k ≠ w.heap.size := fun k hk => by
          rcases hr4 with e | e
          · have := OB0.out k (e ▸ hk)
            omega
          · have := e k hk
            simp at this
            omega
        have hld := run_loadVar_mid (P := Tryz.prog) w5 w.heap.size 0 53 (acL y (.slice la y.args.length lc)) _ (range_blk hb5.out) Tryz.underlying53 rfl infoAcP
        (try go_frame)
        exact bodyPost_ret (v := .agg (acL y (.slice la y.args.length lc)).toArray) (by simp [results, Tryz.results72, asAddr, hld]) rfl (EPost.good HC.out ((M3.out.trans hm4 (.inl rfl)).turn ht5.out (Nat.le_refl _)) ⟨la, lc, rfl, owns_base (own_turn ho4 ht5.out hq4 (by decide)) (by simp; omega)⟩ (hs4.turned ht5.out (by omega) hq4 (fun _ => OB4)) (hr4.imp id fun h g hg => by have := h g hg; simp at this; omega))
    by_cases k2 : ptW x = modT
    · have hcf : actF (ptW x) = some 30 := by unfold actF; rw [if_neg k1, if_pos k2]
      have HC : Hid (pAct s l = aMod s l1) := show _ = _ from by rw [HPC.out]; rw [if_neg k1, if_pos k2]
      rw [hcf] at hlk hlkd
      unfold mth at hlk hlkd
      simp only [Option.isSome_some] at hlk hlkd
      have HS := hidX (pmod_any w3.drew B pb src a c l1 (.map (some mb)) cm rv lv s ea ec P3.out HK.out H60.out)
      clear hcf k1 k2
      go_wp2_with fail
      go_region
      cases hs : aMod s l1 with
      | error f =>
        rw [hs] at HS HC
        go_wp2_with (first | (go_at_call 30; refine HS.out.mono ?_; rintro e w4 ⟨hm4, rfl⟩; unfold fltE) | fail)
        exact ⟨rfl, EPost.err HC.out (M3.out.trans hm4 (.inl rfl))⟩
      | ok q =>
        obtain ⟨⟨y, s'⟩, l2⟩ := q
        rw [hs] at HS HC
        go_wp2_with (first | (go_at_call 30; refine HS.out.mono ?_; rintro e w4 ⟨hm4, ⟨la, lc, rfl, ho4⟩, ea4, ec4, hs4, hr4⟩; have s4 := hm4.rest.size; simp at s4; have hq4 := (hm4.block w.heap.size (by simp; omega) (by omega) (fun e => by have := OB0.out _ e; omega)).trans hqr) | (refine wpList_store_blk (by rfl) 53 (.tmp 2) (.tmp 24) (by rfl) w.heap.size (acL y (.slice la y.args.length lc)) (by rfl) (by rfl) _ 53 hq4 (by rfl) infoAcP (acL_one _ _ _ _) ?_; intro w5 hb5 ht5) | fail)
        have OB4 : ∀ k, obE s' ea4 ec4 = some k → k ≠ w.heap.size := fun k hk => by
          rcases hr4 with e | e
          · have := OB0.out k (e ▸ hk)
            omega
          · have := e k hk
            simp at this
            omega
        have hld := run_loadVar_mid (P := Tryz.prog) w5 w.heap.size 0 53 (acL y (.slice la y.args.length lc)) _ (range_blk hb5.out) Tryz.underlying53 rfl infoAcP
        (try go_frame)
        exact bodyPost_ret (v := .agg (acL y (.slice la y.args.length lc)).toArray) (by simp [results, Tryz.results72, asAddr, hld]) rfl (EPost.good HC.out ((M3.out.trans hm4 (.inl rfl)).turn ht5.out (Nat.le_refl _)) ⟨la, lc, rfl, owns_base (own_turn ho4 ht5.out hq4 (by decide)) (by simp; omega)⟩ (hs4.turned ht5.out (by omega) hq4 (fun _ => OB4)) (hr4.imp id fun h g hg => by have := h g hg; simp at this; omega))
    by_cases k3 : ptW x = dropT
    · have hcf : actF (ptW x) = some 29 := by unfold actF; rw [if_neg k1, if_neg k2, if_pos k3]
      have HC : Hid (pAct s l = aDrop s l1) := show _ = _ from by rw [HPC.out]; rw [if_neg k1, if_neg k2, if_pos k3]
      rw [hcf] at hlk hlkd
      unfold mth at hlk hlkd
      simp only [Option.isSome_some] at hlk hlkd
      have HS := hidX (pdrop_any w3.drew B pb src a c l1 (.map (some mb)) cm rv lv s ea ec P3.out HK.out H60.out)
      clear hcf k1 k2 k3
      go_wp2_with fail
      go_region
      cases hs : aDrop s l1 with
      | error f =>
        rw [hs] at HS HC
        go_wp2_with (first | (go_at_call 29; refine HS.out.mono ?_; rintro e w4 ⟨hm4, rfl⟩; unfold fltE) | fail)
        exact ⟨rfl, EPost.err HC.out (M3.out.trans hm4 (.inl rfl))⟩
      | ok q =>
        obtain ⟨⟨y, s'⟩, l2⟩ := q
        rw [hs] at HS HC
        go_wp2_with (first | (go_at_call 29; refine HS.out.mono ?_; rintro e w4 ⟨hm4, ⟨la, lc, rfl, ho4⟩, ea4, ec4, hs4, hr4⟩; have s4 := hm4.rest.size; simp at s4; have hq4 := (hm4.block w.heap.size (by simp; omega) (by omega) (fun e => by have := OB0.out _ e; omega)).trans hqr) | (refine wpList_store_blk (by rfl) 53 (.tmp 2) (.tmp 24) (by rfl) w.heap.size (acL y (.slice la y.args.length lc)) (by rfl) (by rfl) _ 53 hq4 (by rfl) infoAcP (acL_one _ _ _ _) ?_; intro w5 hb5 ht5) | fail)
        have OB4 : ∀ k, obE s' ea4 ec4 = some k → k ≠ w.heap.size := fun k hk => by
          rcases hr4 with e | e
          · have := OB0.out k (e ▸ hk)
            omega
          · have := e k hk
            simp at this
            omega
        have hld := run_loadVar_mid (P := Tryz.prog) w5 w.heap.size 0 53 (acL y (.slice la y.args.length lc)) _ (range_blk hb5.out) Tryz.underlying53 rfl infoAcP
        (try go_frame)
        exact bodyPost_ret (v := .agg (acL y (.slice la y.args.length lc)).toArray) (by simp [results, Tryz.results72, asAddr, hld]) rfl (EPost.good HC.out ((M3.out.trans hm4 (.inl rfl)).turn ht5.out (Nat.le_refl _)) ⟨la, lc, rfl, owns_base (own_turn ho4 ht5.out hq4 (by decide)) (by simp; omega)⟩ (hs4.turned ht5.out (by omega) hq4 (fun _ => OB4)) (hr4.imp id fun h g hg => by have := h g hg; simp at this; omega))
    by_cases k4 : ptW x = addT
    · have hcf : actF (ptW x) = some 28 := by unfold actF; rw [if_neg k1, if_neg k2, if_neg k3, if_pos k4]
      have HC : Hid (pAct s l = aAdd s l1) := show _ = _ from by rw [HPC.out]; rw [if_neg k1, if_neg k2, if_neg k3, if_pos k4]
      rw [hcf] at hlk hlkd
      unfold mth at hlk hlkd
      simp only [Option.isSome_some] at hlk hlkd
      have HS := hidX (padd_any w3.drew B pb src a c l1 (.map (some mb)) cm rv lv s ea ec P3.out HK.out H60.out)
      clear hcf k1 k2 k3 k4
      go_wp2_with fail
      go_region
      cases hs : aAdd s l1 with
      | error f =>
        rw [hs] at HS HC
        go_wp2_with (first | (go_at_call 28; refine HS.out.mono ?_; rintro e w4 ⟨hm4, rfl⟩; unfold fltE) | fail)
        exact ⟨rfl, EPost.err HC.out (M3.out.trans hm4 (.inl rfl))⟩
      | ok q =>
        obtain ⟨⟨y, s'⟩, l2⟩ := q
        rw [hs] at HS HC
        go_wp2_with (first | (go_at_call 28; refine HS.out.mono ?_; rintro e w4 ⟨hm4, ⟨la, lc, rfl, ho4⟩, ea4, ec4, hs4, hr4⟩; have s4 := hm4.rest.size; simp at s4; have hq4 := (hm4.block w.heap.size (by simp; omega) (by omega) (fun e => by have := OB0.out _ e; omega)).trans hqr) | (refine wpList_store_blk (by rfl) 53 (.tmp 2) (.tmp 24) (by rfl) w.heap.size (acL y (.slice la y.args.length lc)) (by rfl) (by rfl) _ 53 hq4 (by rfl) infoAcP (acL_one _ _ _ _) ?_; intro w5 hb5 ht5) | fail)
        have OB4 : ∀ k, obE s' ea4 ec4 = some k → k ≠ w.heap.size := fun k hk => by
          rcases hr4 with e | e
          · have := OB0.out k (e ▸ hk)
            omega
          · have := e k hk
            simp at this
            omega
        have hld := run_loadVar_mid (P := Tryz.prog) w5 w.heap.size 0 53 (acL y (.slice la y.args.length lc)) _ (range_blk hb5.out) Tryz.underlying53 rfl infoAcP
        (try go_frame)
        exact bodyPost_ret (v := .agg (acL y (.slice la y.args.length lc)).toArray) (by simp [results, Tryz.results72, asAddr, hld]) rfl (EPost.good HC.out ((M3.out.trans hm4 (.inl rfl)).turn ht5.out (Nat.le_refl _)) ⟨la, lc, rfl, owns_base (own_turn ho4 ht5.out hq4 (by decide)) (by simp; omega)⟩ (hs4.turned ht5.out (by omega) hq4 (fun _ => OB4)) (hr4.imp id fun h g hg => by have := h g hg; simp at this; omega))
    · have hcf : actF (ptW x) = none := by unfold actF; rw [if_neg k1, if_neg k2, if_neg k3, if_neg k4]
      have HC : Hid (pAct s l = .error (3, x.pos)) := show _ = _ from by rw [HPC.out]; rw [if_neg k1, if_neg k2, if_neg k3, if_neg k4]
      rw [hcf] at hlk hlkd
      simp only [Option.isSome_none] at hlk hlkd
      clear hcf k1 k2 k3 k4
      go_wp2_with fail
      go_region
      go_wp2_with (first | (refine wpList_load_blk (by rfl) 146 (.tmp 3) (by rfl) w2.heap.size L (by rfl) 146 (0, 0) hq3 _ Tryz.underlying146 rfl hLl.1 ?_) | (go_at_call 70; refine (fault_L HLX 3 _).mono ?_; rintro e w4 ⟨rfl, hb4⟩) | fail)
      exact ⟨rfl, EPost.err HC.out (M3.out.below hb4)⟩
end Go.Proofs.YtgkoiojelckblaaGreatDoor

namespace Go.Proofs.YtgkoiojelckblaaGreatDoor
open Go.RowKit

/-- How an element lies in memory: its cells beside its row; how long that is, its cells; types and sizes of both. -/
structure NK (α : Type) where
  cell : α → Value → List Value
  len : α → Nat
  inner : α → List Value
  t : TypeId
  m : Nat
  e : TypeId
  k : Nat
/-- A row that is owned, each element with a row of its own. -/
structure NRow {α : Type} (K : NK α) (w : World) (B : Nat) (a : Option Addr) (c : Nat) (M : List (α × Value)) : Prop where
  row : w.ownsRow B K.t K.m (.slice a M.length c) M.length (M.flatMap fun x => K.cell x.1 x.2)
  all : ∀ x ∈ M, ∃ la lc, x.2 = .slice la (K.len x.1) lc ∧ w.ownsRow B K.e K.k x.2 (K.len x.1) (K.inner x.1)
  pair : M.Pairwise fun x y => Apart x.2 y.2
variable {α : Type} {K : NK α} {w w' : World} {B : Nat} {a : Option Addr} {c : Nat} {M : List (α × Value)}
theorem NRow.nil (K : NK α) (w : World) (B : Nat) : NRow K w B none 0 [] := ⟨World.ownsRow_nil _ _ _ _, fun x hx => by simp at hx, List.Pairwise.nil⟩
/-- Carried where their blocks stand. -/
theorem NRow.keep (h : NRow K w B a c M) (hr : ∀ g, (Value.slice a M.length c).ownBlock = some g → w'.heap[g]? = w.heap[g]?) (hv : ∀ x ∈ M, ∀ g, x.2.ownBlock = some g → w'.heap[g]? = w.heap[g]?) : NRow K w' B a c M :=
  ⟨owns_of_block h.row hr, fun x hx => by
    obtain ⟨la, lc, e1, e2⟩ := h.all x hx
    exact ⟨la, lc, e1, owns_of_block e2 (hv x hx)⟩, h.pair⟩
theorem NRow.rlt (h : NRow K w B a c M) : ∀ g, (Value.slice a M.length c).ownBlock = some g → B ≤ g ∧ g < w.heap.size := fun g hg => h.row.lt g hg
theorem NRow.vlt (h : NRow K w B a c M) : ∀ x ∈ M, ∀ g, x.2.ownBlock = some g → B ≤ g ∧ g < w.heap.size := fun x hx g hg => by
  obtain ⟨la, lc, _, e2⟩ := h.all x hx
  exact e2.lt g hg
theorem NRow.rty (h : NRow K w B a c M) : ∀ g, (Value.slice a M.length c).ownBlock = some g → ∃ cs, w.heap[g]? = some (.cells cs K.t (0, 0)) := fun _ hg => own_type h.row hg
theorem NRow.vty (h : NRow K w B a c M) : ∀ x ∈ M, ∀ g, x.2.ownBlock = some g → ∃ cs, w.heap[g]? = some (.cells cs K.e (0, 0)) := fun x hx g hg => by
  obtain ⟨la, lc, _, e2⟩ := h.all x hx
  exact own_type e2 hg
theorem NRow.below (h : NRow K w B a c M) (hb : Below w.heap.size w w') : NRow K w' B a c M := h.keep (fun g hg => hb.block g (h.rlt g hg).2) (fun x hx g hg => hb.block g (h.vlt x hx g hg).2)
theorem NRow.mko {pb : Nat} (h : NRow K w B a c M) (hm : MkO (some pb) w w') (hp : pb < B) : NRow K w' B a c M :=
  h.keep (fun g hg => hm.block g (h.rlt g hg).2 (fun e => by injection e with e; have := (h.rlt g hg).1; omega)) (fun x hx g hg => hm.block g (h.vlt x hx g hg).2 (fun e => by injection e with e; have := (h.vlt x hx g hg).1; omega))
theorem ty_ne {g : Nat} {c1 c2 : Array Value} {t1 t2 : TypeId} (h1 : w.heap[g]? = some (.cells c1 t1 (0, 0))) (h2 : w.heap[g]? = some (.cells c2 t2 (0, 0))) (hne : t1 ≠ t2) : False := by
  rw [h1] at h2
  injection h2 with h2
  injection h2 with _ h2 _
  exact hne h2
theorem NRow.mkx {pb : Nat} {ob : Option Nat} (h : NRow K w B a c M) (hm : MkX pb ob w w') (hp : pb < B) (ho : ∀ g, ob = some g → ∃ cs, w.heap[g]? = some (.cells cs 138 (0, 0))) (h1 : K.t ≠ 138) (h2 : K.e ≠ 138) : NRow K w' B a c M :=
  h.keep (fun g hg => hm.block g (h.rlt g hg).2 (fun e => by have := (h.rlt g hg).1; omega) (fun e => by
    obtain ⟨c1, e1⟩ := h.rty g hg
    obtain ⟨c2, e2⟩ := ho g e
    exact ty_ne e1 e2 h1)) (fun x hx g hg => hm.block g (h.vlt x hx g hg).2 (fun e => by have := (h.vlt x hx g hg).1; omega) (fun e => by
    obtain ⟨c1, e1⟩ := h.vty x hx g hg
    obtain ⟨c2, e2⟩ := ho g e
    exact ty_ne e1 e2 h2))
theorem NRow.turned {b : Nat} {cs : Array Value} {t : TypeId} (h : NRow K w B a c M) (ht : Turned w w' b) (hb : w.heap[b]? = some (.cells cs t (0, 0))) (h1 : K.t ≠ t) (h2 : K.e ≠ t) : NRow K w' B a c M :=
  h.keep (fun g hg => ht.block g (fun e => by
    obtain ⟨c1, e1⟩ := h.rty g hg
    subst e
    exact ty_ne e1 hb h1)) (fun x hx g hg => ht.block g (fun e => by
    obtain ⟨c1, e1⟩ := h.vty x hx g hg
    subst e
    exact ty_ne e1 hb h2))
theorem NRow.grown {row : Option Nat} {t : TypeId} (h : NRow K w B a c M) (hg : w.grownBy w' row) (ht : ∀ k, row = some k → ∃ cs, w.heap[k]? = some (.cells cs t (0, 0))) (h1 : K.t ≠ t) (h2 : K.e ≠ t) : NRow K w' B a c M :=
  h.keep (fun g hg' => hg.block g (h.rlt g hg').2 (fun e => by
    obtain ⟨c1, e1⟩ := h.rty g hg'
    obtain ⟨c2, e2⟩ := ht g e.symm
    exact ty_ne e1 e2 h1)) (fun x hx g hg' => hg.block g (h.vlt x hx g hg').2 (fun e => by
    obtain ⟨c1, e1⟩ := h.vty x hx g hg'
    obtain ⟨c2, e2⟩ := ht g e.symm
    exact ty_ne e1 e2 h2))
theorem NRow.base {B' : Nat} (h : NRow K w B a c M) (hb : B' ≤ B) : NRow K w B' a c M := ⟨owns_base h.row hb, fun x hx => by
  obtain ⟨la, lc, e1, e2⟩ := h.all x hx
  exact ⟨la, lc, e1, owns_base e2 hb⟩, h.pair⟩
/-- One more, newer than the others: w0 the world ahead of its reading, w the one in which its cells were appended, w' behind. -/
theorem NRow.more {w0 w1 : World} {C : Nat} {x : α} {v : Value} {a' : Option Addr} {c' : Nat} (h0 : NRow K w0 B a c M) (h : NRow K w B a c M) (hx : w1.ownsRow C K.e K.k v (K.len x) (K.inner x)) (hC : w0.heap.size ≤ C) (hBC : B ≤ C) (hv : ∃ la lc, v = .slice la (K.len x) lc) (hx2 : w.ownsRow C K.e K.k v (K.len x) (K.inner x))
    (hg : w.grownBy w' (Value.slice a M.length c).ownBlock) (ho : w'.ownsRow B K.t K.m (.slice a' (M.length + 1) c') (M.length + 1) ((M.flatMap fun x => K.cell x.1 x.2) ++ K.cell x v)) (hne : K.t ≠ K.e) : NRow K w' B a' c' (M ++ [(x, v)]) := by
  obtain ⟨la, lc, hv⟩ := hv
  refine ⟨by simpa using ho, fun y hy => ?_, ?_⟩
  · rcases List.mem_append.1 hy with hy | hy
    · obtain ⟨la', lc', e1, e2⟩ := h.all y hy
      exact ⟨la', lc', e1, own_grown e2 hg (fun k hk => own_type h.row hk) hne⟩
    · simp at hy
      subst hy
      exact ⟨la, lc, hv, owns_base (own_grown hx2 hg (fun k hk => own_type h.row hk) hne) hBC⟩
  · refine List.pairwise_append.2 ⟨h.pair, by simp, fun y hy z hz g hg1 hg2 => ?_⟩
    simp at hz
    subst hz
    have h3 := (h0.vlt y hy g hg1).2
    have h4 := (hx.lt g hg2).1
    omega
def ptK : NK Pt := ⟨ptP, fun x => x.terms.length, fun x => x.terms.flatMap tmC, 45, 3, 49, 6⟩
def acK : NK Ac := ⟨acL, fun x => x.args.length, fun x => inC x.args, 53, 4, 3, 1⟩
theorem pMany_err {k : Int} {rd : List Wd → Px α} {n : Nat} {l : List Wd} {f : Flt} (h : nextW l = .error f) : pMany k rd n l = .error f := by
  cases n <;> simp [pMany, h]
theorem pMany_end {k : Int} {rd : List Wd → Px α} {n : Nat} {l r : List Wd} {x : Wd} (h : nextW l = .ok (x, r)) (hx : pkW x = k) : pMany k rd n l = .ok ([], l) := by
  cases n <;> simp [pMany, h, hx]
theorem pMany_open {k : Int} {rd : List Wd → Px α} {n m : Nat} {l r : List Wd} {x : Wd} {f : Flt} (h : nextW l = .ok (x, r)) (hx : pkW x ≠ k) (hm : n ≤ m) (ho : openW ((m - n : Nat) : Int) m l = .error f) : pMany k rd n l = .error f := by
  unfold openW at ho
  rw [h] at ho
  simp only at ho
  cases n with
  | zero =>
    by_cases h40 : pkW x = 40
    · rw [if_pos ⟨h40, by simp⟩] at ho
      injection ho with ho
      simp [pMany, h, h40, ← ho]
      exact fun e => absurd (h40.trans e) hx
    · rw [if_neg (fun e => h40 e.1), takeW_not h h40] at ho
      injection ho with ho
      simp [pMany, h, hx, h40, ← ho]
  | succ n =>
    rw [if_neg (fun e => by have := e.2; omega)] at ho
    simp [pMany, h, hx, ho]
theorem pMany_more {n m : Nat} {l r l1 : List Wd} {x y : Wd} (h : nextW l = .ok (x, r)) (hm : n ≤ m) (ho : openW ((m - n : Nat) : Int) m l = .ok (y, l1)) : ∃ q, n = q + 1 ∧ takeW 40 l = .ok (y, l1) := by
  unfold openW at ho
  rw [h] at ho
  simp only at ho
  cases n with
  | zero =>
    by_cases h40 : pkW x = 40
    · rw [if_pos ⟨h40, by simp⟩] at ho
      cases ho
    · rw [if_neg (fun e => h40 e.1), takeW_not h h40] at ho
      cases ho
  | succ n =>
    rw [if_neg (fun e => by have := e.2; omega)] at ho
    exact ⟨n, rfl, ho⟩
theorem pMany_bad {k : Int} {rd : List Wd → Px α} {n : Nat} {l r l1 : List Wd} {x y : Wd} {f : Flt} (h : nextW l = .ok (x, r)) (hx : pkW x ≠ k) (ht : takeW 40 l = .ok (y, l1)) (hc : rd l1 = .error f) : pMany k rd (n + 1) l = .error f := by
  simp [pMany, h, hx, ht, hc]
theorem pMany_step {k : Int} {rd : List Wd → Px α} {n : Nat} {l r l1 l2 : List Wd} {x y : Wd} {v : α} {M : List α} (h : nextW l = .ok (x, r)) (hx : pkW x ≠ k) (ht : takeW 40 l = .ok (y, l1)) (hc : rd l1 = .ok (v, l2)) : preL M (pMany k rd (n + 1) l) = preL (M ++ [v]) (pMany k rd n l2) := by
  simp only [pMany, h, hx, ht, hc, if_false]
  cases pMany k rd n l2 with
  | error f => rfl
  | ok p =>
    obtain ⟨vs, l3⟩ := p
    simp [preL]
theorem pManyS_err {σ : Type} {k : Int} {rd : σ → List Wd → Px (α × σ)} {n : Nat} {s : σ} {l : List Wd} {f : Flt} (h : nextW l = .error f) : pManyS k rd n s l = .error f := by
  cases n <;> simp [pManyS, h]
theorem pManyS_end {σ : Type} {k : Int} {rd : σ → List Wd → Px (α × σ)} {n : Nat} {s : σ} {l r : List Wd} {x : Wd} (h : nextW l = .ok (x, r)) (hx : pkW x = k) : pManyS k rd n s l = .ok (([], s), l) := by
  cases n <;> simp [pManyS, h, hx]
theorem pManyS_open {σ : Type} {k : Int} {rd : σ → List Wd → Px (α × σ)} {n m : Nat} {s : σ} {l r : List Wd} {x : Wd} {f : Flt} (h : nextW l = .ok (x, r)) (hx : pkW x ≠ k) (hm : n ≤ m) (ho : openW ((m - n : Nat) : Int) m l = .error f) : pManyS k rd n s l = .error f := by
  unfold openW at ho
  rw [h] at ho
  simp only at ho
  cases n with
  | zero =>
    by_cases h40 : pkW x = 40
    · rw [if_pos ⟨h40, by simp⟩] at ho
      injection ho with ho
      simp [pManyS, h, h40, ← ho]
      exact fun e => absurd (h40.trans e) hx
    · rw [if_neg (fun e => h40 e.1), takeW_not h h40] at ho
      injection ho with ho
      simp [pManyS, h, hx, h40, ← ho]
  | succ n =>
    rw [if_neg (fun e => by have := e.2; omega)] at ho
    simp [pManyS, h, hx, ho]
theorem pManyS_bad {σ : Type} {k : Int} {rd : σ → List Wd → Px (α × σ)} {n : Nat} {s : σ} {l r l1 : List Wd} {x y : Wd} {f : Flt} (h : nextW l = .ok (x, r)) (hx : pkW x ≠ k) (ht : takeW 40 l = .ok (y, l1)) (hc : rd s l1 = .error f) : pManyS k rd (n + 1) s l = .error f := by
  simp [pManyS, h, hx, ht, hc]
theorem pManyS_step {σ : Type} {k : Int} {rd : σ → List Wd → Px (α × σ)} {n : Nat} {s s1 : σ} {l r l1 l2 : List Wd} {x y : Wd} {v : α} {M : List α} (h : nextW l = .ok (x, r)) (hx : pkW x ≠ k) (ht : takeW 40 l = .ok (y, l1)) (hc : rd s l1 = .ok ((v, s1), l2)) : preE M (pManyS k rd (n + 1) s l) = preE (M ++ [v]) (pManyS k rd n s1 l2) := by
  simp only [pManyS, h, hx, ht, hc, if_false]
  cases pManyS k rd n s1 l2 with
  | error f => rfl
  | ok p =>
    obtain ⟨⟨vs, s2⟩, l3⟩ := p
    simp [preE]
end Go.Proofs.YtgkoiojelckblaaGreatDoor
