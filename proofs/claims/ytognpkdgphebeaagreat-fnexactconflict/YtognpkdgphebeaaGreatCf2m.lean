/-
  OUR OWN TEXT. The program's Conflict (written by gencf2.py).
-/
import Derived.Test.YtognpkdgphebeaaGreatWd
namespace Go.Proofs.YtognpkdgphebeaaGreat
open Go.RowKit Go.Maps
attribute [local go_sem ↓] Go.wp_at_zero Go.wp_at_succ
attribute [local go_sem] Oper.semAt_some

def CfI (rs : List Ru) (fs : List F) (a : Option Addr) (c : Nat) (fa : Option Addr) (fc : Nat) (w w0 w1 : World) (cb : Nat) (xa : Option Addr) (xc : Nat) (ac : Act) (W : World) : Prop := ∃ (k : Nat) (Ds : List Nat) (u6 u7 u8 u14 u15 u16 u17 u18 u19 u20 u21 u22 u23 u24 u25 u26 u27 u28 u29 u30 : Value), ac = { tmps := #[.slice a rs.length c, .slice fa fs.length fc, undef, undef, .slice none 0 0, .pointer (some ⟨cb, 0, none⟩), u6, u7, u8, .slice a rs.length c, .slice fa fs.length fc, .slice xa rs.length xc, .int .i64 (rs.length : Int), .int .i64 (k : Int), u14, u15, u16, u17, u18, u19, u20, u21, u22, u23, u24, u25, u26, u27, u28, u29, u30], defers := marksOf Ds } ∧ k ≤ rs.length ∧ DH w w1 w0.heap.size cb Ds (confGo fs 0 (rs.take k)) W
theorem plan_ok {X : List Cx} {r : Ru} {fs : List F} (hX : X.map Cx.cp = planGo r.pats [] 0) (hk : KnR r.pats [] 0) (h3 : positives r.pats ≤ 3) : extsC ((X.take X.length).map (cnOf fs)) [] = exts (planGo r.pats [] 0) fs [] ∧ SrOk ((X.take X.length).map (cnOf fs)) [] := by
  rw [List.take_length]
  have hl : (X.map (cnOf fs)).length = (planGo r.pats [] 0).length := by
    rw [← hX]
    simp
  have he : ∀ (k : Nat) (c : Cn) (d : Cp), (X.map (cnOf fs))[k]? = some c → (planGo r.pats [] 0)[k]? = some d → CnCp fs c d := by
    intro k c d hc hd
    rw [← hX, List.getElem?_map] at hd
    rw [List.getElem?_map] at hc
    obtain ⟨x, hx, rfl⟩ := Option.map_eq_some_iff.1 hc
    rw [hx] at hd
    cases hd
    exact cnOf_cp fs x
  exact ⟨extsC_eq _ _ hl he _, srOk_plan (fs := fs) r.pats [] [] _ hk (fun v hv => by simp at hv) (by simp; omega) hl he⟩
theorem tags_ok {r : Ru} {fs : List F} (hk : KnR r.pats [] 0) {wE : World} {ys : List (TkX wE)} (h : ys.map tkT = exts (planGo r.pats [] 0) fs []) (i : Nat) : ys.map (itOf i) = (allM r.pats fs [⟨[], []⟩] 0).1.map (fun x => (⟨(i : Int), x.tags⟩ : It)) := by
  rw [all_pm hk, ← h, List.map_map, List.map_map]
  rfl
set_option maxRecDepth 100000 in
set_option maxHeartbeats 12800000 in
theorem iConflict_any (rs : List Ru) (fs : List F) (a : Option Addr) (c : Nat) (fa : Option Addr) (fc : Nat) {q : Option Nat} (w : World) (hv : RusAt q w a rs) (hc : rs.length ≤ c) (hle : ListLe Ru.le 1048576 rs) (ho : ∀ x ∈ rs, OpsOk x.exprs) (hvo : ∀ r ∈ rs, ∀ p ∈ r.pats, ∀ t ∈ p.terms, VOk t.val) (h_f : FactsAt w fa fs) (hl : fs.length ≤ 1048576) (hs : ∀ f ∈ fs, Sized f) :
    Calls Tryz.prog 30 #[.slice a rs.length c, .slice fa fs.length fc] w (CpPost (confM rs fs) w) := by
  have HR := hidP (fun wt (hb : Below w.heap.size w wt) => plansOver_any rs a c fs fa fc w wt hb (hv.below hb) hc hle ho hvo h_f hl hs)
  clear hv h_f hs hle ho hvo
  refine (callsIn_wide (n := 9)).1 ?_
  refine callsIn_of_wp_marks Tryz.func30 rfl trivial ?_ rfl
  simp only [Tryz.ntmps30, List.size_toArray, List.length_cons, List.length_nil, Nat.reduceAdd, Nat.reduceSub, Array.replicate_succ, Array.replicate_zero, List.push_toArray, List.append_toArray, List.nil_append, List.cons_append]
  refine wpIn_wide.2 ?_
  go_upto_region 2 with fail
  refine lift_alloc ?_
  intro w0 hW0 hq0
  obtain ⟨cb, hcb⟩ : ∃ b, b = w.heap.size := ⟨_, rfl⟩
  rw [← hcb] at hq0 ⊢
  have CB0 := hidP hq0
  have H0 := hidP hW0
  have hcw : w.heap.size ≤ cb := by omega
  have hc0 : cb < w0.heap.size := lt_of_block' hq0
  clear hW0 hq0 hcb
  go_wp2_with fail
  refine (HR.out w0 H0.out).mono ?_
  rintro e w1 ⟨he1, hb1⟩
  have BW := hidP (H0.out.trans (hb1.mono H0.out.size))
  have CB1 := hidP ((hb1.block _ hc0).trans CB0.out)
  have hs1 := hb1.size
  clear hb1 CB0 HR H0
  by_cases hrdy : ready rs fs = true
  · rw [if_pos hrdy] at he1
    obtain ⟨xa, xc, PW, rfl, _, _, base, gb, mb, la, lc, L, bs, V, P, Q, hraw⟩ := he1
    have RAW := hidP hraw
    have HRDY := hidP hrdy
    clear hraw hrdy
    go_wp2_with fail
    obtain ⟨hPl, hPx⟩ := RAW.out.px
    have MEM := hidP RAW.out.mem
    have HPX := hidP hPx
    have hPl' : P.length = rs.length := hPl
    have HPL' := hidP hPl'
    clear hPl hPx hPl'
    have DH1 := hidP (show DH w w1 w0.heap.size cb [] (confGo fs 0 (rs.take 0)) w1 from ⟨⟨none, 0, [], CB1.out, Iw.nil _ _ _, rfl, List.Pairwise.nil⟩, Lko.refl _ _ _, ⟨List.nodup_nil, by simp⟩⟩)
    refine wp_loop (CfI rs fs a c fa fc w w0 w1 cb xa xc) (fun a _ => rs.length - (intOf (a.tmps.getD 13 undef)).toNat) (by unfold CfI; exact ⟨0, [], _, _, _, _, _, _, _, _, _, _, _, _, _, _, _, _, _, _, _, _, rfl, Nat.zero_le _, DH1.out⟩) ?_
    clear DH1 CB1
    rintro ac W ⟨k, Ds, u6, u7, u8, u14, u15, u16, u17, u18, u19, u20, u21, u22, u23, u24, u25, u26, u27, u28, u29, u30, rfl, hkl, hst⟩
    by_cases hk : k < rs.length
    · obtain ⟨r, hr⟩ : ∃ r, rs[k]? = some r := ⟨rs[k], by simp [hk]⟩
      obtain ⟨⟨ca, cc, va, vc, X, U⟩, hP0⟩ : ∃ x, P[k]? = some x := ⟨P[k]'(by rw [HPL'.out]; exact hk), by simp⟩
      obtain ⟨hX, hU⟩ := HPX.out k _ r hP0 hr
      simp only at hX hU
      have hxm := List.mem_of_getElem? hP0
      have hrm := List.mem_of_getElem? hr
      obtain ⟨g, hg, x0, x1⟩ : ∃ g, xa = some ⟨g, 0, none⟩ ∧ W.cell? ⟨g, k * 2, none⟩ = some (.slice ca X.length cc) ∧ W.cell? ⟨g, k * 2 + 1, none⟩ = some (.slice va U.length vc) := by
        have hrow := (MEM.out W hst.lk).1.row
        obtain ⟨g, hg, _, h0, _⟩ := owns_cell hrow (flat_gen (cells := pxCells) (m := 2) (fun _ => rfl) P k _ 0 _ hP0 rfl)
        obtain ⟨g', hg', _, h1, _⟩ := owns_cell hrow (flat_gen (cells := pxCells) (m := 2) (fun _ => rfl) P k _ 1 _ hP0 rfl)
        rw [hg] at hg'
        cases hg'
        exact ⟨g, hg, by simpa using h0, by simpa using h1⟩
      subst hg
      obtain ⟨hck, hgf, hf40⟩ := ready_small HRDY.out
      obtain ⟨hp6, ht6, hp3⟩ := chk_small hck hrm
      have hkn : KnR r.pats [] 0 := chk_known hck hrm
      have hl16 := chk_len hck
      have hXl : X.length ≤ 6 := by
        have h1 := congrArg List.length hX
        rw [List.length_map, planGo_len] at h1
        omega
      have HX := hidP hX
      have HKN := hidP hkn
      have HT6 := hidP ht6
      have HXM := hidP hxm
      have HST := hidP hst
      have HCT := hidP (conf_take fs hr)
      obtain ⟨hE1, hE2⟩ := plan_ok (fs := fs) hX hkn hp3
      have HE1 := hidP hE1
      have HE2 := hidP hE2
      have HB1 := hidP (all_bound HRDY.out hrm).1
      have HB2 := hidP (conf_take_bound HRDY.out k).1
      have z0 : (0 : Int) ≤ (k : Int) := by omega
      have z1 : (k : Int) < (rs.length : Int) := by omega
      have z3 : (k : Int) < 1000000 := by omega
      clear hP0 hX hU hkn ht6 hp3 hxm hck hgf hr hrm hst hE1 hE2
      go_upto_region 5 with fail
      refine lift2P ?_
      intro w3 hW3 hq3 hq4
      obtain ⟨ib, hib⟩ : ∃ b, b = W.heap.size := ⟨_, rfl⟩
      obtain ⟨bb, hbb⟩ : ∃ b, b = ib + 1 := ⟨_, rfl⟩
      rw [← hib] at hq3
      rw [← hib] at hq4
      rw [← hib]
      rw [← hbb] at hq4
      (try rw [← hbb])
      obtain ⟨t0, t1⟩ := cells2P hq4
      have hW1s := HST.out.lk.size
      have DH3 := hidP (HST.out.bel hW3)
      have IB3 := hidP hq3
      have BB3 := hidP hq4
      have hbl : bb < w3.heap.size := lt_of_block' hq4
      have hs3 := hW3.size
      have hic : ib ≠ cb := by omega
      have hbc : bb ≠ cb := by omega
      clear hW3 hq3 hq4 hib hbb x0 x1 HST
      go_wp2_with fail
      refine wp_region_noPanic ?_
      refine wp_region_held_drew (S := (fun w' => w'.cell? ⟨bb, 0, none⟩ = some (.slice ca X.length cc) ∧ w'.cell? ⟨bb, 1, none⟩ = some (.slice va U.length vc))) (by kernel_rfl) ?_ (fun hHeld => ?_)
      · (try dsimp only)
        exact ⟨t0, t1⟩
      refine tk 0 hHeld ?_
      (try simp only [pA, pZ, pS])
      refine wpAnyH_ready (rs := [1]) (by kernel_rfl) (by simp) ?_
      refine AllReadyH.cons (List.getElem?_toArray.trans rfl) (fun K hK => ?_) AllReadyH.nil
      go_simp
      (go_at_call 61; refine (noSeed_any _).mono ?_; rintro e' w4 ⟨rfl, hb4⟩)
      (try go_wp2_with fail)
      refine hK.out _ _ ?hS2 (fun hHeld => ?_)
      case hS2 => ((try dsimp only); exact ⟨cell_below hb4 t0, cell_below hb4 t1⟩)
      clear hK K
      (first | simp only [pA, pZ, pS] | simp only [pN] | skip)
      have t0' := cell_below hb4 t0
      have t1' := cell_below hb4 t1
      refine wpAnyH_ready (rs := [2]) (by kernel_rfl) (by simp) ?_
      refine AllReadyH.cons (List.getElem?_toArray.trans rfl) (fun K hK => ?_) AllReadyH.nil
      go_simp
      (go_at_call 60; refine (matches_any _ _ ca va X.length cc U.length vc rfl rfl w4).mono ?_; rintro e' w5 ⟨rfl, HPL, HSD, hb5⟩)
      (try go_wp2_with fail)
      refine hK.out _ _ ?hS4 (fun hHeld => ?_)
      case hS4 => ((try dsimp only); exact ⟨cell_below hb5 t0', cell_below hb5 t1'⟩)
      clear hK K
      (first | simp only [pA, pZ, pS] | simp only [pN] | skip)
      refine wpAnyH_done (by kernel_rfl) ?_ _
      refine NoPanic.normal ?_
      have B35 := hidP (show Below w3.heap.size w3 w5 from (Below.refl _ _).drew.trans ((hb4.trans (hb5.mono hb4.size)).mono (by simp)))
      have hs5 := B35.out.size
      have DH5 := hidP (DH3.out.bel B35.out)
      have DI5 := hidP (show DI w w1 w0.heap.size cb ib bb w5.heap.size k Ds #[.slice ca X.length cc, .slice va U.length vc] (confGo fs 0 (rs.take k)) [] w5 from ⟨by simpa using DH5.out.ins, DH5.out.lk, (B35.out.block _ (lt_of_block' IB3.out)).trans IB3.out, (B35.out.block _ (lt_of_block' BB3.out)).trans BB3.out, DH5.out.def', fun D hD => (Array.getElem?_eq_some_iff.1 (DH5.out.def'.each D hD).2).1⟩)
      have h45 : w4.heap.size + 1 < w5.heap.size := lt_of_block' HSD.out
      have h34 : w3.heap.size ≤ w4.heap.size := by have := hb4.size; simpa using this
      have hc5 : cb < w5.heap.size := by omega
      clear hb4 hb5 t0 t1 t0' t1' B35 hHeld DH3 DH5 IB3 BB3
      go_wp2_with fail
      refine (wpIn_wide (n := 9)).1 ?_
      refine wpIn_rangeFunc_ownH (α := TkX w) rfl (by decide) (gf := 91) (lb := #[.pointer (some ⟨w4.heap.size, 0, none⟩), .pointer (some ⟨w4.heap.size + 1, 0, none⟩)]) rfl trivial (enters_of Tryz.func91 (by kernel_rfl) rfl)
        (seq_any { wE := w, w1 := w1, B := w0.heap.size, cb := cb, M := w5.heap.size, l := 0, pb := w4.heap.size, yb := cb + 1, sb := w4.heap.size + 1, xb := cb + 1, base := base, gb := gb, mb := mb, ca := ca, cc := cc, m := X.length, vv := .slice va U.length vc, va := va, vc := vc, la := la, lc := lc, L := L, bs := bs, V := V, Q := Q, X := X, U := U, fs := fs, mem := fun W hW => ⟨(MEM.out W hW).1.each _ HXM.out, (MEM.out W hW).2⟩, snd := RAW.out.snd, facs := RAW.out.facs, below := BW.out, hm := Nat.le_refl _, h1 := hcw, h2 := hc0, h3 := by omega, n1 := by omega, n2 := by omega, n3 := by omega, n4 := by omega, f40 := hf40, small := fun c hc => (planGo_small r.pats [] 0 HT6.out c.cp (by rw [← HX.out]; exact List.mem_map.2 ⟨c, hc, rfl⟩)).1, X6 := hXl, h4 := hs1 } 8 w5 DI5.out.lk HPL.out HSD.out HE2.out hc5)
        (fun h k => Kq.trans h k) (fun W l o o' h1 h2 h3 _ => Kq.putObj DI5.out.lk.size h1 h2 h3) (Below.refl _ _) (fun _ => rfl)
        (DI w w1 w0.heap.size cb ib bb w5.heap.size k Ds #[.slice ca X.length cc, .slice va U.length vc] (confGo fs 0 (rs.take k))) (fun _ _ _ => False) (DI.own DI5.out.lk.size) (fun _ _ _ _ _ hs _ _ => hs) DI5.out
        (TBx w (fun pv tv => { tmps := #[.slice a rs.length c, .slice fa fs.length fc, undef, undef, .slice none 0 0, .pointer (some ⟨cb, 0, none⟩), .pointer (some ⟨ib, 0, none⟩), .pointer (some ⟨bb, 0, none⟩), pv, .slice a rs.length c, .slice fa fs.length fc, .slice (some ⟨g, 0, none⟩) rs.length xc, .int .i64 (rs.length : Int), .int .i64 (k : Int), .bool true, .int .i64 (k : Int), .pointer (some ⟨g, k * 2, none⟩), .agg #[.slice ca X.length cc, .slice va U.length vc], .agg #[.slice ca X.length cc, .slice va U.length vc], .agg #[.int .i64 (-1), .pointer none], .func (.func 91) #[] #[.pointer (some ⟨w4.heap.size, 0, none⟩), .pointer (some ⟨w4.heap.size + 1, 0, none⟩)], tv, u22, u23, u24, u25, u26, u27, u28, u29, u30], defers := [] })) (fun x a => TBx.own x a) ?assign ?body ?done ?stop
      case assign =>
        rintro l pre x W' K hI hK
        simp only [tkv]
        have HI := hidP hI
        have HKK := hidP hK
        clear hI hK
        gi_wp2
        exact HKK.out _ _ ((KeepsOthers.alloc _ _).from _) (Kq.of_below ((Below.refl _ _).alloc (Nat.le_refl _) _)) (HI.out.bel ((Below.refl _ _).alloc (Nat.le_refl _) _)) ⟨W'.heap.size, heap_alloc_new _ _, rfl⟩
      case body =>
        rintro l pre x a' W' hlw _ hI ⟨tb, hTB, rfl⟩ hlen
        obtain ⟨ia, ic, N, i1, i2, i3, i4⟩ := hI.ins
        have hNl : N.length ≤ 1088000 := by
          have e1 := congrArg List.length i3
          rw [List.length_map, List.length_append, List.length_map] at e1
          have e2 := HB1.out
          have e3 := HB2.out
          have e4 : pre.length < (extsC ((X.take X.length).map (cnOf fs)) []).length := hlen
          rw [HE1.out] at e4
          have e5 := congrArg List.length (all_pm (fs := fs) HKN.out)
          rw [List.length_map] at e5
          omega
        obtain ⟨tg, htg⟩ : ∃ l, l = (tkT x).map (·.tag) := ⟨_, rfl⟩
        have HTG := hidP (fun w' (h : Below W'.heap.size W' w') => (show Calls Tryz.prog 63 #[.agg #[.pointer x.1.1.1, .pointer x.1.1.2.1, .pointer x.1.1.2.2]] w' (TgPost tg w') by rw [htg]; exact tokTags_any x.1.1.1 x.1.1.2.1 x.1.1.2.2 (tkT x) w' ((x.2.below (Lko.below BW.out BW.out.size hI.lk)).below h)))
        have RDX := hidP (fun ta tc a8 c8 W5 W8 (hb : Below W'.heap.size W' W5) (hT : W5.ownsRow W'.heap.size 3 1 (.slice ta tg.length tc) tg.length (icells tg)) (hO : W8.ownsRow w1.heap.size 123 2 (.slice a8 (N.length + 1) c8) (N.length + 1) (N.flatMap itCells ++ itCells (⟨(k : Int), tg⟩, .slice ta tg.length tc))) (hg : W5.grownBy W8 (Value.slice ia N.length ic).ownBlock) => DI.round htg hI i1 i2 i3 i4 hb hT hO hg hcw hc0 hs1 hic hbc)
        have k0 := cell1P i1
        have k1 := cell1P hI.idx
        obtain ⟨t0, t1, t2⟩ := cells3P hTB
        have R0 := hidP i2.row
        have hci : cb < W'.heap.size := lt_of_block' i1
        have hii : ib < W'.heap.size := lt_of_block' hI.idx
        have hti : tb < W'.heap.size := lt_of_block' hTB
        have hnC : (Value.slice ia N.length ic).ownBlock ≠ some cb := fun e => by obtain ⟨_, h⟩ := own_type i2.row e; exact own_far h i1 (by decide)
        have hnI : (Value.slice ia N.length ic).ownBlock ≠ some ib := fun e => by obtain ⟨_, h⟩ := own_type i2.row e; exact own_far h hI.idx (by decide)
        have hnT : (Value.slice ia N.length ic).ownBlock ≠ some tb := fun e => by obtain ⟨_, h⟩ := own_type i2.row e; exact own_far h hTB (by decide)
        have hcI : cb ≠ ib := Ne.symm hic
        have hcT : cb ≠ tb := fun e => by subst e; exact own_far i1 hTB (by decide)
        have I1 := hidP i1
        have hw1 : w1.heap.size ≤ W'.heap.size := hI.lk.size
        clear hI i1 i2 i3 i4 hTB hlen htg
        gi_wp2
        refine wpInR_calm (S := (fun w' => w'.cell? ⟨ib, 0, none⟩ = some (.int .i64 (k : Int)) ∧ w'.cell? ⟨tb, 0, none⟩ = some (.pointer x.1.1.1) ∧ w'.cell? ⟨tb, 1, none⟩ = some (.pointer x.1.1.2.1) ∧ w'.cell? ⟨tb, 2, none⟩ = some (.pointer x.1.1.2.2))) (by rintro ⟨_, _, hh⟩; exact hh) (by intro i o ho c hc; rcases i with _ | _ | _ | _ | _ | _ | _ | _ | i <;> simp at ho <;> subst ho <;> cases hc) (by kernel_rfl) ?_ (fun hHeld => ?_)
        · (try dsimp only)
          exact ⟨k1, t0, t1, t2⟩
        refine tk 1 hHeld ?_
        (try simp only [pA, pZ, pS])
        refine tk 2 hHeld ?_
        (try simp only [pA, pZ, pS])
        refine wpAnyH_ready (rs := [0, 3]) (by kernel_rfl) (by simp) (AllReadyH.cons (List.getElem?_toArray.trans rfl) (fun K hK => ?_) (AllReadyH.cons (List.getElem?_toArray.trans rfl) (fun K hK => ?_) AllReadyH.nil))
        · go_simp
          refine hK.out _ _ ?hS5 (fun hHeld => ?_)
          case hS5 => ((try dsimp only); exact ⟨k1, t0, t1, t2⟩)
          clear hK K
          (first | simp only [pA, pZ, pS] | simp only [pN] | skip)
          refine wpAnyH_ready (rs := [3]) (by kernel_rfl) (by simp) (AllReadyH.cons (List.getElem?_toArray.trans rfl) (fun K hK => ?_) AllReadyH.nil)
          go_simp
          (go_at_call 63; refine (HTG.out _ (Below.refl _ _).drew).mono ?_; rintro e' w6 ⟨⟨ta, tc, rfl, hot⟩, hb6⟩)
          (try go_wp2_with fail)
          refine hK.out _ _ ?hS6 (fun hHeld => ?_)
          case hS6 => ((try dsimp only); exact ⟨cell_below hb6 k1, cell_below hb6 t0, cell_below hb6 t1, cell_below hb6 t2⟩)
          clear hK K
          (first | simp only [pA, pZ, pS] | simp only [pN] | skip)
          have B6 := hidP (show Below W'.heap.size W' w6 from (Below.refl _ _).drew.trans (hb6.mono (by simp)))
          have OT6 := hidP (show w6.ownsRow W'.heap.size 3 1 (.slice ta tg.length tc) tg.length (icells tg) from hot)
          have R6 := hidP (own_bel R0.out B6.out)
          have Q6 := hidP ((B6.out.block cb hci).trans I1.out)
          have HW6 := hidP (fun o' => (Below.refl _ _).alloc (Nat.le_refl _) o' : ∀ o', Below w6.heap.size w6 (w6.alloc o'))
          have hs6 := B6.out.size
          have hw6 : w1.heap.size ≤ w6.heap.size := by omega
          have k06 := cell_below hb6 k0
          have k16 := cell_below hb6 k1
          have t06 := cell_below hb6 t0
          have t16 := cell_below hb6 t1
          have t26 := cell_below hb6 t2
          clear hb6 hot
          refine tk 4 hHeld ?_
          (try simp only [pA, pZ, pS])
          refine wpAnyH_ready (rs := [5]) (by kernel_rfl) (by simp) (AllReadyH.cons (List.getElem?_toArray.trans rfl) (fun K hK => ?_) AllReadyH.nil)
          go_simp
          refine hK.out _ _ ?hS7 (fun hHeld => ?_)
          case hS7 => ((try dsimp only); exact ⟨cell_below (HW6.out _) k16, cell_below (HW6.out _) t06, cell_below (HW6.out _) t16, cell_below (HW6.out _) t26⟩)
          clear hK K
          (first | simp only [pA, pZ, pS] | simp only [pN] | skip)
          refine wpAnyH_ready (rs := [6]) (by kernel_rfl) (by simp) ?_
          refine AllReadyH.cons (List.getElem?_toArray.trans rfl) (fun K hK => ?_) AllReadyH.nil
          (refine step_append_any (by rfl) (.tmp 22) (.tmp 27) 56 (by rfl) w1.heap.size 123 _ 2 32 Tryz.underlying56 infoItF (by rfl) (by omega) _ N.length _ (by rfl) (own_bel R6.out (HW6.out _)) (some ⟨_, 0, none⟩) 1 1 (by rfl) (itCells (⟨(k : Int), tg⟩, .slice ta tg.length tc)) (by rfl) (fun e => by cases e) (news_new _ _ _ _ (by first | rfl | simp)) (by intro u hu; simp [itCells] at hu; rcases hu with rfl | rfl <;> rfl) (by unfold maxLen; omega) (by omega) (Nat.le_trans hw6 (HW6.out _).size) ?_; intro a8 c8 w8 ho8 hg8 hl8)
          refine hK.out _ _ ?hS9 (fun hHeld => ?_)
          case hS9 => ((try dsimp only); exact ⟨(cell_grownP hg8.out hnI (by simp; omega)).trans (cell_below (HW6.out _) k16), (cell_grownP hg8.out hnT (by simp; omega)).trans (cell_below (HW6.out _) t06), (cell_grownP hg8.out hnT (by simp; omega)).trans (cell_below (HW6.out _) t16), (cell_grownP hg8.out hnT (by simp; omega)).trans (cell_below (HW6.out _) t26)⟩)
          clear hK K
          (first | simp only [pA, pZ, pS] | simp only [pN] | skip)
          have q8 : w8.heap[cb]? = some (.cells #[.slice ia N.length ic] 56 (0, 0)) := (hg8.out.block cb (by simp; omega) (Ne.symm hnC)).trans (((HW6.out _).block cb (by omega)).trans Q6.out)
          have k08 := cell1P q8
          have f08 : w8.frozen? ⟨cb, 0, none⟩ = false := by simp [World.frozen?, q8]
          have k18 := (cell_grownP hg8.out hnI (by simp; omega)).trans (cell_below (HW6.out _) k16)
          have t08 := (cell_grownP hg8.out hnT (by simp; omega)).trans (cell_below (HW6.out _) t06)
          have t18 := (cell_grownP hg8.out hnT (by simp; omega)).trans (cell_below (HW6.out _) t16)
          have t28 := (cell_grownP hg8.out hnT (by simp; omega)).trans (cell_below (HW6.out _) t26)
          refine wpAnyH_ready (rs := [7]) (by kernel_rfl) (by simp) ?_
          refine AllReadyH.cons (List.getElem?_toArray.trans rfl) (fun K hK => ?_) AllReadyH.nil
          go_simp
          refine hK.out _ _ ?hS11 (fun hHeld => ?_)
          case hS11 => ((try dsimp only); exact ⟨(World.cell?_setCell_far _ _ _ _ hcI).trans k18, (World.cell?_setCell_far _ _ _ _ hcT).trans t08, (World.cell?_setCell_far _ _ _ _ hcT).trans t18, (World.cell?_setCell_far _ _ _ _ hcT).trans t28⟩)
          clear hK K
          (first | simp only [pA, pZ, pS] | simp only [pN] | skip)
          refine wpAnyH_done (by kernel_rfl) ?_ _
          refine NoPanic.normal ?_
          have RD := RDX.out ta tc a8 c8 _ w8 (B6.out.trans ((HW6.out _).mono B6.out.size)) (own_bel OT6.out (HW6.out _)) ho8.out hg8.out
          exact ⟨RD.1.from _, RD.2.1, RD.2.2⟩
        · go_simp
          (go_at_call 63; refine (HTG.out _ (Below.refl _ _).drew).mono ?_; rintro e' w6 ⟨⟨ta, tc, rfl, hot⟩, hb6⟩)
          (try go_wp2_with fail)
          refine hK.out _ _ ?hS12 (fun hHeld => ?_)
          case hS12 => ((try dsimp only); exact ⟨cell_below hb6 k1, cell_below hb6 t0, cell_below hb6 t1, cell_below hb6 t2⟩)
          clear hK K
          (first | simp only [pA, pZ, pS] | simp only [pN] | skip)
          have B6 := hidP (show Below W'.heap.size W' w6 from (Below.refl _ _).drew.trans (hb6.mono (by simp)))
          have OT6 := hidP (show w6.ownsRow W'.heap.size 3 1 (.slice ta tg.length tc) tg.length (icells tg) from hot)
          have R6 := hidP (own_bel R0.out B6.out)
          have Q6 := hidP ((B6.out.block cb hci).trans I1.out)
          have HW6 := hidP (fun o' => (Below.refl _ _).alloc (Nat.le_refl _) o' : ∀ o', Below w6.heap.size w6 (w6.alloc o'))
          have hs6 := B6.out.size
          have hw6 : w1.heap.size ≤ w6.heap.size := by omega
          have k06 := cell_below hb6 k0
          have k16 := cell_below hb6 k1
          have t06 := cell_below hb6 t0
          have t16 := cell_below hb6 t1
          have t26 := cell_below hb6 t2
          clear hb6 hot
          refine tk 4 hHeld ?_
          (try simp only [pA, pZ, pS])
          refine wpAnyH_ready (rs := [0, 5]) (by kernel_rfl) (by simp) (AllReadyH.cons (List.getElem?_toArray.trans rfl) (fun K hK => ?_) (AllReadyH.cons (List.getElem?_toArray.trans rfl) (fun K hK => ?_) AllReadyH.nil))
          · go_simp
            refine hK.out _ _ ?hS13 (fun hHeld => ?_)
            case hS13 => ((try dsimp only); exact ⟨k16, t06, t16, t26⟩)
            clear hK K
            (first | simp only [pA, pZ, pS] | simp only [pN] | skip)
            refine wpAnyH_ready (rs := [5]) (by kernel_rfl) (by simp) (AllReadyH.cons (List.getElem?_toArray.trans rfl) (fun K hK => ?_) AllReadyH.nil)
            go_simp
            refine hK.out _ _ ?hS14 (fun hHeld => ?_)
            case hS14 => ((try dsimp only); exact ⟨cell_below (HW6.out _) k16, cell_below (HW6.out _) t06, cell_below (HW6.out _) t16, cell_below (HW6.out _) t26⟩)
            clear hK K
            (first | simp only [pA, pZ, pS] | simp only [pN] | skip)
            refine wpAnyH_ready (rs := [6]) (by kernel_rfl) (by simp) ?_
            refine AllReadyH.cons (List.getElem?_toArray.trans rfl) (fun K hK => ?_) AllReadyH.nil
            (refine step_append_any (by rfl) (.tmp 22) (.tmp 27) 56 (by rfl) w1.heap.size 123 _ 2 32 Tryz.underlying56 infoItF (by rfl) (by omega) _ N.length _ (by rfl) (own_bel R6.out (HW6.out _)) (some ⟨_, 0, none⟩) 1 1 (by rfl) (itCells (⟨(k : Int), tg⟩, .slice ta tg.length tc)) (by rfl) (fun e => by cases e) (news_new _ _ _ _ (by first | rfl | simp)) (by intro u hu; simp [itCells] at hu; rcases hu with rfl | rfl <;> rfl) (by unfold maxLen; omega) (by omega) (Nat.le_trans hw6 (HW6.out _).size) ?_; intro a8 c8 w8 ho8 hg8 hl8)
            refine hK.out _ _ ?hS16 (fun hHeld => ?_)
            case hS16 => ((try dsimp only); exact ⟨(cell_grownP hg8.out hnI (by simp; omega)).trans (cell_below (HW6.out _) k16), (cell_grownP hg8.out hnT (by simp; omega)).trans (cell_below (HW6.out _) t06), (cell_grownP hg8.out hnT (by simp; omega)).trans (cell_below (HW6.out _) t16), (cell_grownP hg8.out hnT (by simp; omega)).trans (cell_below (HW6.out _) t26)⟩)
            clear hK K
            (first | simp only [pA, pZ, pS] | simp only [pN] | skip)
            have q8 : w8.heap[cb]? = some (.cells #[.slice ia N.length ic] 56 (0, 0)) := (hg8.out.block cb (by simp; omega) (Ne.symm hnC)).trans (((HW6.out _).block cb (by omega)).trans Q6.out)
            have k08 := cell1P q8
            have f08 : w8.frozen? ⟨cb, 0, none⟩ = false := by simp [World.frozen?, q8]
            have k18 := (cell_grownP hg8.out hnI (by simp; omega)).trans (cell_below (HW6.out _) k16)
            have t08 := (cell_grownP hg8.out hnT (by simp; omega)).trans (cell_below (HW6.out _) t06)
            have t18 := (cell_grownP hg8.out hnT (by simp; omega)).trans (cell_below (HW6.out _) t16)
            have t28 := (cell_grownP hg8.out hnT (by simp; omega)).trans (cell_below (HW6.out _) t26)
            refine wpAnyH_ready (rs := [7]) (by kernel_rfl) (by simp) ?_
            refine AllReadyH.cons (List.getElem?_toArray.trans rfl) (fun K hK => ?_) AllReadyH.nil
            go_simp
            refine hK.out _ _ ?hS18 (fun hHeld => ?_)
            case hS18 => ((try dsimp only); exact ⟨(World.cell?_setCell_far _ _ _ _ hcI).trans k18, (World.cell?_setCell_far _ _ _ _ hcT).trans t08, (World.cell?_setCell_far _ _ _ _ hcT).trans t18, (World.cell?_setCell_far _ _ _ _ hcT).trans t28⟩)
            clear hK K
            (first | simp only [pA, pZ, pS] | simp only [pN] | skip)
            refine wpAnyH_done (by kernel_rfl) ?_ _
            refine NoPanic.normal ?_
            have RD := RDX.out ta tc a8 c8 _ w8 (B6.out.trans ((HW6.out _).mono B6.out.size)) (own_bel OT6.out (HW6.out _)) ho8.out hg8.out
            exact ⟨RD.1.from _, RD.2.1, RD.2.2⟩
          · go_simp
            refine hK.out _ _ ?hS19 (fun hHeld => ?_)
            case hS19 => ((try dsimp only); exact ⟨cell_below (HW6.out _) k16, cell_below (HW6.out _) t06, cell_below (HW6.out _) t16, cell_below (HW6.out _) t26⟩)
            clear hK K
            (first | simp only [pA, pZ, pS] | simp only [pN] | skip)
            refine wpAnyH_ready (rs := [0]) (by kernel_rfl) (by simp) (AllReadyH.cons (List.getElem?_toArray.trans rfl) (fun K hK => ?_) AllReadyH.nil)
            have k07 := fun o => cell_below (HW6.out o) k06
            go_simp
            refine hK.out _ _ ?hS20 (fun hHeld => ?_)
            case hS20 => ((try dsimp only); exact ⟨cell_below (HW6.out _) k16, cell_below (HW6.out _) t06, cell_below (HW6.out _) t16, cell_below (HW6.out _) t26⟩)
            clear hK K
            (first | simp only [pA, pZ, pS] | simp only [pN] | skip)
            refine wpAnyH_ready (rs := [6]) (by kernel_rfl) (by simp) ?_
            refine AllReadyH.cons (List.getElem?_toArray.trans rfl) (fun K hK => ?_) AllReadyH.nil
            (refine step_append_any (by rfl) (.tmp 22) (.tmp 27) 56 (by rfl) w1.heap.size 123 _ 2 32 Tryz.underlying56 infoItF (by rfl) (by omega) _ N.length _ (by rfl) (own_bel R6.out (HW6.out _)) (some ⟨_, 0, none⟩) 1 1 (by rfl) (itCells (⟨(k : Int), tg⟩, .slice ta tg.length tc)) (by rfl) (fun e => by cases e) (news_new _ _ _ _ (by first | rfl | simp)) (by intro u hu; simp [itCells] at hu; rcases hu with rfl | rfl <;> rfl) (by unfold maxLen; omega) (by omega) (Nat.le_trans hw6 (HW6.out _).size) ?_; intro a8 c8 w8 ho8 hg8 hl8)
            refine hK.out _ _ ?hS22 (fun hHeld => ?_)
            case hS22 => ((try dsimp only); exact ⟨(cell_grownP hg8.out hnI (by simp; omega)).trans (cell_below (HW6.out _) k16), (cell_grownP hg8.out hnT (by simp; omega)).trans (cell_below (HW6.out _) t06), (cell_grownP hg8.out hnT (by simp; omega)).trans (cell_below (HW6.out _) t16), (cell_grownP hg8.out hnT (by simp; omega)).trans (cell_below (HW6.out _) t26)⟩)
            clear hK K
            (first | simp only [pA, pZ, pS] | simp only [pN] | skip)
            have q8 : w8.heap[cb]? = some (.cells #[.slice ia N.length ic] 56 (0, 0)) := (hg8.out.block cb (by simp; omega) (Ne.symm hnC)).trans (((HW6.out _).block cb (by omega)).trans Q6.out)
            have k08 := cell1P q8
            have f08 : w8.frozen? ⟨cb, 0, none⟩ = false := by simp [World.frozen?, q8]
            have k18 := (cell_grownP hg8.out hnI (by simp; omega)).trans (cell_below (HW6.out _) k16)
            have t08 := (cell_grownP hg8.out hnT (by simp; omega)).trans (cell_below (HW6.out _) t06)
            have t18 := (cell_grownP hg8.out hnT (by simp; omega)).trans (cell_below (HW6.out _) t16)
            have t28 := (cell_grownP hg8.out hnT (by simp; omega)).trans (cell_below (HW6.out _) t26)
            refine wpAnyH_ready (rs := [7]) (by kernel_rfl) (by simp) ?_
            refine AllReadyH.cons (List.getElem?_toArray.trans rfl) (fun K hK => ?_) AllReadyH.nil
            go_simp
            refine hK.out _ _ ?hS24 (fun hHeld => ?_)
            case hS24 => ((try dsimp only); exact ⟨(World.cell?_setCell_far _ _ _ _ hcI).trans k18, (World.cell?_setCell_far _ _ _ _ hcT).trans t08, (World.cell?_setCell_far _ _ _ _ hcT).trans t18, (World.cell?_setCell_far _ _ _ _ hcT).trans t28⟩)
            clear hK K
            (first | simp only [pA, pZ, pS] | simp only [pN] | skip)
            refine wpAnyH_done (by kernel_rfl) ?_ _
            refine NoPanic.normal ?_
            have RD := RDX.out ta tc a8 c8 _ w8 (B6.out.trans ((HW6.out _).mono B6.out.size)) (own_bel OT6.out (HW6.out _)) ho8.out hg8.out
            exact ⟨RD.1.from _, RD.2.1, RD.2.2⟩
      case done =>
        rintro D ys W' hD hS hI hK
        have HI := hidP hI
        have HK := hidP hK
        have HS := hidP (tags_ok HKN.out (hS.trans HE1.out) k)
        clear hS hI hK
        go_wp2_with fail
        refine ⟨?_, by simp [intOf]; omega⟩
        unfold CfI
        refine ⟨k + 1, D :: Ds, _, _, _, _, _, _, _, _, _, _, _, _, _, _, _, _, _, _, _, _, by rw [castK]; rfl, by omega, ⟨?_, HI.out.lk, ⟨List.nodup_cons.2 ⟨fun hm => ?_, HI.out.def'.nodup⟩, fun D' hD' => ?_⟩⟩⟩
        · rw [HCT.out, ← HS.out]
          exact HI.out.ins
        · have := HI.out.low D hm
          omega
        · rcases List.mem_cons.1 hD' with rfl | hD'
          · exact ⟨by omega, HK.out⟩
          · exact HI.out.def'.each D' hD'
      case stop =>
        rintro D c pre W _ _ h _
        exact h.elim
    · have hke : k = rs.length := by omega
      have hy : ¬ (k : Int) < (rs.length : Int) := by omega
      obtain ⟨ia, ic, N, i1, i2, i3, i4⟩ := hst.ins
      have k0 := cell1P i1
      have HDF := hidP hst.def'
      have HBW := hidP (Lko.below BW.out BW.out.size hst.lk)
      have HIO := hidP i2
      have HN := hidP (show N.map Prod.fst = confM rs fs by rw [i3, hke, List.take_length]; exact (if_pos HRDY.out).symm)
      have HPW := hidP i4
      have hbw1 := BW.out.size
      clear hke i1 i2 i3 i4 hst
      go_wp2_with fail
      refine leaves_mkd (B := w.heap.size) Ds _ HDF.out ?_
      intro W' hW'
      refine ⟨_, results_tmp rfl _ _ _, ?_⟩
      exact ⟨⟨ia, ic, N, rfl, (HIO.out.lower hbw1 hbw1).same (fun k c t _ h => (hW'.cel k c t _ h).trans h.symm), HN.out, HPW.out⟩, HBW.out.trans hW'.bel⟩
  · rw [if_neg hrdy] at he1
    subst he1
    have HT := hidP (show confM rs fs = [] by unfold confM; rw [if_neg hrdy])
    clear hrdy
    go_wp2_with fail
    go_loopw [13] (fun iv wr => iv = .int .i64 0 ∧ wr = w1) (fun _ _ => 0)
    case atStart => exact ⟨rfl, rfl⟩
    case round =>
      obtain ⟨rfl, rfl⟩ := hrel
      have k0 := cell1P CB1.out
      go_wp2_with fail
      refine leaves_mkd (B := w.heap.size) [] _ ⟨List.nodup_nil, by simp⟩ ?_
      intro W' hW'
      refine ⟨_, results_tmp rfl _ _ _, ?_⟩
      exact CpPost.nil HT.out (BW.out.trans hW'.bel)
end Go.Proofs.YtognpkdgphebeaaGreat
