/-
  OUR OWN TEXT. The program: the search at a positive condition (written by gentk2.py).
-/
import Derived.Test.YtognpkdgphebeaaGreatVb
namespace Go.Proofs.YtognpkdgphebeaaGreat
open Go.RowKit Go.Maps
attribute [local go_sem ↓] Go.wp_at_zero Go.wp_at_succ

theorem wrapK {k : Int} (h0 : 0 ≤ k) (h1 : k < 1000000) : IntKind.i64.wrap (k + 1) = k + 1 := by
  rw [IntKind.wrap_i64]
  omega
theorem flat_take {α β : Type} (g : α → List β) {l : List α} {j : Nat} {x : α} (h : l[j]? = some x) : (l.take (j + 1)).flatMap g = (l.take j).flatMap g ++ g x := by
  rw [List.take_add_one, h]
  simp
theorem flat_take_le {α β : Type} (g : α → List β) (l : List α) (j : Nat) : ((l.take j).flatMap g).length ≤ (l.flatMap g).length := by
  have h : l.flatMap g = (l.take j).flatMap g ++ (l.drop j).flatMap g := by
    rw [← List.flatMap_append, List.take_append_drop]
  rw [h, List.length_append]
  omega
set_option maxRecDepth 100000 in
set_option maxHeartbeats 12800000 in
theorem search_pos (Z : SK) (J Jx : List (TkX Z.wE) → World → Prop) (hJ : ∀ s W W', J s W → Below W.heap.size W W' → J s W') (c : Cx) (k : Nat) (hc : Z.X[k]? = some c) (hkm : k < Z.m) (T : List F) (p0 p1 p2 : Option Addr) (pre : List (TkX Z.wE)) (W : World) (hSX : SX Z W) (hTK : TokX Z.wE p0 p1 p2 T) (hfit : ∀ f ∈ (cnOf Z.fs c).facts, ∀ t ∈ c.cp.tests, t.fits T f) (hJ0 : J pre W) (hneg : c.cp.neg = false) (hat : c.cp.at_ = T.length) (hT3 : T.length < 3) (N : Nat) (r : List (List F)) (gN : F → List (List F)) (hr : r = (cnOf Z.fs c).facts.flatMap gN) (hN : pre.length + r.length ≤ N)
    (hz : ∀ f ∈ (cnOf Z.fs c).facts, c.cp.tests.all (jHolds T f) = false → gN f = [])
    (HIH : ∀ f ∈ (cnOf Z.fs c).facts, c.cp.tests.all (jHolds T f) = true → ∀ (pre' : List (TkX Z.wE)) (W' : World) (q0 q1 q2 : Option Addr), SX Z W' → J pre' W' → pre'.length + (gN f).length ≤ N → TokX Z.wE q0 q1 q2 (T ++ [f]) → Calls Tryz.prog 92 #[.int .i64 ((k : Int) + 1), .agg #[.pointer q0, .pointer q1, .pointer q2], .pointer (some ⟨Z.pb, 0, none⟩), .pointer (some ⟨Z.yb, 0, none⟩), .pointer (some ⟨Z.sb, 0, none⟩), .pointer (some ⟨Z.xb, 0, none⟩)] W' (SPost Z J Jx pre' (gN f) W')) :
      Calls Tryz.prog 92 #[.int .i64 (k : Int), .agg #[.pointer p0, .pointer p1, .pointer p2], .pointer (some ⟨Z.pb, 0, none⟩), .pointer (some ⟨Z.yb, 0, none⟩), .pointer (some ⟨Z.sb, 0, none⟩), .pointer (some ⟨Z.xb, 0, none⟩)] W (SPost Z J Jx pre r W) := by
  obtain ⟨g, fa, fc, hca, hmem⟩ := Z.cond hc
  have hts := Z.small c (List.mem_of_getElem? hc)
  have hfl : (cnOf Z.fs c).facts.length ≤ 40 := Nat.le_trans (List.length_filter_le _ _) Z.f40
  have HM := hidP hmem
  have HTK := hidP hTK
  have HF := hidP hfit
  have HI := hidP HIH
  have HZ := hidP hz
  have HRR := hidP hr
  have HNN := hidP hN
  have HJJ := hidP hJ
  clear hmem hTK hfit HIH hz hr hN
  obtain ⟨fs, hfs⟩ : ∃ l, l = (cnOf Z.fs c).facts := ⟨_, rfl⟩
  rw [← hfs] at HM HF HI HZ HRR hfl
  clear hfs
  have hkn : ((k : Int) == (Z.m : Int)) = false := by simp; omega
  have z0 : (0 : Int) ≤ (k : Int) := by omega
  have z1 : (k : Int) < (Z.m : Int) := by omega
  have hk40 : (k : Int) < 1000000 := by have := Z.hm; have := (List.getElem?_eq_some_iff.1 hc).1; have := Z.X6; omega
  go_enter Tryz.func92, Tryz.ntmps92
  go_upto_region 1 with fail
  refine lift_alloc ?_
  intro w0 hW0 hq0
  obtain ⟨tb, htb⟩ : ∃ b, b = W.heap.size := ⟨_, rfl⟩
  rw [← htb] at hq0 ⊢
  have hcb : Z.cb < tb := by
    have h1 := hSX.lk.size
    have h2 := Z.h2
    have h3 := Z.h4
    omega
  obtain ⟨t0, t1, t2⟩ := cells3P hq0
  have TB0 := hidP hq0
  have SX0 := hidP (hSX.bel hW0)
  obtain ⟨g0, _⟩ := cells2P SX0.out.pl
  rw [hca] at g0
  obtain ⟨⟨c0, c1, c2, c3⟩, _⟩ := HM.out w0 SX0.out.lk
  have J0 := hidP (hJ _ _ _ hJ0 hW0)
  have B0 := hidP hW0
  rw [hneg] at c0
  rw [hat] at c1
  have htl : tb < w0.heap.size := lt_of_block' hq0
  clear hW0 hq0 htb
  go_upto_region 4 with fail
  refine lift_alloc ?_
  intro w2 hW2 hq2
  obtain ⟨db, hdb⟩ : ∃ b, b = w0.heap.size := ⟨_, rfl⟩
  rw [← hdb] at hq2 ⊢
  have hcd : Z.cb < db := by omega
  obtain ⟨d0, d1, d2, d3⟩ := cells4P hq2
  have DB2 := hidP hq2
  have TB2 := hidP ((hW2.block _ (lt_of_block' TB0.out)).trans TB0.out)
  have SX2 := hidP (SX0.out.bel hW2)
  have J2 := hidP (hJ _ _ _ J0.out hW2)
  have B2 := hidP (B0.out.trans (hW2.mono B0.out.size))
  obtain ⟨s0, s1⟩ := cells2P SX2.out.sd
  obtain ⟨_, _, m2, _, _⟩ := HM.out w2 SX2.out.lk
  clear hW2 hq2 hdb t0 t1 t2 c0 c1 c2 c3 g0 SX0 J0 B0 TB0
  go_wp2_with fail
  refine (choice_any k c.node _ _ _ fa fs.length fc w2 m2).mono ?_
  rintro e w3 ⟨rfl, hb3⟩
  have DB3 := hidP ((hb3.block _ (lt_of_block' DB2.out)).trans DB2.out)
  have TB3 := hidP ((hb3.block _ (lt_of_block' TB2.out)).trans TB2.out)
  have SX3 := hidP (SX2.out.bel hb3)
  have J3 := hidP (hJ _ _ _ J2.out hb3)
  have B3 := hidP (B2.out.trans (hb3.mono B2.out.size))
  clear hb3 m2 d0 d1 d2 d3 s0 s1 SX2 J2 B2 DB2 TB2
  go_wp2_with fail
  go_loopw [49] (fun iv wr => ∃ (j : Nat) (ys : List (TkX Z.wE)), iv = .int .i64 (j : Int) ∧ j ≤ fs.length ∧ ys.map tkT = (fs.take j).flatMap gN ∧ J (pre ++ ys) wr ∧ Kq Z.cb Z.w1.heap.size Z.M w3 wr) (fun iv _ => fs.length - (intOf iv).toNat)
  case atStart => exact ⟨0, [], rfl, Nat.zero_le _, rfl, by simpa using J3.out, Kq.refl _ _ _ _⟩
  case round =>
    obtain ⟨j, ys, rfl, hjl, hys, hJr, hKr⟩ := hrel
    have HYS := hidP hys
    have JR := hidP hJr
    have KR := hidP hKr
    have SXR := hidP (SX3.out.kq hKr)
    have DBR := hidP (hKr.box DB3.out (by omega) (by decide))
    have TBR := hidP (hKr.box TB3.out (by omega) (by decide))
    clear hys hJr hKr J3
    by_cases hj : j < fs.length
    · obtain ⟨f, hf⟩ : ∃ f, fs[j]? = some f := ⟨fs[j], by simp [hj]⟩
      have hfm := List.mem_of_getElem? hf
      obtain ⟨_, m1, m2, m3, m4⟩ := HM.out wr SXR.out.lk
      obtain ⟨hb, rfl, fb, fo, hcell, hfac⟩ := m4 j f hf
      have HFC := hidP hfac
      obtain ⟨d0, d1, d2, d3⟩ := cells4P DBR.out
      obtain ⟨u0, u1, u2⟩ := cells3P TBR.out
      have x0 := cell1P SXR.out.sr
      have y0 : (0 : Int) ≤ (j : Int) := by omega
      have y1 : (j : Int) < (fs.length : Int) := by omega
      have HST := hidP (flat_take gN hf)
      have HAG := hidP (fun w' (h : Below wr.heap.size wr w') => agrees_any (.bool false) (.int .i64 (T.length : Int)) (.pointer (some ⟨c.node, 0, none⟩)) (.pointer p0) (.pointer p1) (.pointer p2) (.pointer (some ⟨fb, fo, none⟩)) c.cp.tests c.ta c.tc T f w' (m1.below h) ((HTK.out.tok.below SXR.out.entry).below h) ((HFC.out.below SXR.out.entry).below h) (Nat.le_trans hts (by decide)) (HF.out f hfm))
      clear m1 m2 m3 m4 hfac
      cases hm : c.cp.tests.all (jHolds T f)
      · have HG0 := hidP (HZ.out f hfm hm)
        rw [hm] at HAG
        clear hm hf
        go_wp2_with fail
        refine wp_region_noPanic ?_
        refine wp_region_held_drew (S := (fun w' => w'.cell? ⟨db, 0, none⟩ = some (.bool false) ∧ w'.cell? ⟨db, 1, none⟩ = some (.int .i64 (T.length : Int)) ∧ w'.cell? ⟨db, 2, none⟩ = some (.pointer (some ⟨c.node, 0, none⟩)) ∧ w'.cell? ⟨db, 3, none⟩ = some (.slice c.ta c.cp.tests.length c.tc) ∧ w'.cell? ⟨tb, 0, none⟩ = some (.pointer p0) ∧ w'.cell? ⟨tb, 1, none⟩ = some (.pointer p1) ∧ w'.cell? ⟨tb, 2, none⟩ = some (.pointer p2))) (by kernel_rfl) ?_ (fun hHeld => ?_)
        · (try dsimp only)
          exact ⟨d0, d1, d2, d3, u0, u1, u2⟩
        refine tk 0 hHeld ?_
        (try simp only [pA, pZ, pS])
        refine tk 1 hHeld ?_
        (try simp only [pA, pZ, pS])
        refine tk 2 hHeld ?_
        (try simp only [pA, pZ, pS])
        refine wpAnyH_ready (rs := [3]) (by kernel_rfl) (by simp) ?_
        refine AllReadyH.cons (List.getElem?_toArray.trans rfl) (fun K hK => ?_) AllReadyH.nil
        go_simp
        (go_at_call 96; refine (HAG.out _ (Below.refl _ _).drew).mono ?_; rintro e' w6 ⟨rfl, hb6⟩)
        (try go_wp2_with fail)
        refine hK.out _ _ ?hS2 (fun hHeld => ?_)
        case hS2 => ((try dsimp only); exact ⟨cell_below hb6 d0, cell_below hb6 d1, cell_below hb6 d2, cell_below hb6 d3, cell_below hb6 u0, cell_below hb6 u1, cell_below hb6 u2⟩)
        clear hK K
        (first | simp only [pA, pZ, pS] | simp only [pN] | skip)
        have B6 := hidP (show Below wr.heap.size wr w6 from (Below.refl _ _).drew.trans (hb6.mono (by simp)))
        clear hb6
        refine tk 4 hHeld ?_
        refine tn 5 hHeld ?_
        refine tn 6 hHeld ?_
        refine tn 7 hHeld ?_
        (try simp only [pA, pZ, pS])
        refine tn 8 hHeld ?_
        refine tn 9 hHeld ?_
        refine tn 10 hHeld ?_
        refine tn 11 hHeld ?_
        (try simp only [pA, pZ, pS])
        refine tn 12 hHeld ?_
        refine tn 13 hHeld ?_
        refine tn 14 hHeld ?_
        (try simp only [pA, pZ, pS])
        refine tk 15 hHeld ?_
        (try simp only [pA, pZ, pS])
        refine wpAnyH_done (by kernel_rfl) ?_ _
        refine NoPanic.normal ?_
        go_wp2_with fail
        go_roundw
        case rel => exact ⟨j + 1, ys, by go_num, by omega, by rw [HST.out, HG0.out, List.append_nil]; exact HYS.out, hJ _ _ _ JR.out B6.out, KR.out.trans (Kq.of_below B6.out)⟩
        case measure => (simp [intOf]; omega)
      · have HG1 := hidP (HI.out f hfm hm)
        rw [hm] at HAG
        have HLE := hidP (show (pre ++ ys).length + (gN f).length ≤ N by have h1 := flat_take_le gN fs (j + 1); rw [HST.out, List.length_append] at h1; have h2 := congrArg List.length HYS.out; rw [List.length_map] at h2; have h3 := congrArg List.length HRR.out; have h4 := HNN.out; rw [List.length_append]; omega)
        have hwrap : IntKind.i64.wrap ((k : Int) + 1) = (k : Int) + 1 := wrapK z0 hk40
        clear hm hf
        go_wp2_with fail
        refine wp_region_noPanic ?_
        refine wp_region_held_drew (S := (fun _ => True)) (by kernel_rfl) ?_ (fun hHeld => ?_)
        · (try dsimp only)
          all_goals trivial
        refine tk 2 hHeld ?_
        (try simp only [pA, pZ, pS])
        refine wpAnyH_ready (rs := [0, 1]) (by kernel_rfl) (by simp) (AllReadyH.cons (List.getElem?_toArray.trans rfl) (fun K hK => ?_) (AllReadyH.cons (List.getElem?_toArray.trans rfl) (fun K hK => ?_) AllReadyH.nil))
        · go_simp
          refine hK.out _ _ trivial (fun hHeld => ?_)
          clear hK K
          (first | simp only [pA, pZ, pS] | simp only [pN] | skip)
          refine wpAnyH_ready (rs := [1]) (by kernel_rfl) (by simp) (AllReadyH.cons (List.getElem?_toArray.trans rfl) (fun K hK => ?_) AllReadyH.nil)
          go_simp
          refine hK.out _ _ trivial (fun hHeld => ?_)
          clear hK K
          (first | simp only [pA, pZ, pS] | simp only [pN] | skip)
          refine wpAnyH_ready (rs := [3]) (by kernel_rfl) (by simp) (AllReadyH.cons (List.getElem?_toArray.trans rfl) (fun K hK => ?_) AllReadyH.nil)
          go_simp
          (go_at_call 96; refine (HAG.out _ (Below.refl _ _).drew).mono ?_; rintro e' w6 ⟨rfl, hb6⟩)
          (try go_wp2_with fail)
          refine hK.out _ _ trivial (fun hHeld => ?_)
          clear hK K
          (first | simp only [pA, pZ, pS] | simp only [pN] | skip)
          have e0 := cell_below hb6 d0
          have e1 := cell_below hb6 d1
          have e2 := cell_below hb6 d2
          have e3 := cell_below hb6 d3
          have v0 := cell_below hb6 u0
          have v1 := cell_below hb6 u1
          have v2 := cell_below hb6 u2
          have e8 := cell_below hb6 x0
          have B6 := hidP (show Below wr.heap.size wr w6 from (Below.refl _ _).drew.trans (hb6.mono (by simp)))
          clear hb6
          refine tk 4 hHeld ?_
          (try simp only [pA, pZ, pS])
          refine tk 6 hHeld ?_
          (try simp only [pA, pZ, pS])
          refine tk 7 hHeld ?_
          (try simp only [pA, pZ, pS])
          refine tk 9 hHeld ?_
          (try simp only [pA, pZ, pS])
          refine tk 11 hHeld ?_
          (try simp only [pA, pZ, pS])
          refine wpAnyH_ready (rs := [5, 8, 10]) (by kernel_rfl) (by simp) (AllReadyH.cons (List.getElem?_toArray.trans rfl) (fun K hK => ?_) (AllReadyH.cons (List.getElem?_toArray.trans rfl) (fun K hK => ?_) (AllReadyH.cons (List.getElem?_toArray.trans rfl) (fun K hK => ?_) AllReadyH.nil)))
          · go_simp
            refine hK.out _ _ trivial (fun hHeld => ?_)
            clear hK K
            (first | simp only [pA, pZ, pS] | simp only [pN] | skip)
            refine wpAnyH_ready (rs := [8, 10]) (by kernel_rfl) (by simp) (AllReadyH.cons (List.getElem?_toArray.trans rfl) (fun K hK => ?_) (AllReadyH.cons (List.getElem?_toArray.trans rfl) (fun K hK => ?_) AllReadyH.nil))
            · go_simp
              refine hK.out _ _ trivial (fun hHeld => ?_)
              clear hK K
              (first | simp only [pA, pZ, pS] | simp only [pN] | skip)
              refine wpAnyH_ready (rs := [10]) (by kernel_rfl) (by simp) (AllReadyH.cons (List.getElem?_toArray.trans rfl) (fun K hK => ?_) AllReadyH.nil)
              go_simp
              refine hK.out _ _ trivial (fun hHeld => ?_)
              clear hK K
              (first | simp only [pA, pZ, pS] | simp only [pN] | skip)
              refine wpAnyH_ready (rs := [12]) (by kernel_rfl) (by simp) (AllReadyH.cons (List.getElem?_toArray.trans rfl) (fun K hK => ?_) AllReadyH.nil)
              go_simp
              (go_at_call 97; refine (tokWith_tok p0 p1 p2 (some ⟨fb, fo, none⟩) T f Z.wE w6 HTK.out hT3 HFC.out).mono ?_; rintro e' w7 ⟨q0, q1, q2, rfl, HTQ, hb7⟩)
              (try go_wp2_with fail)
              refine hK.out _ _ trivial (fun hHeld => ?_)
              clear hK K
              (first | simp only [pA, pZ, pS] | simp only [pN] | skip)
              have B7 := hidP (B6.out.trans (hb7.mono B6.out.size))
              have e9 := cell_below hb7 e8
              clear hb7
              refine wpAnyH_ready (rs := [13]) (by kernel_rfl) (by simp) (AllReadyH.cons (List.getElem?_toArray.trans rfl) (fun K hK => ?_) AllReadyH.nil)
              go_simp
              (go_at_call 92; (try rw [hwrap]); refine (HG1.out (pre ++ ys) w7 q0 q1 q2 (SXR.out.bel B7.out) (HJJ.out _ _ _ JR.out B7.out) HLE.out HTQ.out).mono ?_; intro e' w8 hpo; obtain ⟨b, rfl, HB1, HB0⟩ := hpo.one; clear hpo)
              (try go_wp2_with fail)
              refine hK.out _ _ trivial (fun hHeld => ?_)
              clear hK K
              (first | simp only [pA, pZ, pS] | simp only [pN] | skip)
              refine tk 14 hHeld ?_
              (try simp only [pA, pZ, pS])
              refine tk 15 hHeld ?_
              (try simp only [pA, pZ, pS])
              refine wpAnyH_done (by kernel_rfl) ?_ _
              refine NoPanic.normal ?_
              clear hwrap HG1 HLE HAG HTQ hHeld e0 e1 e2 e3 v0 v1 v2 e8 e9 d0 d1 d2 d3 u0 u1 u2 x0 hcell hJ
              cases b
              · have HBX := hidP (HB0.out rfl)
                clear HB0 HB1
                simp only [Bool.not_false]
                go_wp2_with fail
                go_ret
                exact .inr ⟨rfl, HBX.out⟩
              · obtain ⟨ys2, hl2, hj2, hk2⟩ := HB1.out rfl
                have HJ2 := hidP hj2
                have HL2 := hidP hl2
                have HK2 := hidP hk2
                clear hj2 hl2 hk2 HB1 HB0
                simp only [Bool.not_true]
                go_wp2_with fail
                go_roundw
                case rel => exact ⟨j + 1, ys ++ ys2, by go_num, by omega, by rw [HST.out, List.map_append, HYS.out, HL2.out], by rw [← List.append_assoc]; exact HJ2.out, KR.out.trans ((Kq.of_below B7.out).trans HK2.out)⟩
                case measure => (simp [intOf]; omega)
            · go_simp
              refine hK.out _ _ trivial (fun hHeld => ?_)
              clear hK K
              (first | simp only [pA, pZ, pS] | simp only [pN] | skip)
              refine wpAnyH_ready (rs := [8]) (by kernel_rfl) (by simp) (AllReadyH.cons (List.getElem?_toArray.trans rfl) (fun K hK => ?_) AllReadyH.nil)
              go_simp
              refine hK.out _ _ trivial (fun hHeld => ?_)
              clear hK K
              (first | simp only [pA, pZ, pS] | simp only [pN] | skip)
              refine wpAnyH_ready (rs := [12]) (by kernel_rfl) (by simp) (AllReadyH.cons (List.getElem?_toArray.trans rfl) (fun K hK => ?_) AllReadyH.nil)
              go_simp
              (go_at_call 97; refine (tokWith_tok p0 p1 p2 (some ⟨fb, fo, none⟩) T f Z.wE w6 HTK.out hT3 HFC.out).mono ?_; rintro e' w7 ⟨q0, q1, q2, rfl, HTQ, hb7⟩)
              (try go_wp2_with fail)
              refine hK.out _ _ trivial (fun hHeld => ?_)
              clear hK K
              (first | simp only [pA, pZ, pS] | simp only [pN] | skip)
              have B7 := hidP (B6.out.trans (hb7.mono B6.out.size))
              have e9 := cell_below hb7 e8
              clear hb7
              refine wpAnyH_ready (rs := [13]) (by kernel_rfl) (by simp) (AllReadyH.cons (List.getElem?_toArray.trans rfl) (fun K hK => ?_) AllReadyH.nil)
              go_simp
              (go_at_call 92; (try rw [hwrap]); refine (HG1.out (pre ++ ys) w7 q0 q1 q2 (SXR.out.bel B7.out) (HJJ.out _ _ _ JR.out B7.out) HLE.out HTQ.out).mono ?_; intro e' w8 hpo; obtain ⟨b, rfl, HB1, HB0⟩ := hpo.one; clear hpo)
              (try go_wp2_with fail)
              refine hK.out _ _ trivial (fun hHeld => ?_)
              clear hK K
              (first | simp only [pA, pZ, pS] | simp only [pN] | skip)
              refine tk 14 hHeld ?_
              (try simp only [pA, pZ, pS])
              refine tk 15 hHeld ?_
              (try simp only [pA, pZ, pS])
              refine wpAnyH_done (by kernel_rfl) ?_ _
              refine NoPanic.normal ?_
              clear hwrap HG1 HLE HAG HTQ hHeld e0 e1 e2 e3 v0 v1 v2 e8 e9 d0 d1 d2 d3 u0 u1 u2 x0 hcell hJ
              cases b
              · have HBX := hidP (HB0.out rfl)
                clear HB0 HB1
                simp only [Bool.not_false]
                go_wp2_with fail
                go_ret
                exact .inr ⟨rfl, HBX.out⟩
              · obtain ⟨ys2, hl2, hj2, hk2⟩ := HB1.out rfl
                have HJ2 := hidP hj2
                have HL2 := hidP hl2
                have HK2 := hidP hk2
                clear hj2 hl2 hk2 HB1 HB0
                simp only [Bool.not_true]
                go_wp2_with fail
                go_roundw
                case rel => exact ⟨j + 1, ys ++ ys2, by go_num, by omega, by rw [HST.out, List.map_append, HYS.out, HL2.out], by rw [← List.append_assoc]; exact HJ2.out, KR.out.trans ((Kq.of_below B7.out).trans HK2.out)⟩
                case measure => (simp [intOf]; omega)
          · go_simp
            refine hK.out _ _ trivial (fun hHeld => ?_)
            clear hK K
            (first | simp only [pA, pZ, pS] | simp only [pN] | skip)
            refine wpAnyH_ready (rs := [5, 10]) (by kernel_rfl) (by simp) (AllReadyH.cons (List.getElem?_toArray.trans rfl) (fun K hK => ?_) (AllReadyH.cons (List.getElem?_toArray.trans rfl) (fun K hK => ?_) AllReadyH.nil))
            · go_simp
              refine hK.out _ _ trivial (fun hHeld => ?_)
              clear hK K
              (first | simp only [pA, pZ, pS] | simp only [pN] | skip)
              refine wpAnyH_ready (rs := [10]) (by kernel_rfl) (by simp) (AllReadyH.cons (List.getElem?_toArray.trans rfl) (fun K hK => ?_) AllReadyH.nil)
              go_simp
              refine hK.out _ _ trivial (fun hHeld => ?_)
              clear hK K
              (first | simp only [pA, pZ, pS] | simp only [pN] | skip)
              refine wpAnyH_ready (rs := [12]) (by kernel_rfl) (by simp) (AllReadyH.cons (List.getElem?_toArray.trans rfl) (fun K hK => ?_) AllReadyH.nil)
              go_simp
              (go_at_call 97; refine (tokWith_tok p0 p1 p2 (some ⟨fb, fo, none⟩) T f Z.wE w6 HTK.out hT3 HFC.out).mono ?_; rintro e' w7 ⟨q0, q1, q2, rfl, HTQ, hb7⟩)
              (try go_wp2_with fail)
              refine hK.out _ _ trivial (fun hHeld => ?_)
              clear hK K
              (first | simp only [pA, pZ, pS] | simp only [pN] | skip)
              have B7 := hidP (B6.out.trans (hb7.mono B6.out.size))
              have e9 := cell_below hb7 e8
              clear hb7
              refine wpAnyH_ready (rs := [13]) (by kernel_rfl) (by simp) (AllReadyH.cons (List.getElem?_toArray.trans rfl) (fun K hK => ?_) AllReadyH.nil)
              go_simp
              (go_at_call 92; (try rw [hwrap]); refine (HG1.out (pre ++ ys) w7 q0 q1 q2 (SXR.out.bel B7.out) (HJJ.out _ _ _ JR.out B7.out) HLE.out HTQ.out).mono ?_; intro e' w8 hpo; obtain ⟨b, rfl, HB1, HB0⟩ := hpo.one; clear hpo)
              (try go_wp2_with fail)
              refine hK.out _ _ trivial (fun hHeld => ?_)
              clear hK K
              (first | simp only [pA, pZ, pS] | simp only [pN] | skip)
              refine tk 14 hHeld ?_
              (try simp only [pA, pZ, pS])
              refine tk 15 hHeld ?_
              (try simp only [pA, pZ, pS])
              refine wpAnyH_done (by kernel_rfl) ?_ _
              refine NoPanic.normal ?_
              clear hwrap HG1 HLE HAG HTQ hHeld e0 e1 e2 e3 v0 v1 v2 e8 e9 d0 d1 d2 d3 u0 u1 u2 x0 hcell hJ
              cases b
              · have HBX := hidP (HB0.out rfl)
                clear HB0 HB1
                simp only [Bool.not_false]
                go_wp2_with fail
                go_ret
                exact .inr ⟨rfl, HBX.out⟩
              · obtain ⟨ys2, hl2, hj2, hk2⟩ := HB1.out rfl
                have HJ2 := hidP hj2
                have HL2 := hidP hl2
                have HK2 := hidP hk2
                clear hj2 hl2 hk2 HB1 HB0
                simp only [Bool.not_true]
                go_wp2_with fail
                go_roundw
                case rel => exact ⟨j + 1, ys ++ ys2, by go_num, by omega, by rw [HST.out, List.map_append, HYS.out, HL2.out], by rw [← List.append_assoc]; exact HJ2.out, KR.out.trans ((Kq.of_below B7.out).trans HK2.out)⟩
                case measure => (simp [intOf]; omega)
            · go_simp
              refine hK.out _ _ trivial (fun hHeld => ?_)
              clear hK K
              (first | simp only [pA, pZ, pS] | simp only [pN] | skip)
              refine wpAnyH_ready (rs := [5, 12]) (by kernel_rfl) (by simp) (AllReadyH.cons (List.getElem?_toArray.trans rfl) (fun K hK => ?_) (AllReadyH.cons (List.getElem?_toArray.trans rfl) (fun K hK => ?_) AllReadyH.nil))
              · go_simp
                refine hK.out _ _ trivial (fun hHeld => ?_)
                clear hK K
                (first | simp only [pA, pZ, pS] | simp only [pN] | skip)
                refine wpAnyH_ready (rs := [12]) (by kernel_rfl) (by simp) (AllReadyH.cons (List.getElem?_toArray.trans rfl) (fun K hK => ?_) AllReadyH.nil)
                go_simp
                (go_at_call 97; refine (tokWith_tok p0 p1 p2 (some ⟨fb, fo, none⟩) T f Z.wE w6 HTK.out hT3 HFC.out).mono ?_; rintro e' w7 ⟨q0, q1, q2, rfl, HTQ, hb7⟩)
                (try go_wp2_with fail)
                refine hK.out _ _ trivial (fun hHeld => ?_)
                clear hK K
                (first | simp only [pA, pZ, pS] | simp only [pN] | skip)
                have B7 := hidP (B6.out.trans (hb7.mono B6.out.size))
                have e9 := cell_below hb7 e8
                clear hb7
                refine wpAnyH_ready (rs := [13]) (by kernel_rfl) (by simp) (AllReadyH.cons (List.getElem?_toArray.trans rfl) (fun K hK => ?_) AllReadyH.nil)
                go_simp
                (go_at_call 92; (try rw [hwrap]); refine (HG1.out (pre ++ ys) w7 q0 q1 q2 (SXR.out.bel B7.out) (HJJ.out _ _ _ JR.out B7.out) HLE.out HTQ.out).mono ?_; intro e' w8 hpo; obtain ⟨b, rfl, HB1, HB0⟩ := hpo.one; clear hpo)
                (try go_wp2_with fail)
                refine hK.out _ _ trivial (fun hHeld => ?_)
                clear hK K
                (first | simp only [pA, pZ, pS] | simp only [pN] | skip)
                refine tk 14 hHeld ?_
                (try simp only [pA, pZ, pS])
                refine tk 15 hHeld ?_
                (try simp only [pA, pZ, pS])
                refine wpAnyH_done (by kernel_rfl) ?_ _
                refine NoPanic.normal ?_
                clear hwrap HG1 HLE HAG HTQ hHeld e0 e1 e2 e3 v0 v1 v2 e8 e9 d0 d1 d2 d3 u0 u1 u2 x0 hcell hJ
                cases b
                · have HBX := hidP (HB0.out rfl)
                  clear HB0 HB1
                  simp only [Bool.not_false]
                  go_wp2_with fail
                  go_ret
                  exact .inr ⟨rfl, HBX.out⟩
                · obtain ⟨ys2, hl2, hj2, hk2⟩ := HB1.out rfl
                  have HJ2 := hidP hj2
                  have HL2 := hidP hl2
                  have HK2 := hidP hk2
                  clear hj2 hl2 hk2 HB1 HB0
                  simp only [Bool.not_true]
                  go_wp2_with fail
                  go_roundw
                  case rel => exact ⟨j + 1, ys ++ ys2, by go_num, by omega, by rw [HST.out, List.map_append, HYS.out, HL2.out], by rw [← List.append_assoc]; exact HJ2.out, KR.out.trans ((Kq.of_below B7.out).trans HK2.out)⟩
                  case measure => (simp [intOf]; omega)
              · go_simp
                (go_at_call 97; refine (tokWith_tok p0 p1 p2 (some ⟨fb, fo, none⟩) T f Z.wE w6 HTK.out hT3 HFC.out).mono ?_; rintro e' w7 ⟨q0, q1, q2, rfl, HTQ, hb7⟩)
                (try go_wp2_with fail)
                refine hK.out _ _ trivial (fun hHeld => ?_)
                clear hK K
                (first | simp only [pA, pZ, pS] | simp only [pN] | skip)
                have B7 := hidP (B6.out.trans (hb7.mono B6.out.size))
                have e9 := cell_below hb7 e8
                clear hb7
                refine wpAnyH_ready (rs := [5]) (by kernel_rfl) (by simp) (AllReadyH.cons (List.getElem?_toArray.trans rfl) (fun K hK => ?_) AllReadyH.nil)
                go_simp
                refine hK.out _ _ trivial (fun hHeld => ?_)
                clear hK K
                (first | simp only [pA, pZ, pS] | simp only [pN] | skip)
                refine wpAnyH_ready (rs := [13]) (by kernel_rfl) (by simp) (AllReadyH.cons (List.getElem?_toArray.trans rfl) (fun K hK => ?_) AllReadyH.nil)
                go_simp
                (go_at_call 92; (try rw [hwrap]); refine (HG1.out (pre ++ ys) w7 q0 q1 q2 (SXR.out.bel B7.out) (HJJ.out _ _ _ JR.out B7.out) HLE.out HTQ.out).mono ?_; intro e' w8 hpo; obtain ⟨b, rfl, HB1, HB0⟩ := hpo.one; clear hpo)
                (try go_wp2_with fail)
                refine hK.out _ _ trivial (fun hHeld => ?_)
                clear hK K
                (first | simp only [pA, pZ, pS] | simp only [pN] | skip)
                refine tk 14 hHeld ?_
                (try simp only [pA, pZ, pS])
                refine tk 15 hHeld ?_
                (try simp only [pA, pZ, pS])
                refine wpAnyH_done (by kernel_rfl) ?_ _
                refine NoPanic.normal ?_
                clear hwrap HG1 HLE HAG HTQ hHeld e0 e1 e2 e3 v0 v1 v2 e8 e9 d0 d1 d2 d3 u0 u1 u2 x0 hcell hJ
                cases b
                · have HBX := hidP (HB0.out rfl)
                  clear HB0 HB1
                  simp only [Bool.not_false]
                  go_wp2_with fail
                  go_ret
                  exact .inr ⟨rfl, HBX.out⟩
                · obtain ⟨ys2, hl2, hj2, hk2⟩ := HB1.out rfl
                  have HJ2 := hidP hj2
                  have HL2 := hidP hl2
                  have HK2 := hidP hk2
                  clear hj2 hl2 hk2 HB1 HB0
                  simp only [Bool.not_true]
                  go_wp2_with fail
                  go_roundw
                  case rel => exact ⟨j + 1, ys ++ ys2, by go_num, by omega, by rw [HST.out, List.map_append, HYS.out, HL2.out], by rw [← List.append_assoc]; exact HJ2.out, KR.out.trans ((Kq.of_below B7.out).trans HK2.out)⟩
                  case measure => (simp [intOf]; omega)
          · go_simp
            refine hK.out _ _ trivial (fun hHeld => ?_)
            clear hK K
            (first | simp only [pA, pZ, pS] | simp only [pN] | skip)
            refine wpAnyH_ready (rs := [5, 8]) (by kernel_rfl) (by simp) (AllReadyH.cons (List.getElem?_toArray.trans rfl) (fun K hK => ?_) (AllReadyH.cons (List.getElem?_toArray.trans rfl) (fun K hK => ?_) AllReadyH.nil))
            · go_simp
              refine hK.out _ _ trivial (fun hHeld => ?_)
              clear hK K
              (first | simp only [pA, pZ, pS] | simp only [pN] | skip)
              refine wpAnyH_ready (rs := [8]) (by kernel_rfl) (by simp) (AllReadyH.cons (List.getElem?_toArray.trans rfl) (fun K hK => ?_) AllReadyH.nil)
              go_simp
              refine hK.out _ _ trivial (fun hHeld => ?_)
              clear hK K
              (first | simp only [pA, pZ, pS] | simp only [pN] | skip)
              refine wpAnyH_ready (rs := [12]) (by kernel_rfl) (by simp) (AllReadyH.cons (List.getElem?_toArray.trans rfl) (fun K hK => ?_) AllReadyH.nil)
              go_simp
              (go_at_call 97; refine (tokWith_tok p0 p1 p2 (some ⟨fb, fo, none⟩) T f Z.wE w6 HTK.out hT3 HFC.out).mono ?_; rintro e' w7 ⟨q0, q1, q2, rfl, HTQ, hb7⟩)
              (try go_wp2_with fail)
              refine hK.out _ _ trivial (fun hHeld => ?_)
              clear hK K
              (first | simp only [pA, pZ, pS] | simp only [pN] | skip)
              have B7 := hidP (B6.out.trans (hb7.mono B6.out.size))
              have e9 := cell_below hb7 e8
              clear hb7
              refine wpAnyH_ready (rs := [13]) (by kernel_rfl) (by simp) (AllReadyH.cons (List.getElem?_toArray.trans rfl) (fun K hK => ?_) AllReadyH.nil)
              go_simp
              (go_at_call 92; (try rw [hwrap]); refine (HG1.out (pre ++ ys) w7 q0 q1 q2 (SXR.out.bel B7.out) (HJJ.out _ _ _ JR.out B7.out) HLE.out HTQ.out).mono ?_; intro e' w8 hpo; obtain ⟨b, rfl, HB1, HB0⟩ := hpo.one; clear hpo)
              (try go_wp2_with fail)
              refine hK.out _ _ trivial (fun hHeld => ?_)
              clear hK K
              (first | simp only [pA, pZ, pS] | simp only [pN] | skip)
              refine tk 14 hHeld ?_
              (try simp only [pA, pZ, pS])
              refine tk 15 hHeld ?_
              (try simp only [pA, pZ, pS])
              refine wpAnyH_done (by kernel_rfl) ?_ _
              refine NoPanic.normal ?_
              clear hwrap HG1 HLE HAG HTQ hHeld e0 e1 e2 e3 v0 v1 v2 e8 e9 d0 d1 d2 d3 u0 u1 u2 x0 hcell hJ
              cases b
              · have HBX := hidP (HB0.out rfl)
                clear HB0 HB1
                simp only [Bool.not_false]
                go_wp2_with fail
                go_ret
                exact .inr ⟨rfl, HBX.out⟩
              · obtain ⟨ys2, hl2, hj2, hk2⟩ := HB1.out rfl
                have HJ2 := hidP hj2
                have HL2 := hidP hl2
                have HK2 := hidP hk2
                clear hj2 hl2 hk2 HB1 HB0
                simp only [Bool.not_true]
                go_wp2_with fail
                go_roundw
                case rel => exact ⟨j + 1, ys ++ ys2, by go_num, by omega, by rw [HST.out, List.map_append, HYS.out, HL2.out], by rw [← List.append_assoc]; exact HJ2.out, KR.out.trans ((Kq.of_below B7.out).trans HK2.out)⟩
                case measure => (simp [intOf]; omega)
            · go_simp
              refine hK.out _ _ trivial (fun hHeld => ?_)
              clear hK K
              (first | simp only [pA, pZ, pS] | simp only [pN] | skip)
              refine wpAnyH_ready (rs := [5, 12]) (by kernel_rfl) (by simp) (AllReadyH.cons (List.getElem?_toArray.trans rfl) (fun K hK => ?_) (AllReadyH.cons (List.getElem?_toArray.trans rfl) (fun K hK => ?_) AllReadyH.nil))
              · go_simp
                refine hK.out _ _ trivial (fun hHeld => ?_)
                clear hK K
                (first | simp only [pA, pZ, pS] | simp only [pN] | skip)
                refine wpAnyH_ready (rs := [12]) (by kernel_rfl) (by simp) (AllReadyH.cons (List.getElem?_toArray.trans rfl) (fun K hK => ?_) AllReadyH.nil)
                go_simp
                (go_at_call 97; refine (tokWith_tok p0 p1 p2 (some ⟨fb, fo, none⟩) T f Z.wE w6 HTK.out hT3 HFC.out).mono ?_; rintro e' w7 ⟨q0, q1, q2, rfl, HTQ, hb7⟩)
                (try go_wp2_with fail)
                refine hK.out _ _ trivial (fun hHeld => ?_)
                clear hK K
                (first | simp only [pA, pZ, pS] | simp only [pN] | skip)
                have B7 := hidP (B6.out.trans (hb7.mono B6.out.size))
                have e9 := cell_below hb7 e8
                clear hb7
                refine wpAnyH_ready (rs := [13]) (by kernel_rfl) (by simp) (AllReadyH.cons (List.getElem?_toArray.trans rfl) (fun K hK => ?_) AllReadyH.nil)
                go_simp
                (go_at_call 92; (try rw [hwrap]); refine (HG1.out (pre ++ ys) w7 q0 q1 q2 (SXR.out.bel B7.out) (HJJ.out _ _ _ JR.out B7.out) HLE.out HTQ.out).mono ?_; intro e' w8 hpo; obtain ⟨b, rfl, HB1, HB0⟩ := hpo.one; clear hpo)
                (try go_wp2_with fail)
                refine hK.out _ _ trivial (fun hHeld => ?_)
                clear hK K
                (first | simp only [pA, pZ, pS] | simp only [pN] | skip)
                refine tk 14 hHeld ?_
                (try simp only [pA, pZ, pS])
                refine tk 15 hHeld ?_
                (try simp only [pA, pZ, pS])
                refine wpAnyH_done (by kernel_rfl) ?_ _
                refine NoPanic.normal ?_
                clear hwrap HG1 HLE HAG HTQ hHeld e0 e1 e2 e3 v0 v1 v2 e8 e9 d0 d1 d2 d3 u0 u1 u2 x0 hcell hJ
                cases b
                · have HBX := hidP (HB0.out rfl)
                  clear HB0 HB1
                  simp only [Bool.not_false]
                  go_wp2_with fail
                  go_ret
                  exact .inr ⟨rfl, HBX.out⟩
                · obtain ⟨ys2, hl2, hj2, hk2⟩ := HB1.out rfl
                  have HJ2 := hidP hj2
                  have HL2 := hidP hl2
                  have HK2 := hidP hk2
                  clear hj2 hl2 hk2 HB1 HB0
                  simp only [Bool.not_true]
                  go_wp2_with fail
                  go_roundw
                  case rel => exact ⟨j + 1, ys ++ ys2, by go_num, by omega, by rw [HST.out, List.map_append, HYS.out, HL2.out], by rw [← List.append_assoc]; exact HJ2.out, KR.out.trans ((Kq.of_below B7.out).trans HK2.out)⟩
                  case measure => (simp [intOf]; omega)
              · go_simp
                (go_at_call 97; refine (tokWith_tok p0 p1 p2 (some ⟨fb, fo, none⟩) T f Z.wE w6 HTK.out hT3 HFC.out).mono ?_; rintro e' w7 ⟨q0, q1, q2, rfl, HTQ, hb7⟩)
                (try go_wp2_with fail)
                refine hK.out _ _ trivial (fun hHeld => ?_)
                clear hK K
                (first | simp only [pA, pZ, pS] | simp only [pN] | skip)
                have B7 := hidP (B6.out.trans (hb7.mono B6.out.size))
                have e9 := cell_below hb7 e8
                clear hb7
                refine wpAnyH_ready (rs := [5]) (by kernel_rfl) (by simp) (AllReadyH.cons (List.getElem?_toArray.trans rfl) (fun K hK => ?_) AllReadyH.nil)
                go_simp
                refine hK.out _ _ trivial (fun hHeld => ?_)
                clear hK K
                (first | simp only [pA, pZ, pS] | simp only [pN] | skip)
                refine wpAnyH_ready (rs := [13]) (by kernel_rfl) (by simp) (AllReadyH.cons (List.getElem?_toArray.trans rfl) (fun K hK => ?_) AllReadyH.nil)
                go_simp
                (go_at_call 92; (try rw [hwrap]); refine (HG1.out (pre ++ ys) w7 q0 q1 q2 (SXR.out.bel B7.out) (HJJ.out _ _ _ JR.out B7.out) HLE.out HTQ.out).mono ?_; intro e' w8 hpo; obtain ⟨b, rfl, HB1, HB0⟩ := hpo.one; clear hpo)
                (try go_wp2_with fail)
                refine hK.out _ _ trivial (fun hHeld => ?_)
                clear hK K
                (first | simp only [pA, pZ, pS] | simp only [pN] | skip)
                refine tk 14 hHeld ?_
                (try simp only [pA, pZ, pS])
                refine tk 15 hHeld ?_
                (try simp only [pA, pZ, pS])
                refine wpAnyH_done (by kernel_rfl) ?_ _
                refine NoPanic.normal ?_
                clear hwrap HG1 HLE HAG HTQ hHeld e0 e1 e2 e3 v0 v1 v2 e8 e9 d0 d1 d2 d3 u0 u1 u2 x0 hcell hJ
                cases b
                · have HBX := hidP (HB0.out rfl)
                  clear HB0 HB1
                  simp only [Bool.not_false]
                  go_wp2_with fail
                  go_ret
                  exact .inr ⟨rfl, HBX.out⟩
                · obtain ⟨ys2, hl2, hj2, hk2⟩ := HB1.out rfl
                  have HJ2 := hidP hj2
                  have HL2 := hidP hl2
                  have HK2 := hidP hk2
                  clear hj2 hl2 hk2 HB1 HB0
                  simp only [Bool.not_true]
                  go_wp2_with fail
                  go_roundw
                  case rel => exact ⟨j + 1, ys ++ ys2, by go_num, by omega, by rw [HST.out, List.map_append, HYS.out, HL2.out], by rw [← List.append_assoc]; exact HJ2.out, KR.out.trans ((Kq.of_below B7.out).trans HK2.out)⟩
                  case measure => (simp [intOf]; omega)
        · go_simp
          refine hK.out _ _ trivial (fun hHeld => ?_)
          clear hK K
          (first | simp only [pA, pZ, pS] | simp only [pN] | skip)
          refine wpAnyH_ready (rs := [0]) (by kernel_rfl) (by simp) (AllReadyH.cons (List.getElem?_toArray.trans rfl) (fun K hK => ?_) AllReadyH.nil)
          go_simp
          refine hK.out _ _ trivial (fun hHeld => ?_)
          clear hK K
          (first | simp only [pA, pZ, pS] | simp only [pN] | skip)
          refine wpAnyH_ready (rs := [3]) (by kernel_rfl) (by simp) (AllReadyH.cons (List.getElem?_toArray.trans rfl) (fun K hK => ?_) AllReadyH.nil)
          go_simp
          (go_at_call 96; refine (HAG.out _ (Below.refl _ _).drew).mono ?_; rintro e' w6 ⟨rfl, hb6⟩)
          (try go_wp2_with fail)
          refine hK.out _ _ trivial (fun hHeld => ?_)
          clear hK K
          (first | simp only [pA, pZ, pS] | simp only [pN] | skip)
          have e0 := cell_below hb6 d0
          have e1 := cell_below hb6 d1
          have e2 := cell_below hb6 d2
          have e3 := cell_below hb6 d3
          have v0 := cell_below hb6 u0
          have v1 := cell_below hb6 u1
          have v2 := cell_below hb6 u2
          have e8 := cell_below hb6 x0
          have B6 := hidP (show Below wr.heap.size wr w6 from (Below.refl _ _).drew.trans (hb6.mono (by simp)))
          clear hb6
          refine tk 4 hHeld ?_
          (try simp only [pA, pZ, pS])
          refine tk 6 hHeld ?_
          (try simp only [pA, pZ, pS])
          refine tk 7 hHeld ?_
          (try simp only [pA, pZ, pS])
          refine tk 9 hHeld ?_
          (try simp only [pA, pZ, pS])
          refine tk 11 hHeld ?_
          (try simp only [pA, pZ, pS])
          refine wpAnyH_ready (rs := [5, 8, 10]) (by kernel_rfl) (by simp) (AllReadyH.cons (List.getElem?_toArray.trans rfl) (fun K hK => ?_) (AllReadyH.cons (List.getElem?_toArray.trans rfl) (fun K hK => ?_) (AllReadyH.cons (List.getElem?_toArray.trans rfl) (fun K hK => ?_) AllReadyH.nil)))
          · go_simp
            refine hK.out _ _ trivial (fun hHeld => ?_)
            clear hK K
            (first | simp only [pA, pZ, pS] | simp only [pN] | skip)
            refine wpAnyH_ready (rs := [8, 10]) (by kernel_rfl) (by simp) (AllReadyH.cons (List.getElem?_toArray.trans rfl) (fun K hK => ?_) (AllReadyH.cons (List.getElem?_toArray.trans rfl) (fun K hK => ?_) AllReadyH.nil))
            · go_simp
              refine hK.out _ _ trivial (fun hHeld => ?_)
              clear hK K
              (first | simp only [pA, pZ, pS] | simp only [pN] | skip)
              refine wpAnyH_ready (rs := [10]) (by kernel_rfl) (by simp) (AllReadyH.cons (List.getElem?_toArray.trans rfl) (fun K hK => ?_) AllReadyH.nil)
              go_simp
              refine hK.out _ _ trivial (fun hHeld => ?_)
              clear hK K
              (first | simp only [pA, pZ, pS] | simp only [pN] | skip)
              refine wpAnyH_ready (rs := [12]) (by kernel_rfl) (by simp) (AllReadyH.cons (List.getElem?_toArray.trans rfl) (fun K hK => ?_) AllReadyH.nil)
              go_simp
              (go_at_call 97; refine (tokWith_tok p0 p1 p2 (some ⟨fb, fo, none⟩) T f Z.wE w6 HTK.out hT3 HFC.out).mono ?_; rintro e' w7 ⟨q0, q1, q2, rfl, HTQ, hb7⟩)
              (try go_wp2_with fail)
              refine hK.out _ _ trivial (fun hHeld => ?_)
              clear hK K
              (first | simp only [pA, pZ, pS] | simp only [pN] | skip)
              have B7 := hidP (B6.out.trans (hb7.mono B6.out.size))
              have e9 := cell_below hb7 e8
              clear hb7
              refine wpAnyH_ready (rs := [13]) (by kernel_rfl) (by simp) (AllReadyH.cons (List.getElem?_toArray.trans rfl) (fun K hK => ?_) AllReadyH.nil)
              go_simp
              (go_at_call 92; (try rw [hwrap]); refine (HG1.out (pre ++ ys) w7 q0 q1 q2 (SXR.out.bel B7.out) (HJJ.out _ _ _ JR.out B7.out) HLE.out HTQ.out).mono ?_; intro e' w8 hpo; obtain ⟨b, rfl, HB1, HB0⟩ := hpo.one; clear hpo)
              (try go_wp2_with fail)
              refine hK.out _ _ trivial (fun hHeld => ?_)
              clear hK K
              (first | simp only [pA, pZ, pS] | simp only [pN] | skip)
              refine tk 14 hHeld ?_
              (try simp only [pA, pZ, pS])
              refine tk 15 hHeld ?_
              (try simp only [pA, pZ, pS])
              refine wpAnyH_done (by kernel_rfl) ?_ _
              refine NoPanic.normal ?_
              clear hwrap HG1 HLE HAG HTQ hHeld e0 e1 e2 e3 v0 v1 v2 e8 e9 d0 d1 d2 d3 u0 u1 u2 x0 hcell hJ
              cases b
              · have HBX := hidP (HB0.out rfl)
                clear HB0 HB1
                simp only [Bool.not_false]
                go_wp2_with fail
                go_ret
                exact .inr ⟨rfl, HBX.out⟩
              · obtain ⟨ys2, hl2, hj2, hk2⟩ := HB1.out rfl
                have HJ2 := hidP hj2
                have HL2 := hidP hl2
                have HK2 := hidP hk2
                clear hj2 hl2 hk2 HB1 HB0
                simp only [Bool.not_true]
                go_wp2_with fail
                go_roundw
                case rel => exact ⟨j + 1, ys ++ ys2, by go_num, by omega, by rw [HST.out, List.map_append, HYS.out, HL2.out], by rw [← List.append_assoc]; exact HJ2.out, KR.out.trans ((Kq.of_below B7.out).trans HK2.out)⟩
                case measure => (simp [intOf]; omega)
            · go_simp
              refine hK.out _ _ trivial (fun hHeld => ?_)
              clear hK K
              (first | simp only [pA, pZ, pS] | simp only [pN] | skip)
              refine wpAnyH_ready (rs := [8]) (by kernel_rfl) (by simp) (AllReadyH.cons (List.getElem?_toArray.trans rfl) (fun K hK => ?_) AllReadyH.nil)
              go_simp
              refine hK.out _ _ trivial (fun hHeld => ?_)
              clear hK K
              (first | simp only [pA, pZ, pS] | simp only [pN] | skip)
              refine wpAnyH_ready (rs := [12]) (by kernel_rfl) (by simp) (AllReadyH.cons (List.getElem?_toArray.trans rfl) (fun K hK => ?_) AllReadyH.nil)
              go_simp
              (go_at_call 97; refine (tokWith_tok p0 p1 p2 (some ⟨fb, fo, none⟩) T f Z.wE w6 HTK.out hT3 HFC.out).mono ?_; rintro e' w7 ⟨q0, q1, q2, rfl, HTQ, hb7⟩)
              (try go_wp2_with fail)
              refine hK.out _ _ trivial (fun hHeld => ?_)
              clear hK K
              (first | simp only [pA, pZ, pS] | simp only [pN] | skip)
              have B7 := hidP (B6.out.trans (hb7.mono B6.out.size))
              have e9 := cell_below hb7 e8
              clear hb7
              refine wpAnyH_ready (rs := [13]) (by kernel_rfl) (by simp) (AllReadyH.cons (List.getElem?_toArray.trans rfl) (fun K hK => ?_) AllReadyH.nil)
              go_simp
              (go_at_call 92; (try rw [hwrap]); refine (HG1.out (pre ++ ys) w7 q0 q1 q2 (SXR.out.bel B7.out) (HJJ.out _ _ _ JR.out B7.out) HLE.out HTQ.out).mono ?_; intro e' w8 hpo; obtain ⟨b, rfl, HB1, HB0⟩ := hpo.one; clear hpo)
              (try go_wp2_with fail)
              refine hK.out _ _ trivial (fun hHeld => ?_)
              clear hK K
              (first | simp only [pA, pZ, pS] | simp only [pN] | skip)
              refine tk 14 hHeld ?_
              (try simp only [pA, pZ, pS])
              refine tk 15 hHeld ?_
              (try simp only [pA, pZ, pS])
              refine wpAnyH_done (by kernel_rfl) ?_ _
              refine NoPanic.normal ?_
              clear hwrap HG1 HLE HAG HTQ hHeld e0 e1 e2 e3 v0 v1 v2 e8 e9 d0 d1 d2 d3 u0 u1 u2 x0 hcell hJ
              cases b
              · have HBX := hidP (HB0.out rfl)
                clear HB0 HB1
                simp only [Bool.not_false]
                go_wp2_with fail
                go_ret
                exact .inr ⟨rfl, HBX.out⟩
              · obtain ⟨ys2, hl2, hj2, hk2⟩ := HB1.out rfl
                have HJ2 := hidP hj2
                have HL2 := hidP hl2
                have HK2 := hidP hk2
                clear hj2 hl2 hk2 HB1 HB0
                simp only [Bool.not_true]
                go_wp2_with fail
                go_roundw
                case rel => exact ⟨j + 1, ys ++ ys2, by go_num, by omega, by rw [HST.out, List.map_append, HYS.out, HL2.out], by rw [← List.append_assoc]; exact HJ2.out, KR.out.trans ((Kq.of_below B7.out).trans HK2.out)⟩
                case measure => (simp [intOf]; omega)
          · go_simp
            refine hK.out _ _ trivial (fun hHeld => ?_)
            clear hK K
            (first | simp only [pA, pZ, pS] | simp only [pN] | skip)
            refine wpAnyH_ready (rs := [5, 10]) (by kernel_rfl) (by simp) (AllReadyH.cons (List.getElem?_toArray.trans rfl) (fun K hK => ?_) (AllReadyH.cons (List.getElem?_toArray.trans rfl) (fun K hK => ?_) AllReadyH.nil))
            · go_simp
              refine hK.out _ _ trivial (fun hHeld => ?_)
              clear hK K
              (first | simp only [pA, pZ, pS] | simp only [pN] | skip)
              refine wpAnyH_ready (rs := [10]) (by kernel_rfl) (by simp) (AllReadyH.cons (List.getElem?_toArray.trans rfl) (fun K hK => ?_) AllReadyH.nil)
              go_simp
              refine hK.out _ _ trivial (fun hHeld => ?_)
              clear hK K
              (first | simp only [pA, pZ, pS] | simp only [pN] | skip)
              refine wpAnyH_ready (rs := [12]) (by kernel_rfl) (by simp) (AllReadyH.cons (List.getElem?_toArray.trans rfl) (fun K hK => ?_) AllReadyH.nil)
              go_simp
              (go_at_call 97; refine (tokWith_tok p0 p1 p2 (some ⟨fb, fo, none⟩) T f Z.wE w6 HTK.out hT3 HFC.out).mono ?_; rintro e' w7 ⟨q0, q1, q2, rfl, HTQ, hb7⟩)
              (try go_wp2_with fail)
              refine hK.out _ _ trivial (fun hHeld => ?_)
              clear hK K
              (first | simp only [pA, pZ, pS] | simp only [pN] | skip)
              have B7 := hidP (B6.out.trans (hb7.mono B6.out.size))
              have e9 := cell_below hb7 e8
              clear hb7
              refine wpAnyH_ready (rs := [13]) (by kernel_rfl) (by simp) (AllReadyH.cons (List.getElem?_toArray.trans rfl) (fun K hK => ?_) AllReadyH.nil)
              go_simp
              (go_at_call 92; (try rw [hwrap]); refine (HG1.out (pre ++ ys) w7 q0 q1 q2 (SXR.out.bel B7.out) (HJJ.out _ _ _ JR.out B7.out) HLE.out HTQ.out).mono ?_; intro e' w8 hpo; obtain ⟨b, rfl, HB1, HB0⟩ := hpo.one; clear hpo)
              (try go_wp2_with fail)
              refine hK.out _ _ trivial (fun hHeld => ?_)
              clear hK K
              (first | simp only [pA, pZ, pS] | simp only [pN] | skip)
              refine tk 14 hHeld ?_
              (try simp only [pA, pZ, pS])
              refine tk 15 hHeld ?_
              (try simp only [pA, pZ, pS])
              refine wpAnyH_done (by kernel_rfl) ?_ _
              refine NoPanic.normal ?_
              clear hwrap HG1 HLE HAG HTQ hHeld e0 e1 e2 e3 v0 v1 v2 e8 e9 d0 d1 d2 d3 u0 u1 u2 x0 hcell hJ
              cases b
              · have HBX := hidP (HB0.out rfl)
                clear HB0 HB1
                simp only [Bool.not_false]
                go_wp2_with fail
                go_ret
                exact .inr ⟨rfl, HBX.out⟩
              · obtain ⟨ys2, hl2, hj2, hk2⟩ := HB1.out rfl
                have HJ2 := hidP hj2
                have HL2 := hidP hl2
                have HK2 := hidP hk2
                clear hj2 hl2 hk2 HB1 HB0
                simp only [Bool.not_true]
                go_wp2_with fail
                go_roundw
                case rel => exact ⟨j + 1, ys ++ ys2, by go_num, by omega, by rw [HST.out, List.map_append, HYS.out, HL2.out], by rw [← List.append_assoc]; exact HJ2.out, KR.out.trans ((Kq.of_below B7.out).trans HK2.out)⟩
                case measure => (simp [intOf]; omega)
            · go_simp
              refine hK.out _ _ trivial (fun hHeld => ?_)
              clear hK K
              (first | simp only [pA, pZ, pS] | simp only [pN] | skip)
              refine wpAnyH_ready (rs := [5, 12]) (by kernel_rfl) (by simp) (AllReadyH.cons (List.getElem?_toArray.trans rfl) (fun K hK => ?_) (AllReadyH.cons (List.getElem?_toArray.trans rfl) (fun K hK => ?_) AllReadyH.nil))
              · go_simp
                refine hK.out _ _ trivial (fun hHeld => ?_)
                clear hK K
                (first | simp only [pA, pZ, pS] | simp only [pN] | skip)
                refine wpAnyH_ready (rs := [12]) (by kernel_rfl) (by simp) (AllReadyH.cons (List.getElem?_toArray.trans rfl) (fun K hK => ?_) AllReadyH.nil)
                go_simp
                (go_at_call 97; refine (tokWith_tok p0 p1 p2 (some ⟨fb, fo, none⟩) T f Z.wE w6 HTK.out hT3 HFC.out).mono ?_; rintro e' w7 ⟨q0, q1, q2, rfl, HTQ, hb7⟩)
                (try go_wp2_with fail)
                refine hK.out _ _ trivial (fun hHeld => ?_)
                clear hK K
                (first | simp only [pA, pZ, pS] | simp only [pN] | skip)
                have B7 := hidP (B6.out.trans (hb7.mono B6.out.size))
                have e9 := cell_below hb7 e8
                clear hb7
                refine wpAnyH_ready (rs := [13]) (by kernel_rfl) (by simp) (AllReadyH.cons (List.getElem?_toArray.trans rfl) (fun K hK => ?_) AllReadyH.nil)
                go_simp
                (go_at_call 92; (try rw [hwrap]); refine (HG1.out (pre ++ ys) w7 q0 q1 q2 (SXR.out.bel B7.out) (HJJ.out _ _ _ JR.out B7.out) HLE.out HTQ.out).mono ?_; intro e' w8 hpo; obtain ⟨b, rfl, HB1, HB0⟩ := hpo.one; clear hpo)
                (try go_wp2_with fail)
                refine hK.out _ _ trivial (fun hHeld => ?_)
                clear hK K
                (first | simp only [pA, pZ, pS] | simp only [pN] | skip)
                refine tk 14 hHeld ?_
                (try simp only [pA, pZ, pS])
                refine tk 15 hHeld ?_
                (try simp only [pA, pZ, pS])
                refine wpAnyH_done (by kernel_rfl) ?_ _
                refine NoPanic.normal ?_
                clear hwrap HG1 HLE HAG HTQ hHeld e0 e1 e2 e3 v0 v1 v2 e8 e9 d0 d1 d2 d3 u0 u1 u2 x0 hcell hJ
                cases b
                · have HBX := hidP (HB0.out rfl)
                  clear HB0 HB1
                  simp only [Bool.not_false]
                  go_wp2_with fail
                  go_ret
                  exact .inr ⟨rfl, HBX.out⟩
                · obtain ⟨ys2, hl2, hj2, hk2⟩ := HB1.out rfl
                  have HJ2 := hidP hj2
                  have HL2 := hidP hl2
                  have HK2 := hidP hk2
                  clear hj2 hl2 hk2 HB1 HB0
                  simp only [Bool.not_true]
                  go_wp2_with fail
                  go_roundw
                  case rel => exact ⟨j + 1, ys ++ ys2, by go_num, by omega, by rw [HST.out, List.map_append, HYS.out, HL2.out], by rw [← List.append_assoc]; exact HJ2.out, KR.out.trans ((Kq.of_below B7.out).trans HK2.out)⟩
                  case measure => (simp [intOf]; omega)
              · go_simp
                (go_at_call 97; refine (tokWith_tok p0 p1 p2 (some ⟨fb, fo, none⟩) T f Z.wE w6 HTK.out hT3 HFC.out).mono ?_; rintro e' w7 ⟨q0, q1, q2, rfl, HTQ, hb7⟩)
                (try go_wp2_with fail)
                refine hK.out _ _ trivial (fun hHeld => ?_)
                clear hK K
                (first | simp only [pA, pZ, pS] | simp only [pN] | skip)
                have B7 := hidP (B6.out.trans (hb7.mono B6.out.size))
                have e9 := cell_below hb7 e8
                clear hb7
                refine wpAnyH_ready (rs := [5]) (by kernel_rfl) (by simp) (AllReadyH.cons (List.getElem?_toArray.trans rfl) (fun K hK => ?_) AllReadyH.nil)
                go_simp
                refine hK.out _ _ trivial (fun hHeld => ?_)
                clear hK K
                (first | simp only [pA, pZ, pS] | simp only [pN] | skip)
                refine wpAnyH_ready (rs := [13]) (by kernel_rfl) (by simp) (AllReadyH.cons (List.getElem?_toArray.trans rfl) (fun K hK => ?_) AllReadyH.nil)
                go_simp
                (go_at_call 92; (try rw [hwrap]); refine (HG1.out (pre ++ ys) w7 q0 q1 q2 (SXR.out.bel B7.out) (HJJ.out _ _ _ JR.out B7.out) HLE.out HTQ.out).mono ?_; intro e' w8 hpo; obtain ⟨b, rfl, HB1, HB0⟩ := hpo.one; clear hpo)
                (try go_wp2_with fail)
                refine hK.out _ _ trivial (fun hHeld => ?_)
                clear hK K
                (first | simp only [pA, pZ, pS] | simp only [pN] | skip)
                refine tk 14 hHeld ?_
                (try simp only [pA, pZ, pS])
                refine tk 15 hHeld ?_
                (try simp only [pA, pZ, pS])
                refine wpAnyH_done (by kernel_rfl) ?_ _
                refine NoPanic.normal ?_
                clear hwrap HG1 HLE HAG HTQ hHeld e0 e1 e2 e3 v0 v1 v2 e8 e9 d0 d1 d2 d3 u0 u1 u2 x0 hcell hJ
                cases b
                · have HBX := hidP (HB0.out rfl)
                  clear HB0 HB1
                  simp only [Bool.not_false]
                  go_wp2_with fail
                  go_ret
                  exact .inr ⟨rfl, HBX.out⟩
                · obtain ⟨ys2, hl2, hj2, hk2⟩ := HB1.out rfl
                  have HJ2 := hidP hj2
                  have HL2 := hidP hl2
                  have HK2 := hidP hk2
                  clear hj2 hl2 hk2 HB1 HB0
                  simp only [Bool.not_true]
                  go_wp2_with fail
                  go_roundw
                  case rel => exact ⟨j + 1, ys ++ ys2, by go_num, by omega, by rw [HST.out, List.map_append, HYS.out, HL2.out], by rw [← List.append_assoc]; exact HJ2.out, KR.out.trans ((Kq.of_below B7.out).trans HK2.out)⟩
                  case measure => (simp [intOf]; omega)
          · go_simp
            refine hK.out _ _ trivial (fun hHeld => ?_)
            clear hK K
            (first | simp only [pA, pZ, pS] | simp only [pN] | skip)
            refine wpAnyH_ready (rs := [5, 8]) (by kernel_rfl) (by simp) (AllReadyH.cons (List.getElem?_toArray.trans rfl) (fun K hK => ?_) (AllReadyH.cons (List.getElem?_toArray.trans rfl) (fun K hK => ?_) AllReadyH.nil))
            · go_simp
              refine hK.out _ _ trivial (fun hHeld => ?_)
              clear hK K
              (first | simp only [pA, pZ, pS] | simp only [pN] | skip)
              refine wpAnyH_ready (rs := [8]) (by kernel_rfl) (by simp) (AllReadyH.cons (List.getElem?_toArray.trans rfl) (fun K hK => ?_) AllReadyH.nil)
              go_simp
              refine hK.out _ _ trivial (fun hHeld => ?_)
              clear hK K
              (first | simp only [pA, pZ, pS] | simp only [pN] | skip)
              refine wpAnyH_ready (rs := [12]) (by kernel_rfl) (by simp) (AllReadyH.cons (List.getElem?_toArray.trans rfl) (fun K hK => ?_) AllReadyH.nil)
              go_simp
              (go_at_call 97; refine (tokWith_tok p0 p1 p2 (some ⟨fb, fo, none⟩) T f Z.wE w6 HTK.out hT3 HFC.out).mono ?_; rintro e' w7 ⟨q0, q1, q2, rfl, HTQ, hb7⟩)
              (try go_wp2_with fail)
              refine hK.out _ _ trivial (fun hHeld => ?_)
              clear hK K
              (first | simp only [pA, pZ, pS] | simp only [pN] | skip)
              have B7 := hidP (B6.out.trans (hb7.mono B6.out.size))
              have e9 := cell_below hb7 e8
              clear hb7
              refine wpAnyH_ready (rs := [13]) (by kernel_rfl) (by simp) (AllReadyH.cons (List.getElem?_toArray.trans rfl) (fun K hK => ?_) AllReadyH.nil)
              go_simp
              (go_at_call 92; (try rw [hwrap]); refine (HG1.out (pre ++ ys) w7 q0 q1 q2 (SXR.out.bel B7.out) (HJJ.out _ _ _ JR.out B7.out) HLE.out HTQ.out).mono ?_; intro e' w8 hpo; obtain ⟨b, rfl, HB1, HB0⟩ := hpo.one; clear hpo)
              (try go_wp2_with fail)
              refine hK.out _ _ trivial (fun hHeld => ?_)
              clear hK K
              (first | simp only [pA, pZ, pS] | simp only [pN] | skip)
              refine tk 14 hHeld ?_
              (try simp only [pA, pZ, pS])
              refine tk 15 hHeld ?_
              (try simp only [pA, pZ, pS])
              refine wpAnyH_done (by kernel_rfl) ?_ _
              refine NoPanic.normal ?_
              clear hwrap HG1 HLE HAG HTQ hHeld e0 e1 e2 e3 v0 v1 v2 e8 e9 d0 d1 d2 d3 u0 u1 u2 x0 hcell hJ
              cases b
              · have HBX := hidP (HB0.out rfl)
                clear HB0 HB1
                simp only [Bool.not_false]
                go_wp2_with fail
                go_ret
                exact .inr ⟨rfl, HBX.out⟩
              · obtain ⟨ys2, hl2, hj2, hk2⟩ := HB1.out rfl
                have HJ2 := hidP hj2
                have HL2 := hidP hl2
                have HK2 := hidP hk2
                clear hj2 hl2 hk2 HB1 HB0
                simp only [Bool.not_true]
                go_wp2_with fail
                go_roundw
                case rel => exact ⟨j + 1, ys ++ ys2, by go_num, by omega, by rw [HST.out, List.map_append, HYS.out, HL2.out], by rw [← List.append_assoc]; exact HJ2.out, KR.out.trans ((Kq.of_below B7.out).trans HK2.out)⟩
                case measure => (simp [intOf]; omega)
            · go_simp
              refine hK.out _ _ trivial (fun hHeld => ?_)
              clear hK K
              (first | simp only [pA, pZ, pS] | simp only [pN] | skip)
              refine wpAnyH_ready (rs := [5, 12]) (by kernel_rfl) (by simp) (AllReadyH.cons (List.getElem?_toArray.trans rfl) (fun K hK => ?_) (AllReadyH.cons (List.getElem?_toArray.trans rfl) (fun K hK => ?_) AllReadyH.nil))
              · go_simp
                refine hK.out _ _ trivial (fun hHeld => ?_)
                clear hK K
                (first | simp only [pA, pZ, pS] | simp only [pN] | skip)
                refine wpAnyH_ready (rs := [12]) (by kernel_rfl) (by simp) (AllReadyH.cons (List.getElem?_toArray.trans rfl) (fun K hK => ?_) AllReadyH.nil)
                go_simp
                (go_at_call 97; refine (tokWith_tok p0 p1 p2 (some ⟨fb, fo, none⟩) T f Z.wE w6 HTK.out hT3 HFC.out).mono ?_; rintro e' w7 ⟨q0, q1, q2, rfl, HTQ, hb7⟩)
                (try go_wp2_with fail)
                refine hK.out _ _ trivial (fun hHeld => ?_)
                clear hK K
                (first | simp only [pA, pZ, pS] | simp only [pN] | skip)
                have B7 := hidP (B6.out.trans (hb7.mono B6.out.size))
                have e9 := cell_below hb7 e8
                clear hb7
                refine wpAnyH_ready (rs := [13]) (by kernel_rfl) (by simp) (AllReadyH.cons (List.getElem?_toArray.trans rfl) (fun K hK => ?_) AllReadyH.nil)
                go_simp
                (go_at_call 92; (try rw [hwrap]); refine (HG1.out (pre ++ ys) w7 q0 q1 q2 (SXR.out.bel B7.out) (HJJ.out _ _ _ JR.out B7.out) HLE.out HTQ.out).mono ?_; intro e' w8 hpo; obtain ⟨b, rfl, HB1, HB0⟩ := hpo.one; clear hpo)
                (try go_wp2_with fail)
                refine hK.out _ _ trivial (fun hHeld => ?_)
                clear hK K
                (first | simp only [pA, pZ, pS] | simp only [pN] | skip)
                refine tk 14 hHeld ?_
                (try simp only [pA, pZ, pS])
                refine tk 15 hHeld ?_
                (try simp only [pA, pZ, pS])
                refine wpAnyH_done (by kernel_rfl) ?_ _
                refine NoPanic.normal ?_
                clear hwrap HG1 HLE HAG HTQ hHeld e0 e1 e2 e3 v0 v1 v2 e8 e9 d0 d1 d2 d3 u0 u1 u2 x0 hcell hJ
                cases b
                · have HBX := hidP (HB0.out rfl)
                  clear HB0 HB1
                  simp only [Bool.not_false]
                  go_wp2_with fail
                  go_ret
                  exact .inr ⟨rfl, HBX.out⟩
                · obtain ⟨ys2, hl2, hj2, hk2⟩ := HB1.out rfl
                  have HJ2 := hidP hj2
                  have HL2 := hidP hl2
                  have HK2 := hidP hk2
                  clear hj2 hl2 hk2 HB1 HB0
                  simp only [Bool.not_true]
                  go_wp2_with fail
                  go_roundw
                  case rel => exact ⟨j + 1, ys ++ ys2, by go_num, by omega, by rw [HST.out, List.map_append, HYS.out, HL2.out], by rw [← List.append_assoc]; exact HJ2.out, KR.out.trans ((Kq.of_below B7.out).trans HK2.out)⟩
                  case measure => (simp [intOf]; omega)
              · go_simp
                (go_at_call 97; refine (tokWith_tok p0 p1 p2 (some ⟨fb, fo, none⟩) T f Z.wE w6 HTK.out hT3 HFC.out).mono ?_; rintro e' w7 ⟨q0, q1, q2, rfl, HTQ, hb7⟩)
                (try go_wp2_with fail)
                refine hK.out _ _ trivial (fun hHeld => ?_)
                clear hK K
                (first | simp only [pA, pZ, pS] | simp only [pN] | skip)
                have B7 := hidP (B6.out.trans (hb7.mono B6.out.size))
                have e9 := cell_below hb7 e8
                clear hb7
                refine wpAnyH_ready (rs := [5]) (by kernel_rfl) (by simp) (AllReadyH.cons (List.getElem?_toArray.trans rfl) (fun K hK => ?_) AllReadyH.nil)
                go_simp
                refine hK.out _ _ trivial (fun hHeld => ?_)
                clear hK K
                (first | simp only [pA, pZ, pS] | simp only [pN] | skip)
                refine wpAnyH_ready (rs := [13]) (by kernel_rfl) (by simp) (AllReadyH.cons (List.getElem?_toArray.trans rfl) (fun K hK => ?_) AllReadyH.nil)
                go_simp
                (go_at_call 92; (try rw [hwrap]); refine (HG1.out (pre ++ ys) w7 q0 q1 q2 (SXR.out.bel B7.out) (HJJ.out _ _ _ JR.out B7.out) HLE.out HTQ.out).mono ?_; intro e' w8 hpo; obtain ⟨b, rfl, HB1, HB0⟩ := hpo.one; clear hpo)
                (try go_wp2_with fail)
                refine hK.out _ _ trivial (fun hHeld => ?_)
                clear hK K
                (first | simp only [pA, pZ, pS] | simp only [pN] | skip)
                refine tk 14 hHeld ?_
                (try simp only [pA, pZ, pS])
                refine tk 15 hHeld ?_
                (try simp only [pA, pZ, pS])
                refine wpAnyH_done (by kernel_rfl) ?_ _
                refine NoPanic.normal ?_
                clear hwrap HG1 HLE HAG HTQ hHeld e0 e1 e2 e3 v0 v1 v2 e8 e9 d0 d1 d2 d3 u0 u1 u2 x0 hcell hJ
                cases b
                · have HBX := hidP (HB0.out rfl)
                  clear HB0 HB1
                  simp only [Bool.not_false]
                  go_wp2_with fail
                  go_ret
                  exact .inr ⟨rfl, HBX.out⟩
                · obtain ⟨ys2, hl2, hj2, hk2⟩ := HB1.out rfl
                  have HJ2 := hidP hj2
                  have HL2 := hidP hl2
                  have HK2 := hidP hk2
                  clear hj2 hl2 hk2 HB1 HB0
                  simp only [Bool.not_true]
                  go_wp2_with fail
                  go_roundw
                  case rel => exact ⟨j + 1, ys ++ ys2, by go_num, by omega, by rw [HST.out, List.map_append, HYS.out, HL2.out], by rw [← List.append_assoc]; exact HJ2.out, KR.out.trans ((Kq.of_below B7.out).trans HK2.out)⟩
                  case measure => (simp [intOf]; omega)
    · have hje : j = fs.length := by omega
      subst hje
      have hy : ¬ (fs.length : Int) < (fs.length : Int) := by omega
      go_wp2_with fail
      go_ret
      exact .inl ⟨rfl, ys, by rw [HYS.out, List.take_length]; exact HRR.out.symm, JR.out, (Kq.of_below B3.out).trans KR.out⟩
end Go.Proofs.YtognpkdgphebeaaGreat
