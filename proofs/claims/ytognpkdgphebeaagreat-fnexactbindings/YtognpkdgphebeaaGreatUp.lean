/-
  OUR OWN TEXT. Pg7, Ma1, Bd1, one behind the other.
-/
import Derived.Test.YtognpkdgphebeaaGreatPg3m
import Derived.Test.YtognpkdgphebeaaGreatUc
import Derived.Test.YtognpkdgphebeaaGreatNd7m
import Derived.Test.YtognpkdgphebeaaGreatUj
import Derived.Test.YtognpkdgphebeaaGreatWa
namespace Go.Proofs.YtognpkdgphebeaaGreat
open Go.RowKit
attribute [local go_sem ↓] Go.wp_at_zero Go.wp_at_succ

end Go.Proofs.YtognpkdgphebeaaGreat

namespace Go.Proofs.YtognpkdgphebeaaGreat
open Go.RowKit Go.Maps
attribute [local go_sem ↓] Go.wp_at_zero Go.wp_at_succ

theorem cns_all {fs W : List F} {cs : List Cn} {ds : List Cp} (hl : cs.length = ds.length) (he : ∀ (k : Nat) (c : Cn) (d : Cp), cs[k]? = some c → ds[k]? = some d → CnCp fs c d) : cs.all (okC W) = ds.all (okP fs W) := by
  rw [Bool.eq_iff_iff, List.all_eq_true, List.all_eq_true]
  constructor
  · intro h d hd
    obtain ⟨k, hk, rfl⟩ := List.getElem_of_mem hd
    have hk' : k < cs.length := by omega
    have e := he k cs[k] ds[k] (by simp [hk']) (by simp [hk])
    rw [← okC_eq e]
    exact h _ (List.getElem_mem hk')
  · intro h c hc
    obtain ⟨k, hk, rfl⟩ := List.getElem_of_mem hc
    have hk' : k < ds.length := by omega
    have e := he k cs[k] ds[k] (by simp [hk]) (by simp [hk'])
    rw [okC_eq e]
    exact h _ (List.getElem_mem hk')
theorem cns_fit {fs W : List F} {r : Ru} {cs : List Cn} (hk : KnR r.pats [] 0) (hn : positives r.pats ≤ W.length) (hl : cs.length = (planGo r.pats [] 0).length) (he : ∀ (k : Nat) (c : Cn) (d : Cp), cs[k]? = some c → (planGo r.pats [] 0)[k]? = some d → CnCp fs c d) : ∀ (k : Nat) (c : Cn), cs[k]? = some c → (∀ c' ∈ cs.take k, okC W c' = true) → fitC W c := by
  intro k c hc hok
  have hkl : k < cs.length := (List.getElem?_eq_some_iff.1 hc).1
  obtain ⟨d, hd⟩ : ∃ d, (planGo r.pats [] 0)[k]? = some d := ⟨(planGo r.pats [] 0)[k]'(by omega), by simp⟩
  refine fitC_of (he k c d hc hd) (fit_plan fs W r.pats [] 0 hk (fun v hv => by simp at hv) (by omega) k d hd (fun d' hd' => ?_))
  obtain ⟨j, hj, rfl⟩ := List.getElem_of_mem hd'
  have hjk : j < k := by
    simp at hj
    omega
  have hjc : j < cs.length := by omega
  have hjd : j < (planGo r.pats [] 0).length := by omega
  have e := he j cs[j] (planGo r.pats [] 0)[j] (by simp [hjc]) (by simp [hjd])
  rw [List.getElem_take, ← okC_eq e]
  exact hok _ (List.mem_of_getElem? (show (cs.take k)[j]? = some cs[j] by rw [List.getElem?_take]; simp [hjk, hjc]))
theorem fidx_none {tag : Int} : ∀ {fs : List F}, fidx tag fs = none → ∀ f ∈ fs, f.tag ≠ tag
  | [], _, f, hf => by simp at hf
  | g :: r, h, f, hf => by
    unfold fidx at h
    split at h
    · cases h
    · rename_i hg
      rcases List.mem_cons.1 hf with rfl | hf
      · exact hg
      · exact fidx_none (by simpa using h) f hf
theorem fidx_some {tag : Int} : ∀ {fs : List F} {n : Nat}, fidx tag fs = some n → ∃ f, fs[n]? = some f ∧ f.tag = tag
  | [], _, h => by simp [fidx] at h
  | g :: r, n, h => by
    unfold fidx at h
    split at h
    · rename_i hg
      cases h
      exact ⟨g, rfl, hg⟩
    · obtain ⟨m, hm, rfl⟩ := Option.map_eq_some_iff.1 h
      obtain ⟨f, h1, h2⟩ := fidx_some hm
      exact ⟨f, by simpa using h1, h2⟩
/-- The facts of the first tags. -/
def WOk (fs : List F) (tags : List Int) (k : Nat) (W : List F) : Prop := W.length = k ∧ W.map (·.tag) = tags.take k ∧ ∀ f ∈ W, f ∈ fs
theorem WOk.snoc {fs : List F} {tags : List Int} {k : Nat} {W : List F} {f : F} (h : WOk fs tags k W) (ht : tags[k]? = some f.tag) (hf : f ∈ fs) : WOk fs tags (k + 1) (W ++ [f]) := by
  refine ⟨by simp [h.1], by rw [List.map_append, h.2.1, List.take_add_one, ht]; rfl, fun g hg => ?_⟩
  rcases List.mem_append.1 hg with hg | hg
  · exact h.2.2 g hg
  · rw [List.mem_singleton.1 hg]
    exact hf
theorem lift_tokP {P : World → Prop} {w : World} {b k : Nat} {t : TypeId} {p0 p1 p2 y : Option Addr} (h0 : w.heap[b]? = some (.cells #[.pointer p0, .pointer p1, .pointer p2] t (0, 0))) (hk : k < 3) (h : ∀ wt q0 q1 q2, wt.heap[b]? = some (.cells #[.pointer q0, .pointer q1, .pointer q2] t (0, 0)) → [q0, q1, q2] = [p0, p1, p2].set k y → Turned w wt b → P wt) : P (w.setCell ⟨b, k, none⟩ (.pointer y)) := by
  have h1 := heap_setCell_same (i := k) h0 (.pointer y)
  rcases k with _ | _ | _ | k
  · exact h _ y p1 p2 (by simpa using h1) rfl (Turned.setCells [_] 0 w b)
  · exact h _ p0 y p2 (by simpa using h1) rfl (Turned.setCells [_] 1 w b)
  · exact h _ p0 p1 y (by simpa using h1) rfl (Turned.setCells [_] 2 w b)
  · omega
theorem TokAt.snoc {w : World} {p0 p1 p2 q0 q1 q2 y : Option Addr} {W : List F} {f : F} {k : Nat} (h : TokAt w (.pointer p0) (.pointer p1) (.pointer p2) W) (hW : W.length = k) (hk : k < 3) (hq : [q0, q1, q2] = [p0, p1, p2].set k y) (hy : FacAt w (.pointer y) f) : TokAt w (.pointer q0) (.pointer q1) (.pointer q2) (W ++ [f]) := by
  intro i g hi
  have hq' : [Value.pointer q0, .pointer q1, .pointer q2] = [Value.pointer p0, .pointer p1, .pointer p2].set k (.pointer y) := by
    have := congrArg (List.map Value.pointer) hq
    rw [List.map_set] at this
    simpa using this
  rw [hq']
  by_cases hil : i < W.length
  · rw [List.getElem?_append_left hil] at hi
    obtain ⟨pv, h1, h2⟩ := h i g hi
    exact ⟨pv, by rw [List.getElem?_set_ne (by omega)]; exact h1, h2⟩
  · have e : i = W.length := by
      have := (List.getElem?_eq_some_iff.1 hi).1
      simp at this
      omega
    rw [e, hW]
    rw [e] at hi
    simp at hi
    subst hi
    exact ⟨.pointer y, by rw [List.getElem?_set_self (by simp; omega)], hy⟩
/-- What matchOf leaves. -/
def MoPost (r : Ru) (fs : List F) (tags : List Int) (w : World) (e : Ending) (w' : World) : Prop :=
  (∃ (ca : Option Addr) (n cc : Nat) (va : Option Addr) (m vc : Nat) (u0 u1 u2 : Option Addr), e = .returned (.tuple #[.agg #[.slice ca n cc, .slice va m vc], .agg #[.pointer u0, .pointer u1, .pointer u2], .bool (holdsM r fs tags)]) ∧ (holdsM r fs tags = true → ∃ W, m = (varsGo r.pats [] 0).length ∧ w'.ownsRow w.heap.size 101 3 (.slice va (varsGo r.pats [] 0).length vc) (varsGo r.pats [] 0).length ((varsGo r.pats [] 0).flatMap vrCells) ∧ TokAt w' (.pointer u0) (.pointer u1) (.pointer u2) W ∧ WOk fs tags tags.length W ∧ tags.length = positives r.pats ∧ ready [r] fs = true)) ∧ Below w.heap.size w w'
theorem holdsM_not {r : Ru} {fs : List F} {tags : List Int} (h : ready [r] fs = false) : holdsM r fs tags = false := by
  unfold holdsM
  rw [h]
  rfl
set_option maxRecDepth 100000 in
set_option maxHeartbeats 12800000 in
theorem matchOf_any (r : Ru) (fs : List F) (tags : List Int) (a_p : Option Addr) (c_p : Nat) (a_e : Option Addr) (c_e : Nat) (a_a : Option Addr) (c_a : Nat) (fa : Option Addr) (fc : Nat) (ta : Option Addr) (tc : Nat) {q q' : Option Nat} (w : World) (h_p : PtsAt q w a_p r.pats) (h_e : ExsAt q w a_e r.exprs) (h_a : AcsAt q w a_a r.acts) (hce : r.exprs.length ≤ c_e) (hle : ListLe Ru.le 1048576 [r]) (ho : OpsOk r.exprs) (hvo : ∀ p ∈ r.pats, ∀ t ∈ p.terms, VOk t.val) (h_f : FactsAt w fa fs) (hl : fs.length ≤ 1048576) (hs : ∀ f ∈ fs, Sized f) (hrd : ∀ f ∈ fs, Read f) (h_t : IntsAt q' w ta tags) (htl : tags.length ≤ 1048576) (htw : ∀ t ∈ tags, (Lit.int .i64 t).wf = true) :
    Calls Tryz.prog 47 #[.agg #[.string r.name, .int .i64 r.sal, .slice a_p r.pats.length c_p, .slice a_e r.exprs.length c_e, .slice a_a r.acts.length c_a], .slice fa fs.length fc, .slice ta tags.length tc] w (MoPost r fs tags w) := by
  have HP := hidP h_p
  have HF := hidP h_f
  have HRD := hidP hrd
  have HTG := hidP h_t
  have HTW := hidP htw
  have hrl : r.pats.length ≤ 1048576 := (hle.2 r (by simp)).2.1.1
  have HR := hidP (fun wt (hb : Below w.heap.size w wt) k (h : wt.heap[k]? = some (.cells #[.string r.name, .int .i64 r.sal, .slice a_p r.pats.length c_p, .slice a_e r.exprs.length c_e, .slice a_a r.acts.length c_a] 36 (0, 0))) => plansOver_any [r] (some ⟨k, 0, none⟩) 1 fs fa fc w wt hb (RusAt.one h (h_p.below hb).bare (h_e.below hb).bare (h_a.below hb).bare hce) (Nat.le_refl _) hle (by intro x hx; simp at hx; subst hx; exact ho) (by intro x hx; simp at hx; subst hx; exact hvo) h_f hl hs)
  clear h_p h_e h_a h_f hs hle ho hvo h_t htw hrd
  go_enter Tryz.func47, Tryz.ntmps47
  go_upto_region 1 with fail
  refine lift3P ?_
  intro w0 hW0 hq0 hq1 hq2
  obtain ⟨b0, b1, b2, b3, b4⟩ := cells5P hq0
  obtain ⟨rb, hrb⟩ : ∃ b, b = w.heap.size + 1 := ⟨_, rfl⟩
  obtain ⟨qb, hqb⟩ : ∃ b, b = rb + 1 := ⟨_, rfl⟩
  rw [← hrb] at hq1 ⊢
  rw [show w.heap.size + 2 = qb by omega] at hq2
  rw [← hqb]
  have RB0 := hidP (show PlB w0 rb (.slice none 0 0) (.slice none 0 0) from hq1)
  have RQ0 := hidP hq2
  have H0 := hidP hW0
  have hs0 := hW0.size
  have hrw : w.heap.size < rb := by omega
  have hrq : rb < qb := by omega
  have hq0' : qb < w0.heap.size := lt_of_block' hq2
  have HA := hidP (fun o => (Below.refl _ _).alloc (Nat.le_refl _) o : ∀ o, Below w0.heap.size w0 (w0.alloc o))
  have HNW := hidP (heap_alloc_new w0)
  clear hW0 hq0 hq1 hq2 hrb hqb
  go_wp2_with fail
  refine (HR.out _ (H0.out.trans ((HA.out _).mono H0.out.size)) _ (HNW.out _)).mono ?_
  rintro e w1 ⟨he1, hb1⟩
  have B1 := hidP (Below.trans (HA.out _) (hb1.mono (HA.out _).size))
  have BW := hidP (H0.out.trans (B1.out.mono H0.out.size))
  have RB1 := hidP (RB0.out.bel B1.out)
  have RQ1 := hidP ((B1.out.block _ (lt_of_block' RQ0.out)).trans RQ0.out)
  have d0 := cell_below B1.out b0
  have d1 := cell_below B1.out b1
  have d2 := cell_below B1.out b2
  have d3 := cell_below B1.out b3
  have d4 := cell_below B1.out b4
  have hs1 := B1.out.size
  clear hb1 b0 b1 b2 b3 b4 RB0 RQ0 HA HNW HR H0 B1
  by_cases hrdy : ready [r] fs = true
  · rw [if_pos hrdy] at he1
    obtain ⟨xa, xc, PW, rfl, hPWl, hpls, _⟩ := he1
    obtain ⟨⟨ca, cc, va, vc, cs⟩, hPW⟩ : ∃ x, PW[0]? = some x := ⟨PW[0]'(by rw [hPWl]; simp), by simp⟩
    obtain ⟨xb, xo, rfl, hxB, x0, x1, hpl, _, _⟩ := hpls w1 (Lko.refl _ _ _) 0 r _ rfl hPW
    have HPLA := hidP (fun w'' (h : Lko w.heap.size (w0.heap.size + 1) w1 w'') => hpls w'' (by simpa using h) 0 r _ rfl hPW)
    have hxB' : w0.heap.size ≤ xb := by simp at hxB; omega
    clear hxB hPW hPWl
    have HPO := hidP (fun w' (hb : Below w.heap.size w w') => positives_any r a_p c_p a_e c_e a_a c_a w' (HP.out.below hb) hrl)
    clear hpls
    have hplen := hpl.len
    have hpeach := hpl.each
    have hpsm := hpl.small
    have PLEN := hidP hplen
    have PEACH := hidP hpeach
    have PSM := hidP hpsm
    clear hpl hplen hpeach hpsm
    have hx1 : xb < w1.heap.size := cell_ltP x0
    have hl1 : ([r] : List Ru).length = 1 := rfl
    rw [hl1] at *
    by_cases hlen : tags.length = positives r.pats
    · obtain ⟨hck, hgf, hf40⟩ := ready_small hrdy
      obtain ⟨_, _, hp3⟩ := chk_small hck (List.mem_singleton.2 rfl)
      have hkn : KnR r.pats [] 0 := chk_known hck (List.mem_singleton.2 rfl)
      have hgf' : gFrom 0 fs = true := by
        have h' : (decide (fs.length ≤ 40) && gFrom 0 fs) = true := hgf
        simp only [Bool.and_eq_true] at h'
        exact h'.2
      have HKN := hidP hkn
      have HRDY := hidP hrdy
      have HLEN := hidP hlen
      have HGF := hidP hgf'
      have ht3 : tags.length ≤ 3 := by omega
      have t1 : ((tags.length : Int) != (positives r.pats : Int)) = false := by simp; omega
      clear hlen hkn hck hgf hgf' hrdy
      go_wp2_with fail
      refine (HPO.out w1 BW.out).mono ?_
      rintro e w2 ⟨rfl, hb2⟩
      have BW2 := hidP (BW.out.trans (hb2.mono BW.out.size))
      have BP2 := hidP hb2
      have hs2 := hb2.size
      have PLC := hidP (places_any fa fc fs 0 0 false w2 (HF.out.below BW2.out) hl HGF.out HRD.out)
      clear hb2 HPO d0 d1 d2 d3 d4
      go_wp2_with fail
      refine PLC.out.mono ?_
      rintro e w3 ⟨mb, MD, rfl, hom, hpi, hb3⟩
      have BW3 := hidP (BW2.out.trans (hb3.mono BW2.out.size))
      have BP3 := hidP (BP2.out.trans (hb3.mono BP2.out.size))
      have hs3 := hb3.size
      have OM3 := hidP hom
      have PI := hidP hpi
      have hml : mb < w3.heap.size := hom.lt
      clear hb3 hom hpi PLC BW2 BP2 BW
      go_upto_region 6 with fail
      refine lift_alloc ?_
      intro w4 hW4 hq4
      obtain ⟨tkb, htk⟩ : ∃ b, b = w3.heap.size := ⟨_, rfl⟩
      rw [← htk] at hq4 ⊢
      have TK4 := hidP hq4
      have OM4 := hidP (show w4.ownsMap Tryz.prog 3 (plainElem Tryz.prog 3) mb fs.length MD from by
        obtain ⟨es, clock, h1, h2⟩ := OM3.out
        exact ⟨es, clock, (hW4.block mb hml).trans h1, h2⟩)
      have BP4 := hidP (BP3.out.trans (hW4.mono BP3.out.size))
      have BW4 := hidP (BW3.out.trans (hW4.mono BW3.out.size))
      have hmt : mb ≠ tkb := by omega
      have hwt : w1.heap.size ≤ tkb := by omega
      clear hW4 hq4 htk OM3 BP3 BW3
      go_wp2_with fail
      go_loopw [37] (fun iv wr => ∃ (k : Nat) (p0 p1 p2 : Option Addr) (W : List F), iv = .int .i64 (k : Int) ∧ k ≤ tags.length ∧ WOk fs tags k W ∧ TokAt w (.pointer p0) (.pointer p1) (.pointer p2) W ∧ wr.heap[tkb]? = some (.cells #[.pointer p0, .pointer p1, .pointer p2] 91 (0, 0)) ∧ wr.ownsMap Tryz.prog 3 (plainElem Tryz.prog 3) mb fs.length MD ∧ Below w1.heap.size w1 wr ∧ Below w.heap.size w wr) (fun iv _ => tags.length - (intOf iv).toNat)
      case atStart => exact ⟨0, _, _, _, [], rfl, Nat.zero_le _, ⟨rfl, rfl, fun f hf => by simp at hf⟩, fun i f hi => by simp at hi, TK4.out, OM4.out, BP4.out, BW4.out⟩
      case round =>
        obtain ⟨k, p0, p1, p2, W, rfl, hkl, hW, hTK, htk, hom, hbp, hbw⟩ := hrel
        have WK := hidP hW
        have TA := hidP hTK
        have TKR := hidP htk
        have OMR := hidP hom
        have BPR := hidP hbp
        have BWR := hidP hbw
        have RBR := hidP (RB1.out.bel hbp)
        have RQR := hidP ((hbp.block _ (lt_of_block' RQ1.out)).trans RQ1.out)
        have htr : tkb < wr.heap.size := lt_of_block' htk
        have hsr := hbp.size
        clear hW hTK htk hom hbp hbw TK4 OM4 BP4 BW4
        by_cases hk : k < tags.length
        · obtain ⟨tg, htg⟩ : ∃ t, tags[k]? = some t := ⟨tags[k], by simp [hk]⟩
          obtain ⟨gb, go, rfl, _, g0⟩ := (IntsAt.below HTG.out BWR.out).get htg
          have htm := List.mem_of_getElem? htg
          have hlk := look_any OMR.out PI.out (HTW.out tg htm)
          have z0 : (0 : Int) ≤ (k : Int) := by omega
          have z1 : (k : Int) < (tags.length : Int) := by omega
          have z2 : (k : Int) < 3 := by omega
          cases hfi : fidx tg fs with
          | none =>
            have HN := hidP (show holdsM r fs tags = false from holds_lost htm (fidx_none hfi))
            rw [hfi] at hlk
            have hlk' : (Instr.lookup 151 (.map (some mb)) (.int .i64 tg) true).run Tryz.prog wr = .ok (.tuple #[.int .i64 0, .bool false]) wr := hlk
            have BW := BWR
            obtain ⟨⟨m0, m1⟩, mz, _⟩ := RBR.out.facts
            have mz0 := mz 0
            have mz1 := mz 1
            clear mz
            obtain ⟨n0, n1, n2⟩ := cells3P RQR.out
            have nz0 : wr.frozen? ⟨qb, 0, none⟩ = false := by simp [World.frozen?, RQR.out]
            have nz1 : wr.frozen? ⟨qb, 1, none⟩ = false := by simp [World.frozen?, RQR.out]
            have nz2 : wr.frozen? ⟨qb, 2, none⟩ = false := by simp [World.frozen?, RQR.out]
            clear hfi hlk htm htg
            go_wp2_with fail
            refine bodyPost_ret (v := .tuple #[.agg #[.slice none 0 0, .slice none 0 0], .agg #[.pointer none, .pointer none, .pointer none], .bool false]) (by simp [results, Tryz.results47, go_sem, m0, m1, n0, n1, n2]) rfl ?_
            refine ⟨⟨none, 0, 0, none, 0, 0, none, none, none, by rw [HN.out], fun h => by rw [HN.out] at h; cases h⟩, ?_⟩
            exact (((((BW.out.setCell (by simp; omega) _).setCell (by simp; omega) _).setCell (by simp; omega) _).setCell (by simp; omega) _).setCell (by simp; omega) _)
          | some n =>
            obtain ⟨f, hfn, hft⟩ := fidx_some hfi
            obtain ⟨fb, fo, rfl, f0, f1, sa, sc, f2, hsv⟩ := HF.out n f hfn
            have HFC := hidP (show FacAt w (.pointer (some ⟨fb, fo + n * 3, none⟩)) f from ⟨fb, fo + n * 3, rfl, f0, f1, sa, sc, f2, hsv⟩)
            have HWS := hidP (WK.out.snoc (f := f) (by rw [htg, hft]) (List.mem_of_getElem? hfn))
            have hnl : n < fs.length := (List.getElem?_eq_some_iff.1 hfn).1
            have y0 : (0 : Int) ≤ (n : Int) := by omega
            have y1 : (n : Int) < (fs.length : Int) := by omega
            rw [hfi] at hlk
            have hlk' : (Instr.lookup 151 (.map (some mb)) (.int .i64 tg) true).run Tryz.prog wr = .ok (.tuple #[.int .i64 (n : Int), .bool true]) wr := hlk
            obtain ⟨pk, hpk⟩ : ∃ pk, wr.cell? ⟨tkb, k, none⟩ = some pk := by
              have := TKR.out
              rcases (show k = 0 ∨ k = 1 ∨ k = 2 by omega) with rfl | rfl | rfl
              · exact ⟨.pointer p0, by simp [World.cell?, this]⟩
              · exact ⟨.pointer p1, by simp [World.cell?, this]⟩
              · exact ⟨.pointer p2, by simp [World.cell?, this]⟩
            have hfz : wr.frozen? ⟨tkb, k, none⟩ = false := by simp [World.frozen?, TKR.out]
            have hk3 : k < 3 := by omega
            clear hfi hlk htm htg hfn hft f0 f1 f2 hsv
            go_upto_region 13 with fail
            refine lift_tokP TKR.out hk3 ?_
            intro w5 q0 q1 q2 hq5 hset ht5
            have TK5 := hidP hq5
            have TA5 := hidP (TA.out.snoc WK.out.1 hk3 hset HFC.out)
            have OM5 := hidP (show w5.ownsMap Tryz.prog 3 (plainElem Tryz.prog 3) mb fs.length MD from by
              obtain ⟨es, clock, h1, h2⟩ := OMR.out
              exact ⟨es, clock, (ht5.block mb hmt).trans h1, h2⟩)
            have BP5 := hidP (BPR.out.trans (ht5.below hwt))
            have BW5 := hidP (BWR.out.trans (ht5.below (by omega)))
            clear hq5 hset ht5 hpk hfz
            go_wp2_with fail
            go_roundw
            case rel => exact ⟨k + 1, q0, q1, q2, _, by go_num, by omega, HWS.out, TA5.out, TK5.out, OM5.out, BP5.out, BW5.out⟩
            case measure => (simp [intOf]; omega)
        · have hke : k = tags.length := by omega
          subst hke
          have hy : ¬ (tags.length : Int) < (tags.length : Int) := by omega
          have hWl : W.length = tags.length := WK.out.1
          have hWt : W.map (·.tag) = tags := by rw [WK.out.2.1, List.take_length]
          have HPL := hidP (fun w'' (h : Lko w.heap.size (w0.heap.size + 1) w1 w'') => (by
            obtain ⟨xb', xo', e, _, h0, h1, h2, _, h4⟩ := HPLA.out w'' h
            cases e
            exact ⟨by simpa using h0, by simpa using h1, h2, by simpa using h4⟩ : w''.cell? ⟨xb, xo, none⟩ = some (.slice ca cs.length cc) ∧ w''.cell? ⟨xb, xo + 1, none⟩ = some (.slice va (varsGo r.pats [] 0).length vc) ∧ PlnAt w'' fs ca va r cs ∧ w''.ownsRow (w0.heap.size + 1) 101 3 (.slice va (varsGo r.pats [] 0).length vc) (varsGo r.pats [] 0).length ((varsGo r.pats [] 0).flatMap vrCells)))
          have HHO := hidP (fun w' (h : Lko w.heap.size (w0.heap.size + 1) w1 w') (hb : Below w.heap.size w w') => planHolds_any cs ca cc (.slice va (varsGo r.pats [] 0).length vc) (.pointer p0) (.pointer p1) (.pointer p2) W w' (HPL.out w' h).2.2.1.conds (TA.out.below hb) (Nat.le_trans (Nat.le_of_eq PLEN.out) (Nat.le_trans (Nat.le_of_eq (planGo_len r.pats [] 0)) hrl)) PSM.out (cns_fit HKN.out (by rw [hWl, HLEN.out]; exact Nat.le_refl _) PLEN.out PEACH.out))
          have HEQ := hidP (show cs.all (okC W) = holdsM r fs tags by rw [cns_all PLEN.out PEACH.out, ← hWt]; exact (holds_found HRDY.out (gFrom_inj HGF.out) WK.out.2.2 (by rw [hWl, HLEN.out])).symm)
          rw [HEQ.out] at HHO
          have hxr : xb ≠ rb := by omega
          have hxq : xb ≠ qb := by omega
          have LK0 := hidP (show Lko w.heap.size (w0.heap.size + 1) w1 wr.drew from Lko.of_below BPR.out.drew)
          have BW0 := hidP (show Below w.heap.size w wr.drew from BWR.out.drew)
          have RB0 := hidP (show PlB wr.drew rb (.slice none 0 0) (.slice none 0 0) from RBR.out)
          have RQ0 := hidP (show wr.drew.heap[qb]? = _ from RQR.out)
          have TK0 := hidP (show wr.drew.heap[tkb]? = _ from TKR.out)
          have HS0 := hidP (show wr.drew.cell? ⟨xb, xo, none⟩ = some (.slice ca cs.length cc) ∧ wr.drew.cell? ⟨xb, xo + 1, none⟩ = some (.slice va (varsGo r.pats [] 0).length vc) ∧ wr.drew.cell? ⟨tkb, 0, none⟩ = some (.pointer p0) ∧ wr.drew.cell? ⟨tkb, 1, none⟩ = some (.pointer p1) ∧ wr.drew.cell? ⟨tkb, 2, none⟩ = some (.pointer p2) from ⟨(HPL.out _ LK0.out).1, (HPL.out _ LK0.out).2.1, cells3P TK0.out⟩)
          have htq : qb < tkb := by omega
          clear hWl hWt HEQ x0 x1 RBR RQR TKR
          go_wp2_with fail
          refine wp_region_noPanic ?_
          refine wp_region_held_drew (S := (fun w' => w'.cell? ⟨xb, xo, none⟩ = some (.slice ca cs.length cc) ∧ w'.cell? ⟨xb, xo + 1, none⟩ = some (.slice va (varsGo r.pats [] 0).length vc) ∧ w'.cell? ⟨tkb, 0, none⟩ = some (.pointer p0) ∧ w'.cell? ⟨tkb, 1, none⟩ = some (.pointer p1) ∧ w'.cell? ⟨tkb, 2, none⟩ = some (.pointer p2))) (by kernel_rfl) ?_ (fun hHeld => ?_)
          · (try dsimp only)
            exact HS0.out
          refine tkY 0 hHeld (by rfl) (by kernel_rfl) (by kernel_rfl) (by kernel_rfl) (by rfl) (by intro w hSw; (try dsimp only at hSw); go_simp; try with_reducible rfl) ?_
          (try simp only [pA, pZ, pS])
          refine tkY 1 hHeld (by rfl) (by kernel_rfl) (by kernel_rfl) (by kernel_rfl) (by rfl) (by intro w hSw; (try dsimp only at hSw); go_simp; try with_reducible rfl) ?_
          (try simp only [pA, pZ, pS])
          refine tkY 2 hHeld (by rfl) (by kernel_rfl) (by kernel_rfl) (by kernel_rfl) (by rfl) (by intro w hSw; (try dsimp only at hSw); go_simp; try with_reducible rfl) ?_
          (try simp only [pA, pZ, pS])
          refine tkY 3 hHeld (by rfl) (by kernel_rfl) (by kernel_rfl) (by kernel_rfl) (by rfl) (by intro w hSw; (try dsimp only at hSw); go_simp; try with_reducible rfl) ?_
          (try simp only [pA, pZ, pS])
          refine tkY 4 hHeld (by rfl) (by kernel_rfl) (by kernel_rfl) (by kernel_rfl) (by rfl) (by intro w hSw; (try dsimp only at hSw); go_simp; try with_reducible rfl) ?_
          (try simp only [pA, pZ, pS])
          refine tkY 5 hHeld (by rfl) (by kernel_rfl) (by kernel_rfl) (by kernel_rfl) (by rfl) (by intro w hSw; (try dsimp only at hSw); go_simp; try with_reducible rfl) ?_
          (try simp only [pA, pZ, pS])
          refine tkY 6 hHeld (by rfl) (by kernel_rfl) (by kernel_rfl) (by kernel_rfl) (by rfl) (by intro w hSw; (try dsimp only at hSw); go_simp; try with_reducible rfl) ?_
          (try simp only [pA, pZ, pS])
          refine tkY 7 hHeld (by rfl) (by kernel_rfl) (by kernel_rfl) (by kernel_rfl) (by rfl) (by intro w hSw; (try dsimp only at hSw); go_simp; try with_reducible rfl) ?_
          (try simp only [pA, pZ, pS])
          refine wpAnyH_ready (rs := [8]) (by kernel_rfl) (by simp) ?_
          refine AllReadyH.cons (List.getElem?_toArray.trans rfl) (fun K hK => ?_) AllReadyH.nil
          go_simp
          (go_at_call 79; refine (HHO.out _ LK0.out BW0.out).mono ?_; rintro e' wc1 ⟨rfl, hbC⟩)
          (try go_wp2_with fail)
          refine hK.out _ _ ?hS4 (fun hHeld => ?_)
          case hS4 => ((try dsimp only); exact ⟨cell_below hbC HS0.out.1, cell_below hbC HS0.out.2.1, cell_below hbC HS0.out.2.2.1, cell_below hbC HS0.out.2.2.2.1, cell_below hbC HS0.out.2.2.2.2⟩)
          clear hK K
          (first | simp only [pA, pZ, pS] | simp only [pN] | skip)
          have LK2 := hidP (LK0.out.trans (Lko.of_below hbC))
          have BW2 := hidP (BW0.out.trans (hbC.mono BW0.out.size))
          have RB2 := hidP (RB0.out.bel hbC)
          have RQ2 := hidP ((hbC.block _ (lt_of_block' RQ0.out)).trans RQ0.out)
          have TK2 := hidP ((hbC.block _ (lt_of_block' TK0.out)).trans TK0.out)
          clear hbC
          have HS2 := hidP (show wc1.cell? ⟨xb, xo, none⟩ = some (.slice ca cs.length cc) ∧ wc1.cell? ⟨xb, xo + 1, none⟩ = some (.slice va (varsGo r.pats [] 0).length vc) ∧ wc1.cell? ⟨tkb, 0, none⟩ = some (.pointer p0) ∧ wc1.cell? ⟨tkb, 1, none⟩ = some (.pointer p1) ∧ wc1.cell? ⟨tkb, 2, none⟩ = some (.pointer p2) from ⟨(HPL.out wc1 LK2.out).1, (HPL.out wc1 LK2.out).2.1, cells3P TK2.out⟩)
          obtain ⟨⟨m0, m1⟩, mz, _⟩ := RB2.out.facts
          have mz0 := mz 0
          have mz1 := mz 1
          clear mz
          have HL6 := hidP (fun (w' : World) (ht : Turned wc1 w' rb) => (show w'.cell? ⟨xb, xo, none⟩ = some (.slice ca cs.length cc) ∧ w'.cell? ⟨xb, xo + 1, none⟩ = some (.slice va (varsGo r.pats [] 0).length vc) ∧ w'.cell? ⟨tkb, 0, none⟩ = some (.pointer p0) ∧ w'.cell? ⟨tkb, 1, none⟩ = some (.pointer p1) ∧ w'.cell? ⟨tkb, 2, none⟩ = some (.pointer p2) from ⟨(World.cell?_of_block (w := wc1) (ht.block xb hxr)).trans HS2.out.1, (World.cell?_of_block (w := wc1) (ht.block xb hxr)).trans HS2.out.2.1, cells3P ((ht.block tkb (by omega)).trans TK2.out)⟩))
          refine wpAnyH_ready (rs := [9]) (by kernel_rfl) (by simp) ?_
          refine AllReadyH.cons (List.getElem?_toArray.trans rfl) (fun K hK => ?_) AllReadyH.nil
          go_simp
          refine hK.out _ _ ?hS8 (fun hHeld => ?_)
          case hS8 => ((try dsimp only); exact HL6.out _ (Turned.setCells [_, _] 0 _ _))
          clear hK K
          (first | simp only [pA, pZ, pS] | simp only [pN] | skip)
          generalize hwt : ((wc1).setCell ⟨rb, 0, none⟩ (.slice ca cs.length cc)).setCell ⟨rb, 1, none⟩ (.slice va (varsGo r.pats [] 0).length vc) = wp5 at hHeld ⊢
          have ht : Turned (wc1) wp5 rb := by rw [← hwt]; exact Turned.setCells [(.slice ca cs.length cc), (.slice va (varsGo r.pats [] 0).length vc)] 0 _ rb
          have RB6 := hidP (show PlB wp5 rb (.slice ca cs.length cc) (.slice va (varsGo r.pats [] 0).length vc) from by rw [← hwt]; exact (RB2.out.set0 _).set1 _)
          have LK6 := hidP (LK2.out.trans (Lko.of_turned ht (by omega) (by omega)))
          have BW6 := hidP (BW2.out.trans (ht.below (by omega)))
          have RQ6 := hidP ((ht.block qb (by omega)).trans RQ2.out)
          have TK6 := hidP ((ht.block tkb (by omega)).trans TK2.out)
          clear hwt ht m0 m1 mz0 mz1 HL6
          have HS6 := hidP (show wp5.cell? ⟨xb, xo, none⟩ = some (.slice ca cs.length cc) ∧ wp5.cell? ⟨xb, xo + 1, none⟩ = some (.slice va (varsGo r.pats [] 0).length vc) ∧ wp5.cell? ⟨tkb, 0, none⟩ = some (.pointer p0) ∧ wp5.cell? ⟨tkb, 1, none⟩ = some (.pointer p1) ∧ wp5.cell? ⟨tkb, 2, none⟩ = some (.pointer p2) from ⟨(HPL.out wp5 LK6.out).1, (HPL.out wp5 LK6.out).2.1, cells3P TK6.out⟩)
          obtain ⟨n0, n1, n2⟩ := cells3P RQ6.out
          have nz0 : (wp5).frozen? ⟨qb, 0, none⟩ = false := by have := RQ6.out; simp [World.frozen?, this]
          have nz1 : (wp5).frozen? ⟨qb, 1, none⟩ = false := by have := RQ6.out; simp [World.frozen?, this]
          have nz2 : (wp5).frozen? ⟨qb, 2, none⟩ = false := by have := RQ6.out; simp [World.frozen?, this]
          have HL10 := hidP (fun (w' : World) (ht : Turned wp5 w' qb) => (show w'.cell? ⟨xb, xo, none⟩ = some (.slice ca cs.length cc) ∧ w'.cell? ⟨xb, xo + 1, none⟩ = some (.slice va (varsGo r.pats [] 0).length vc) ∧ w'.cell? ⟨tkb, 0, none⟩ = some (.pointer p0) ∧ w'.cell? ⟨tkb, 1, none⟩ = some (.pointer p1) ∧ w'.cell? ⟨tkb, 2, none⟩ = some (.pointer p2) from ⟨(World.cell?_of_block (w := wp5) (ht.block xb hxq)).trans HS6.out.1, (World.cell?_of_block (w := wp5) (ht.block xb hxq)).trans HS6.out.2.1, cells3P ((ht.block tkb (by omega)).trans TK6.out)⟩))
          refine wpAnyH_ready (rs := [10]) (by kernel_rfl) (by simp) ?_
          refine AllReadyH.cons (List.getElem?_toArray.trans rfl) (fun K hK => ?_) AllReadyH.nil
          go_simp
          refine hK.out _ _ ?hS12 (fun hHeld => ?_)
          case hS12 => ((try dsimp only); exact HL10.out _ (Turned.setCells [_, _, _] 0 _ _))
          clear hK K
          (first | simp only [pA, pZ, pS] | simp only [pN] | skip)
          generalize hwt : (((wp5).setCell ⟨qb, 0, none⟩ (.pointer p0)).setCell ⟨qb, 1, none⟩ (.pointer p1)).setCell ⟨qb, 2, none⟩ (.pointer p2) = wq9 at hHeld ⊢
          have ht : Turned (wp5) wq9 qb := by rw [← hwt]; exact Turned.setCells [.pointer p0, .pointer p1, .pointer p2] 0 _ qb
          have RQ10 := hidP (show wq9.heap[qb]? = some (.cells #[.pointer p0, .pointer p1, .pointer p2] 91 (0, 0)) from by
            rw [← hwt]
            have h1 := heap_setCell_same (i := 0) RQ6.out (.pointer p0)
            have h2 := heap_setCell_same (i := 1) h1 (.pointer p1)
            have h3 := heap_setCell_same (i := 2) h2 (.pointer p2)
            simpa using h3)
          have LK10 := hidP (LK6.out.trans (Lko.of_turned ht (by omega) (by omega)))
          have BW10 := hidP (BW6.out.trans (ht.below (by omega)))
          have RB10 := hidP (show PlB wq9 rb (.slice ca cs.length cc) (.slice va (varsGo r.pats [] 0).length vc) from (ht.block rb (by omega)).trans RB6.out)
          have TK10 := hidP ((ht.block tkb (by omega)).trans TK6.out)
          clear hwt ht n0 n1 n2 nz0 nz1 nz2 HL10
          have HS10 := hidP (show wq9.cell? ⟨xb, xo, none⟩ = some (.slice ca cs.length cc) ∧ wq9.cell? ⟨xb, xo + 1, none⟩ = some (.slice va (varsGo r.pats [] 0).length vc) ∧ wq9.cell? ⟨tkb, 0, none⟩ = some (.pointer p0) ∧ wq9.cell? ⟨tkb, 1, none⟩ = some (.pointer p1) ∧ wq9.cell? ⟨tkb, 2, none⟩ = some (.pointer p2) from ⟨(HPL.out wq9 LK10.out).1, (HPL.out wq9 LK10.out).2.1, cells3P TK10.out⟩)
          refine tkY 11 hHeld (by rfl) (by kernel_rfl) (by kernel_rfl) (by kernel_rfl) (by rfl) (by intro w hSw; (try dsimp only at hSw); go_simp; try with_reducible rfl) ?_
          (try simp only [pA, pZ, pS])
          refine wpAnyH_done (by kernel_rfl) ?_ _
          refine NoPanic.normal ?_
          go_wp2_with fail
          obtain ⟨⟨k0, k1⟩, _, _⟩ := RB10.out.facts
          obtain ⟨j0, j1, j2⟩ := cells3P RQ10.out
          refine bodyPost_ret (v := .tuple #[.agg #[.slice ca cs.length cc, .slice va (varsGo r.pats [] 0).length vc], .agg #[.pointer p0, .pointer p1, .pointer p2], .bool (holdsM r fs tags)]) (by simp [results, Tryz.results47, go_sem, k0, k1, j0, j1, j2]) rfl ?_
          exact ⟨⟨ca, cs.length, cc, va, (varsGo r.pats [] 0).length, vc, p0, p1, p2, rfl, fun _ => ⟨W, rfl, owns_base (HPL.out _ LK10.out).2.2.2 (by omega), TA.out.below BW10.out, WK.out, HLEN.out, HRDY.out⟩⟩, BW10.out⟩
    · have HN := hidP (holds_number (fs := fs) hlen)
      have t1 : ((tags.length : Int) != (positives r.pats : Int)) = true := by simp; omega
      clear hlen
      go_wp2_with fail
      refine (HPO.out w1 BW.out).mono ?_
      rintro e w2 ⟨rfl, hb2⟩
      have BW2 := hidP (BW.out.trans (hb2.mono BW.out.size))
      have RB2 := hidP (RB1.out.bel hb2)
      have RQ2 := hidP ((hb2.block _ (lt_of_block' RQ1.out)).trans RQ1.out)
      clear BW
      have BW := BW2
      obtain ⟨⟨m0, m1⟩, mz, _⟩ := RB2.out.facts
      have mz0 := mz 0
      have mz1 := mz 1
      clear mz
      obtain ⟨n0, n1, n2⟩ := cells3P RQ2.out
      have nz0 : w2.frozen? ⟨qb, 0, none⟩ = false := by simp [World.frozen?, RQ2.out]
      have nz1 : w2.frozen? ⟨qb, 1, none⟩ = false := by simp [World.frozen?, RQ2.out]
      have nz2 : w2.frozen? ⟨qb, 2, none⟩ = false := by simp [World.frozen?, RQ2.out]
      clear hb2 HPO
      go_wp2_with fail
      refine bodyPost_ret (v := .tuple #[.agg #[.slice none 0 0, .slice none 0 0], .agg #[.pointer none, .pointer none, .pointer none], .bool false]) (by simp [results, Tryz.results47, go_sem, m0, m1, n0, n1, n2]) rfl ?_
      refine ⟨⟨none, 0, 0, none, 0, 0, none, none, none, by rw [HN.out], fun h => by rw [HN.out] at h; cases h⟩, ?_⟩
      exact (((((BW.out.setCell (by simp; omega) _).setCell (by simp; omega) _).setCell (by simp; omega) _).setCell (by simp; omega) _).setCell (by simp; omega) _)
  · rw [if_neg hrdy] at he1
    subst he1
    have HN := hidP (holdsM_not (tags := tags) (show ready [r] fs = false by simpa using hrdy))
    obtain ⟨⟨m0, m1⟩, mz, _⟩ := RB1.out.facts
    have mz0 := mz 0
    have mz1 := mz 1
    clear mz
    obtain ⟨n0, n1, n2⟩ := cells3P RQ1.out
    have nz0 : w1.frozen? ⟨qb, 0, none⟩ = false := by simp [World.frozen?, RQ1.out]
    have nz1 : w1.frozen? ⟨qb, 1, none⟩ = false := by simp [World.frozen?, RQ1.out]
    have nz2 : w1.frozen? ⟨qb, 2, none⟩ = false := by simp [World.frozen?, RQ1.out]
    clear hrdy
    go_wp2_with fail
    refine bodyPost_ret (v := .tuple #[.agg #[.slice none 0 0, .slice none 0 0], .agg #[.pointer none, .pointer none, .pointer none], .bool false]) (by simp [results, Tryz.results47, go_sem, m0, m1, n0, n1, n2]) rfl ?_
    refine ⟨⟨none, 0, 0, none, 0, 0, none, none, none, by rw [HN.out], fun h => by rw [HN.out] at h; cases h⟩, ?_⟩
    exact (((((BW.out.setCell (by simp; omega) _).setCell (by simp; omega) _).setCell (by simp; omega) _).setCell (by simp; omega) _).setCell (by simp; omega) _)
end Go.Proofs.YtognpkdgphebeaaGreat

namespace Go.Proofs.YtognpkdgphebeaaGreat
open Go.RowKit Go.Maps
attribute [local go_sem ↓] Go.wp_at_zero Go.wp_at_succ

theorem envB_len (W : List F) (vs : List Vr) : (envB W vs).length = vs.length := by simp [envB]
theorem envB_take {W : List F} {vs : List Vr} {k : Nat} {v : Vr} (h : vs[k]? = some v) : envB W (vs.take (k + 1)) = envB W (vs.take k) ++ [⟨v.name, vrVal W v⟩] := by
  unfold envB
  rw [List.take_add_one, h]
  simp
theorem vrVal_eq {W : List F} {v : Vr} {g : F} {x : V} (h1 : W[v.fact]? = some g) (h2 : g.slots[v.slot]? = some x) : vrVal W v = x := by
  unfold vrVal
  rw [h1]
  simp [h2]
set_option maxRecDepth 100000 in
set_option maxHeartbeats 6400000 in
theorem iBindings_any (r : Ru) (fs : List F) (tags : List Int) (a_p : Option Addr) (c_p : Nat) (a_e : Option Addr) (c_e : Nat) (a_a : Option Addr) (c_a : Nat) (fa : Option Addr) (fc : Nat) (ta : Option Addr) (tc : Nat) {q q' : Option Nat} (w : World) (h_p : PtsAt q w a_p r.pats) (h_e : ExsAt q w a_e r.exprs) (h_a : AcsAt q w a_a r.acts) (hce : r.exprs.length ≤ c_e) (hle : ListLe Ru.le 1048576 [r]) (ho : OpsOk r.exprs) (hvo : ∀ p ∈ r.pats, ∀ t ∈ p.terms, VOk t.val) (h_f : FactsAt w fa fs) (hl : fs.length ≤ 1048576) (hs : ∀ f ∈ fs, Sized f) (hrd : ∀ f ∈ fs, Read f) (h_t : IntsAt q' w ta tags) (htl : tags.length ≤ 1048576) (htw : ∀ t ∈ tags, (Lit.int .i64 t).wf = true) :
    Calls Tryz.prog 18 #[.agg #[.string r.name, .int .i64 r.sal, .slice a_p r.pats.length c_p, .slice a_e r.exprs.length c_e, .slice a_a r.acts.length c_a], .slice fa fs.length fc, .slice ta tags.length tc] w (BnPost (bindsM r fs tags) w) := by
  have HM := hidP (fun wt (hb : Below w.heap.size w wt) => matchOf_any r fs tags a_p c_p a_e c_e a_a c_a fa fc ta tc wt (h_p.below hb) (h_e.below hb) (h_a.below hb) hce hle ho hvo (h_f.below hb) hl hs hrd (h_t.below hb) htl htw)
  clear h_p h_e h_a hle ho hvo h_f hs hrd h_t htw
  go_enter Tryz.func18, Tryz.ntmps18
  go_upto_region 1 with fail
  refine lift_alloc ?_
  intro w0 hW0 hq0
  obtain ⟨b0, b1, b2, b3, b4⟩ := cells5P hq0
  have H0 := hidP hW0
  clear hW0 hq0
  cases hh : holdsM r fs tags
  · have HN := hidP (binds_lost hh)
    go_wp2_with fail
    refine (HM.out w0 H0.out).mono ?_
    rintro e w1 ⟨⟨ca, n, cc, va, m, vc, u0, u1, u2, rfl, _⟩, hb1⟩
    have B1 := hidP (H0.out.trans (hb1.mono H0.out.size))
    rw [hh]
    clear hb1 HM H0 b0 b1 b2 b3 b4 hh
    go_wp2_with fail
    go_ret
    exact BnPost.nil HN.out ((B1.out.alloc B1.out.size _).alloc (by have := B1.out.size; simp; omega) _)
  · go_wp2_with fail
    refine (HM.out w0 H0.out).mono ?_
    rintro e w1 ⟨⟨ca, n, cc, va, m, vc, u0, u1, u2, rfl, hyes⟩, hb1⟩
    obtain ⟨W, rfl, hvr, hTK, hWO, hlen, hrdy⟩ := hyes hh
    obtain ⟨hWl, hWt, hWf⟩ := hWO
    rw [List.take_length] at hWt
    have hgf : gFrom 0 fs = true := by
      have h' : (decide (fs.length ≤ 40) && gFrom 0 fs) = true := (ready_small hrdy).2.1
      simp only [Bool.and_eq_true] at h'
      exact h'.2
    have hh' : holdsM r fs (W.map (·.tag)) = true := by rw [hWt]; exact hh
    have HBF := hidP (show bindsM r fs tags = envB W (varsGo r.pats [] 0) by rw [← hWt]; exact binds_found hrdy (gFrom_inj hgf) hWf hh')
    have HVI := hidP (vars_match hrdy (gFrom_inj hgf) hWf (hWl.trans hlen) hh')
    have hvl : (varsGo r.pats [] 0).length ≤ 36 := by
      obtain ⟨h6, ht6, _⟩ := chk_small (ready_small hrdy).1 (List.mem_singleton.2 rfl)
      have := varsGo_len r.pats [] 0 ht6
      simp at this
      omega
    have B1 := hidP (H0.out.trans (hb1.mono H0.out.size))
    have VR := hidP hvr
    have TK := hidP hTK
    obtain ⟨vs, hvs⟩ : ∃ l, l = varsGo r.pats [] 0 := ⟨_, rfl⟩
    rw [← hvs] at HBF HVI hvl VR ⊢
    rw [hh]
    clear hb1 HM b0 b1 b2 b3 b4 hh hh' hvr hTK hWf hWt hrdy hgf hyes hvs hWl
    go_upto_region 4 with fail
    refine lift2P ?_
    intro w2 hW2 hq2 hq3
    obtain ⟨pb, hpb⟩ : ∃ b, b = w1.heap.size := ⟨_, rfl⟩
    obtain ⟨qb, hqb⟩ : ∃ b, b = pb + 1 := ⟨_, rfl⟩
    rw [← hpb] at hq2
    rw [← hpb] at hq3
    rw [← hqb] at hq3
    (try rw [← hpb])
    (try rw [← hqb])
    obtain ⟨p0, p1⟩ := cells2P hq2
    have QB2 := hidP hq3
    have VR2 := hidP (VrsAt.owns (own_bel VR.out hW2))
    have TK2 := hidP (TK.out.below hW2)
    have B2 := hidP (B1.out.trans (hW2.mono B1.out.size))
    have hs2 := B2.out.size
    have hqw : qb < w2.heap.size := lt_of_block' hq3
    have hwq : w.heap.size ≤ qb := by have := B1.out.size; omega
    clear hW2 hq2 hq3 VR TK hpb hqb
    go_wp2_with fail
    clear p0 p1
    go_loopw [26, 10] (fun iv bv wr => ∃ (k : Nat) (a : Option Addr) (c : Nat), iv = .int .i64 (k : Int) ∧ k ≤ vs.length ∧ bv = .slice a (envB W (vs.take k)).length c ∧ wr.ownsRow w.heap.size 106 4 (.slice a (envB W (vs.take k)).length c) (envB W (vs.take k)).length ((envB W (vs.take k)).flatMap bdCells) ∧ (∀ g, (Value.slice a (envB W (vs.take k)).length c).ownBlock = some g → w2.heap.size ≤ g) ∧ Below w2.heap.size w2 wr) (fun iv _ _ => vs.length - (intOf iv).toNat)
    case atStart => exact ⟨0, none, 0, rfl, Nat.zero_le _, rfl, World.ownsRow_nil _ _ _ _, fun g hg => (by cases hg), Below.refl _ _⟩
    case round =>
      obtain ⟨k, a, c, rfl, hkl, rfl, hrow, hnew, hb⟩ := hrel
      have ROW := hidP hrow
      have NEW := hidP hnew
      have BR := hidP hb
      have hsr := hb.size
      have hel : (envB W (vs.take k)).length ≤ 36 := by rw [envB_len, List.length_take]; omega
      clear hrow hnew hb
      by_cases hk : k < vs.length
      · obtain ⟨v, hv⟩ : ∃ v, vs[k]? = some v := ⟨vs[k], by simp [hk]⟩
        obtain ⟨g, hg, hsl⟩ := HVI.out v (List.mem_of_getElem? hv)
        obtain ⟨vl, hvl'⟩ : ∃ x, g.slots[v.slot]? = some x := ⟨g.slots[v.slot], by simp [hsl]⟩
        obtain ⟨vbk, vo, rfl, c0, c1, c2⟩ := (VR2.out.below BR.out) k v hv
        obtain ⟨pv, hpv, hpf⟩ := (TK2.out.below BR.out) _ g hg
        have HET := hidP (show envB W (vs.take (k + 1)) = envB W (vs.take k) ++ [⟨v.name, vl⟩] by rw [envB_take hv, vrVal_eq hg hvl'])
        have QBR := hidP ((BR.out.block _ (lt_of_block' QB2.out)).trans QB2.out)
        have HV0 := hidP (fun w' (h : Below wr.heap.size wr w') => tokVal_any (.pointer u0) (.pointer u1) (.pointer u2) pv v.fact v.slot g vl w' hpv (hpf.below h) hvl')
        have z0 : (0 : Int) ≤ (k : Int) := by omega
        have z1 : (k : Int) < (vs.length : Int) := by omega
        clear hv hg hsl hvl' hpv hpf
        go_upto_region 8 with fail
        refine lift_alloc ?_
        intro w5 hW5 hq5
        obtain ⟨vb, hvb⟩ : ∃ b, b = wr.heap.size := ⟨_, rfl⟩
        rw [← hvb] at hq5 ⊢
        obtain ⟨d0, d1, d2⟩ := cells3P hq5
        obtain ⟨t0, t1, t2⟩ := cells3P ((hW5.block _ (lt_of_block' QBR.out)).trans QBR.out)
        have R5 := hidP (own_bel ROW.out hW5)
        have HVL := hidP (fun w' (h : Below w5.heap.size w5 w') => HV0.out w' (hW5.trans (h.mono hW5.size)))
        have B5 := hidP (BR.out.trans (hW5.mono BR.out.size))
        have hs5 := hW5.size
        have hl5 : vb < w5.heap.size := lt_of_block' hq5
        have hnV : (Value.slice a (envB W (vs.take k)).length c).ownBlock ≠ some vb := fun e => by have := (ROW.out.lt vb e).2; omega
        have hnQ : (Value.slice a (envB W (vs.take k)).length c).ownBlock ≠ some qb := fun e => by have := NEW.out qb e; omega
        have hq5' : qb < w5.heap.size := by omega
        clear hW5 hq5 hvb c0 c1 c2 HV0 QBR
        go_wp2_with fail
        refine wp_region_noPanic ?_
        refine wp_region_held_drew (S := (fun w' => w'.cell? ⟨vb, 0, none⟩ = some (.string v.name) ∧ w'.cell? ⟨vb, 1, none⟩ = some (.int .i64 (v.fact : Int)) ∧ w'.cell? ⟨vb, 2, none⟩ = some (.int .i64 (v.slot : Int)) ∧ w'.cell? ⟨qb, 0, none⟩ = some (.pointer u0) ∧ w'.cell? ⟨qb, 1, none⟩ = some (.pointer u1) ∧ w'.cell? ⟨qb, 2, none⟩ = some (.pointer u2))) (by kernel_rfl) ?_ (fun hHeld => ?_)
        · (try dsimp only)
          exact ⟨d0, d1, d2, t0, t1, t2⟩
        refine tkY 0 hHeld (by rfl) (by kernel_rfl) (by kernel_rfl) (by kernel_rfl) (by rfl) (by intro w hSw; (try dsimp only at hSw); go_simp; try with_reducible rfl) ?_
        (try simp only [pA, pZ, pS])
        refine tkY 1 hHeld (by rfl) (by kernel_rfl) (by kernel_rfl) (by kernel_rfl) (by rfl) (by intro w hSw; (try dsimp only at hSw); go_simp; try with_reducible rfl) ?_
        (try simp only [pA, pZ, pS])
        refine tkY 2 hHeld (by rfl) (by kernel_rfl) (by kernel_rfl) (by kernel_rfl) (by rfl) (by intro w hSw; (try dsimp only at hSw); go_simp; try with_reducible rfl) ?_
        (try simp only [pA, pZ, pS])
        refine tkY 3 hHeld (by rfl) (by kernel_rfl) (by kernel_rfl) (by kernel_rfl) (by rfl) (by intro w hSw; (try dsimp only at hSw); go_simp; try with_reducible rfl) ?_
        (try simp only [pA, pZ, pS])
        refine tkY 4 hHeld (by rfl) (by kernel_rfl) (by kernel_rfl) (by kernel_rfl) (by rfl) (by intro w hSw; (try dsimp only at hSw); go_simp; try with_reducible rfl) ?_
        (try simp only [pA, pZ, pS])
        refine tkY 5 hHeld (by rfl) (by kernel_rfl) (by kernel_rfl) (by kernel_rfl) (by rfl) (by intro w hSw; (try dsimp only at hSw); go_simp; try with_reducible rfl) ?_
        (try simp only [pA, pZ, pS])
        refine wpAnyH_ready (rs := [6]) (by kernel_rfl) (by simp) ?_
        refine AllReadyH.cons (List.getElem?_toArray.trans rfl) (fun K hK => ?_) AllReadyH.nil
        go_simp
        (go_at_call 52; refine (HVL.out _ (Below.refl _ _).drew).mono ?_; rintro e' w6 ⟨rfl, hb6⟩)
        (try go_wp2_with fail)
        refine hK.out _ _ ?hS2 (fun hHeld => ?_)
        case hS2 => ((try dsimp only); exact ⟨cell_below hb6 d0, cell_below hb6 d1, cell_below hb6 d2, cell_below hb6 t0, cell_below hb6 t1, cell_below hb6 t2⟩)
        clear hK K
        (first | simp only [pA, pZ, pS] | simp only [pN] | skip)
        have B6 := hidP (show Below w5.heap.size w5 w6 from (Below.refl _ _).drew.trans (hb6.mono (by simp)))
        have R6 := hidP (own_bel R5.out B6.out)
        have HW6 := hidP (fun o' => (Below.refl _ _).alloc (Nat.le_refl _) o' : ∀ o', Below w6.heap.size w6 (w6.alloc o'))
        have hs6 := B6.out.size
        have hw6 : w.heap.size ≤ w6.heap.size := by omega
        have d06 := cell_below hb6 d0
        have d16 := cell_below hb6 d1
        have d26 := cell_below hb6 d2
        have t06 := cell_below hb6 t0
        have t16 := cell_below hb6 t1
        have t26 := cell_below hb6 t2
        clear hb6
        refine tkY 7 hHeld (by rfl) (by kernel_rfl) (by kernel_rfl) (by kernel_rfl) (by rfl) (by intro w hSw; (try dsimp only at hSw); go_simp; try with_reducible rfl) ?_
        (try simp only [pA, pZ, pS])
        refine wpAnyH_ready (rs := [8]) (by kernel_rfl) (by simp) ?_
        refine AllReadyH.cons (List.getElem?_toArray.trans rfl) (fun K hK => ?_) AllReadyH.nil
        go_simp
        refine hK.out _ _ ?hS4 (fun hHeld => ?_)
        case hS4 => ((try dsimp only); exact ⟨cell_below (HW6.out _) d06, cell_below (HW6.out _) d16, cell_below (HW6.out _) d26, cell_below (HW6.out _) t06, cell_below (HW6.out _) t16, cell_below (HW6.out _) t26⟩)
        clear hK K
        (first | simp only [pA, pZ, pS] | simp only [pN] | skip)
        refine wpAnyH_ready (rs := [9]) (by kernel_rfl) (by simp) ?_
        refine AllReadyH.cons (List.getElem?_toArray.trans rfl) (fun K hK => ?_) AllReadyH.nil
        (refine step_append_any (by rfl) (.tmp 30) (.tmp 38) 45 (by rfl) w.heap.size 106 _ 4 48 Tryz.underlying45 infoBdF (by rfl) (by omega) _ (envB W (vs.take k)).length _ (by rfl) (own_bel R6.out (HW6.out _)) (some ⟨_, 0, none⟩) 1 1 (by rfl) (bdCells ⟨v.name, vl⟩) (by rfl) (fun e => by cases e) (news_new _ _ _ _ (by first | rfl | simp)) (fun u hu => bd_one [⟨v.name, vl⟩] u (by simpa using hu)) (by unfold maxLen; omega) (by omega) (Nat.le_trans hw6 (HW6.out _).size) ?_; intro a8 c8 w8 ho8 hg8 hl8)
        refine hK.out _ _ ?hS6 (fun hHeld => ?_)
        case hS6 => ((try dsimp only); exact ⟨(cell_grownP hg8.out hnV (by simp; omega)).trans (cell_below (HW6.out _) d06), (cell_grownP hg8.out hnV (by simp; omega)).trans (cell_below (HW6.out _) d16), (cell_grownP hg8.out hnV (by simp; omega)).trans (cell_below (HW6.out _) d26), (cell_grownP hg8.out hnQ (by simp; omega)).trans (cell_below (HW6.out _) t06), (cell_grownP hg8.out hnQ (by simp; omega)).trans (cell_below (HW6.out _) t16), (cell_grownP hg8.out hnQ (by simp; omega)).trans (cell_below (HW6.out _) t26)⟩)
        clear hK K
        (first | simp only [pA, pZ, pS] | simp only [pN] | skip)
        refine tkY 10 hHeld (by rfl) (by kernel_rfl) (by kernel_rfl) (by kernel_rfl) (by rfl) (by intro w hSw; (try dsimp only at hSw); go_simp; try with_reducible rfl) ?_
        (try simp only [pA, pZ, pS])
        refine wpAnyH_done (by kernel_rfl) ?_ _
        refine NoPanic.normal ?_
        have B8 := hidP (show Below w2.heap.size w2 w8 from ((B5.out.trans (B6.out.mono B5.out.size)).trans ((HW6.out _).mono (by omega))).grown hg8.out (by simp; omega) (fun g hg => NEW.out g hg))
        have NEW8 := hidP (fun g (hg : (Value.slice a8 ((envB W (vs.take k)).length + 1) c8).ownBlock = some g) => (show w2.heap.size ≤ g by rcases hl8.out with h | h; rw [h] at hg; exact NEW.out g hg; rw [h] at hg; injection hg with hg; simp at hg; omega))
        have HO8 := hidP ho8.out
        clear hg8 hl8 ho8 hHeld
        go_wp2_with fail
        go_roundw
        case rel =>
          refine ⟨k + 1, a8, c8, by go_num, by omega, ?_, ?_, ?_, B8.out⟩
          · rw [HET.out]
            simp
          · rw [HET.out]
            simpa using HO8.out
          · rw [HET.out]
            simpa using NEW8.out
        case measure => (simp [intOf]; omega)
      · have hke : k = vs.length := by omega
        subst hke
        have hy : ¬ (vs.length : Int) < (vs.length : Int) := by omega
        rw [List.take_length] at ROW ⊢
        go_wp2_with fail
        go_ret
        exact BnPost.mk HBF.out ROW.out (B2.out.trans (BR.out.mono hs2))
end Go.Proofs.YtognpkdgphebeaaGreat
