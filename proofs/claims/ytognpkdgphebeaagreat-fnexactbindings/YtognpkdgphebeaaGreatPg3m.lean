/-
  OUR OWN TEXT. The program: conditions; a token that holds.
-/
import Derived.Test.YtognpkdgphebeaaGreatUb
import Derived.Test.YtognpkdgphebeaaGreatOd
import Derived.Test.YtognpkdgphebeaaGreatUa
namespace Go.Proofs.YtognpkdgphebeaaGreat
open Go.RowKit
attribute [local go_sem ↓] Go.wp_at_zero Go.wp_at_succ

/-- A node's Alpha. -/
structure NdAt (w : World) (nb : Nat) (x : Al) (a : Option Addr) (c : Nat) : Prop where
  c0 : w.cell? ⟨nb, 0, none⟩ = some (.string x.cls)
  c1 : w.cell? ⟨nb, 1, none⟩ = some (.int .i64 x.arity)
  c2 : w.cell? ⟨nb, 2, none⟩ = some (.slice a x.tests.length c)
  tt : TtsAt none w a x.tests
theorem NdAt.below {w w' : World} {nb : Nat} {x : Al} {a : Option Addr} {c : Nat} (h : NdAt w nb x a c) (hb : Below w.heap.size w w') : NdAt w' nb x a c := ⟨cell_below hb h.c0, cell_below hb h.c1, cell_below hb h.c2, h.tt.below hb⟩
set_option maxHeartbeats 3200000 in
theorem nodePasses_any (nb : Nat) (x : Al) (a : Option Addr) (c : Nat) (pf : Value) (f : F) (w : World) (hN : NdAt w nb x a c) (hF : FacAt w pf f) (hl : x.tests.length ≤ 1048576) :
    Calls Tryz.prog 107 #[.pointer (some ⟨nb, 0, none⟩), pf] w fun e w' => e = .returned (.bool (passes x f)) ∧ Below w.heap.size w w' := by
  obtain ⟨c0, c1, c2, htt⟩ := hN
  obtain ⟨b, o, rfl, f0, f1, sa, sc, f2, hsv⟩ := hF
  have HC := hidP (fun w' (h : Below w.heap.size w w') => iPass_any x a c f sa sc w' (htt.below h) (hsv.below h) hl)
  have D := hidP (Below.refl w.heap.size w)
  clear htt hsv
  go_enter Tryz.func107, Tryz.ntmps107
  go_wp2_with fail
  go_region_held3 (fun w' => w'.cell? ⟨nb, 0, none⟩ = some (.string x.cls) ∧ w'.cell? ⟨nb, 1, none⟩ = some (.int .i64 x.arity) ∧ w'.cell? ⟨nb, 2, none⟩ = some (.slice a x.tests.length c) ∧ w'.cell? ⟨b, o, none⟩ = some (.int .i64 f.tag) ∧ w'.cell? ⟨b, o + 1, none⟩ = some (.string f.cls) ∧ w'.cell? ⟨b, o + 2, none⟩ = some (.slice sa f.slots.length sc) ∧ Below w.heap.size w w') ((go_split_ands; refine ⟨?_, ?_, ?_, ?_, ?_, ?_, ?_⟩ <;> first | (simp [*]; done) | exact D.out.drew | exact cell_below hb' (by assumption) | exact Below.trans (by assumption) (Below.mono hb' (Below.size (by assumption))))) (first | (go_at_call 125; refine (HC.out _ (by first | exact D.out.drew | assumption)).mono ?_; rintro e w' ⟨rfl, hb'⟩) | fail)
  rename_i hh
  have D9 := hidP hh.2.2.2.2.2.2
  clear hh
  go_wp2_with fail
  go_ret
  exact ⟨rfl, D9.out⟩
/-- A condition: what it is, and the facts of its node. -/
structure Cn where
  neg : Bool
  at_ : Nat
  node : Nat
  tests : List Jt
  alpha : Al
  facts : List F
structure CnR (w : World) (c : Cn) (ta : Option Addr) : Prop where
  tests : JtsAt w ta c.tests
  node : ∃ a n, NdAt w c.node c.alpha a n
  facts : ∃ fa fc, w.cell? ⟨c.node, 4, none⟩ = some (.slice fa c.facts.length fc) ∧ FpsAt w fa c.facts
theorem CnR.below {w w' : World} {c : Cn} {ta : Option Addr} (h : CnR w c ta) (hb : Below w.heap.size w w') : CnR w' c ta := by
  obtain ⟨h1, ⟨a, n, h2⟩, fa, fc, h3, h4⟩ := h
  exact ⟨h1.below hb, ⟨a, n, h2.below hb⟩, fa, fc, cell_below hb h3, h4.below hb⟩
def CnsAt (w : World) (a : Option Addr) (cs : List Cn) : Prop := ∀ (i : Nat) (c : Cn), cs[i]? = some c → ∃ b o ta tc, a = some ⟨b, o, none⟩ ∧ w.cell? ⟨b, o + i * 4, none⟩ = some (.bool c.neg) ∧ w.cell? ⟨b, o + i * 4 + 1, none⟩ = some (.int .i64 (c.at_ : Int)) ∧ w.cell? ⟨b, o + i * 4 + 2, none⟩ = some (.pointer (some ⟨c.node, 0, none⟩)) ∧ w.cell? ⟨b, o + i * 4 + 3, none⟩ = some (.slice ta c.tests.length tc) ∧ CnR w c ta
theorem CnsAt.below {w w' : World} {a : Option Addr} {cs : List Cn} (h : CnsAt w a cs) (hb : Below w.heap.size w w') : CnsAt w' a cs := by
  intro i c hi
  obtain ⟨b, o, ta, tc, e, h0, h1, h2, h3, h4⟩ := h i c hi
  exact ⟨b, o, ta, tc, e, cell_below hb h0, cell_below hb h1, cell_below hb h2, cell_below hb h3, h4.below hb⟩
/-- A condition holds of a token. -/
def okC (T : List F) (c : Cn) : Bool :=
  if c.neg = true then !(c.facts.any (fun f => c.tests.all (jHolds T f)))
  else (match T[c.at_]? with | some f => passes c.alpha f && c.tests.all (jHolds T f) | none => false)
theorem okC_neg {T : List F} {c : Cn} (h : c.neg = true) : okC T c = !(c.facts.any (fun f => c.tests.all (jHolds T f))) := if_pos h
theorem okC_pos {T : List F} {c : Cn} {f : F} (h : c.neg = false) (hf : T[c.at_]? = some f) : okC T c = (passes c.alpha f && c.tests.all (jHolds T f)) := by
  unfold okC
  rw [if_neg (by rw [h]; simp), hf]
/-- What may be asked of a condition, once those ahead of it hold. -/
def fitC (T : List F) (c : Cn) : Prop := (c.neg = true → ∀ f ∈ c.facts, ∀ t ∈ c.tests, t.fits T f) ∧ (c.neg = false → ∃ f, T[c.at_]? = some f ∧ (passes c.alpha f = true → ∀ t ∈ c.tests, t.fits T f))
def smallC (c : Cn) : Prop := c.tests.length ≤ 1048576 ∧ c.facts.length ≤ 1048576 ∧ c.alpha.tests.length ≤ 1048576
set_option maxRecDepth 100000 in
set_option maxHeartbeats 12800000 in
theorem planHolds_any (cs : List Cn) (a : Option Addr) (cc : Nat) (vs p0 p1 p2 : Value) (T : List F) (w : World) (h_c : CnsAt w a cs) (h_T : TokAt w p0 p1 p2 T) (hl : cs.length ≤ 1048576) (hsm : ∀ c ∈ cs, smallC c) (hfit : ∀ k c, cs[k]? = some c → (∀ c' ∈ cs.take k, okC T c' = true) → fitC T c) :
    Calls Tryz.prog 79 #[.agg #[.slice a cs.length cc, vs], .agg #[p0, p1, p2]] w fun e w' => e = .returned (.bool (cs.all (okC T))) ∧ Below w.heap.size w w' := by
  have HC := hidP h_c
  have HT := hidP h_T
  have HS := hidP hsm
  have HF := hidP hfit
  clear h_c h_T hsm hfit
  go_enter Tryz.func79, Tryz.ntmps79
  go_upto_region 1 with fail
  refine lift2P ?_
  intro w0 hW0 hq0 hq1
  have c0 : w0.cell? ⟨w.heap.size, 0, none⟩ = some (.slice a cs.length cc) := by simp [World.cell?, hq0]
  obtain ⟨t0, t1, t2⟩ := cells3P hq1
  have H0 := hidP hW0
  have hl0 : w.heap.size + 1 < w0.heap.size := lt_of_block' hq1
  clear hW0 hq0 hq1
  go_wp2_with fail
  clear c0
  go_loopw [10] (fun iv wr => ∃ (k : Nat), iv = .int .i64 (k : Int) ∧ k ≤ cs.length ∧ (∀ c' ∈ cs.take k, okC T c' = true) ∧ Below w0.heap.size w0 wr) (fun iv _ => cs.length - (intOf iv).toNat)
  case atStart => exact ⟨0, rfl, Nat.zero_le _, by simp, Below.refl _ _⟩
  case round =>
    obtain ⟨k, rfl, hkl, hG, hb⟩ := hrel
    have HG := hidP hG
    have HBB := hidP hb
    have HBW := hidP (H0.out.trans (hb.mono H0.out.size))
    have hsr := hb.size
    clear hG hb
    by_cases hk : k < cs.length
    · obtain ⟨c, hc⟩ : ∃ c, cs[k]? = some c := ⟨cs[k], by simp [hk]⟩
      obtain ⟨jb, jo, ta, tc, rfl, j0, j1, j2, j3, hR⟩ := (HC.out.below HBW.out) k c hc
      have CR := hidP hR
      have HFC := hidP (HF.out k c hc HG.out)
      obtain ⟨hs1, hs2, hs3⟩ := HS.out c (List.mem_of_getElem? hc)
      have HNO := hidP (fun (h : okC T c = false) => (show cs.all (okC T) = false by rw [List.all_eq_false]; exact ⟨c, List.mem_of_getElem? hc, by rw [h]; simp⟩))
      have HNXT := hidP (fun (h : okC T c = true) => (show ∀ c' ∈ cs.take (k + 1), okC T c' = true by intro c' hc'; rw [List.take_add_one, hc] at hc'; rcases List.mem_append.1 hc' with h' | h'; exact HG.out c' h'; simp at h'; subst h'; exact h))
      have r0 := cell_below HBB.out t0
      have r1 := cell_below HBB.out t1
      have r2 := cell_below HBB.out t2
      have z0 : (0 : Int) ≤ (k : Int) := by omega
      have z1 : (k : Int) < (cs.length : Int) := by omega
      clear hc hR HG
      go_upto_region 4 with fail
      refine lift_alloc ?_
      intro w2 hW2 hq2
      obtain ⟨d0, d1, d2, d3⟩ := cells4P hq2
      have q0 := cell_below hW2 r0
      have q1 := cell_below hW2 r1
      have q2 := cell_below hW2 r2
      have C2 := hidP (CR.out.below hW2)
      have D2 := hidP (HBB.out.trans (hW2.mono HBB.out.size))
      have W2 := hidP (HBW.out.trans (hW2.mono HBW.out.size))
      have T2 := hidP (HT.out.below W2.out)
      have hs2' := hW2.size
      have hlb : wr.heap.size < w2.heap.size := lt_of_block' hq2
      clear hW2 hq2 r0 r1 r2 j0 j1 j2 j3 HBB HBW CR
      rcases (show c.neg = true ∨ c.neg = false by cases c.neg <;> simp) with hneg | hneg
      · obtain ⟨fa, fc, hn4, hfp⟩ := C2.out.facts
        have HB := hidP (barred_any (.bool c.neg) (.int .i64 (c.at_ : Int)) p0 p1 p2 c.node c.tests ta tc T c.facts fa fc w2 hn4 C2.out.tests T2.out hfp hs1 hs2 (HFC.out.1 hneg))
        rw [hneg] at HB d0
        cases hm : c.facts.any (fun f => c.tests.all (jHolds T f))
        · have HN := hidP (HNXT.out (by rw [okC_neg hneg, hm]; rfl))
          rw [hm] at HB
          clear hm hneg hn4 hfp
          go_wp2_with fail
          refine HB.out.mono ?_
          rintro e w3 ⟨rfl, hb3⟩
          have D3 := hidP (D2.out.trans (hb3.mono D2.out.size))
          have d0' := cell_below hb3 d0
          have d1' := cell_below hb3 d1
          have d2' := cell_below hb3 d2
          have d3' := cell_below hb3 d3
          have q0' := cell_below hb3 q0
          have q1' := cell_below hb3 q1
          have q2' := cell_below hb3 q2
          clear hb3 HB
          go_wp2_with fail
          go_region
          go_wp2_with fail
          go_roundw
          case rel => exact ⟨k + 1, by go_num, by omega, HN.out, D3.out.drew⟩
          case measure => (simp [intOf]; omega)
        · have HN := hidP (HNO.out (by rw [okC_neg hneg, hm]; rfl))
          rw [hm] at HB
          clear hm hneg hn4 hfp
          go_wp2_with fail
          refine HB.out.mono ?_
          rintro e w3 ⟨rfl, hb3⟩
          have D3 := hidP (D2.out.trans (hb3.mono D2.out.size))
          clear hb3 HB
          go_wp2_with fail
          go_ret
          exact ⟨ret_bool HN.out.symm, H0.out.trans (D3.out.mono H0.out.size)⟩
      · obtain ⟨f, hf, hfi⟩ := HFC.out.2 hneg
        obtain ⟨pv, hpv, hpf⟩ := T2.out _ f hf
        obtain ⟨na, nn, hnd⟩ := C2.out.node
        have ha3 : c.at_ < 3 := by
          by_cases h : c.at_ < 3
          · exact h
          · rw [List.getElem?_eq_none (by simp; omega)] at hpv
            cases hpv
        have tp : w2.cell? ⟨w.heap.size + 1, c.at_, none⟩ = some pv := by
          rcases hat : c.at_ with _ | _ | _ | n
          · rw [hat] at hpv; simp at hpv; rw [← hpv]; exact q0
          · rw [hat] at hpv; simp at hpv; rw [← hpv]; exact q1
          · rw [hat] at hpv; simp at hpv; rw [← hpv]; exact q2
          · omega
        have HP := hidP (fun w' (h : Below w2.heap.size w2 w') => nodePasses_any c.node c.alpha na nn pv f w' (hnd.below h) (hpf.below h) hs3)
        have HA := hidP (fun (hp : passes c.alpha f = true) w' (h : Below w2.heap.size w2 w') => agrees_any (.bool c.neg) (.int .i64 (c.at_ : Int)) (.pointer (some ⟨c.node, 0, none⟩)) p0 p1 p2 pv c.tests ta tc T f w' (C2.out.tests.below h) (T2.out.below h) (hpf.below h) hs1 (hfi hp))
        rw [hneg] at HA d0
        have HOK := hidP (okC_pos hneg hf)
        have R2 := hidP (Below.refl w2.heap.size w2)
        have y0 : (0 : Int) ≤ (c.at_ : Int) := by omega
        have y1 : (c.at_ : Int) < 3 := by omega
        clear hneg hf hfi hpv hpf hnd
        cases hm : passes c.alpha f
        · have HN := hidP (HNO.out (by rw [HOK.out, hm]; rfl))
          rw [hm] at HP
          clear hm HA
          go_wp2_with fail
          refine wp_region_noPanic ?_
          refine wp_region_held_drew (S := (fun w' => w'.cell? ⟨wr.heap.size, 0, none⟩ = some (.bool false) ∧ w'.cell? ⟨wr.heap.size, 1, none⟩ = some (.int .i64 (c.at_ : Int)) ∧ w'.cell? ⟨wr.heap.size, 2, none⟩ = some (.pointer (some ⟨c.node, 0, none⟩)) ∧ w'.cell? ⟨wr.heap.size, 3, none⟩ = some (.slice ta c.tests.length tc) ∧ w'.cell? ⟨w.heap.size + 1, c.at_, none⟩ = some pv ∧ w'.cell? ⟨w.heap.size + 1, 0, none⟩ = some p0 ∧ w'.cell? ⟨w.heap.size + 1, 1, none⟩ = some p1 ∧ w'.cell? ⟨w.heap.size + 1, 2, none⟩ = some p2 ∧ w2.heap.size ≤ w'.heap.size ∧ Below w2.heap.size w2 w')) (by kernel_rfl) ?_ (fun hHeld => ?_)
          · (try dsimp only)
            (go_split_ands; refine ⟨?_, ?_, ?_, ?_, ?_, ?_, ?_, ?_, ?_, ?_⟩ <;> first | (simp [*]; done) | exact R2.out.drew | exact cell_below hb' (by assumption) | exact Below.trans (by assumption) (Below.mono hb' (by omega)) | omega)
          refine tkY 0 hHeld (by rfl) (by kernel_rfl) (by kernel_rfl) (by kernel_rfl) (by rfl) (by intro w hSw; (try dsimp only at hSw); go_simp; try with_reducible rfl) ?_
          (try simp only [pA, pZ, pS])
          refine tkY 1 hHeld (by rfl) (by kernel_rfl) (by kernel_rfl) (by kernel_rfl) (by rfl) (by intro w hSw; (try dsimp only at hSw); go_simp; try with_reducible rfl) ?_
          (try simp only [pA, pZ, pS])
          refine tkY 2 hHeld (by rfl) (by kernel_rfl) (by kernel_rfl) (by kernel_rfl) (by rfl) (by intro w hSw; (try dsimp only at hSw); go_simp; try with_reducible rfl) ?_
          (try simp only [pA, pZ, pS])
          refine tkY 3 hHeld (by rfl) (by kernel_rfl) (by kernel_rfl) (by kernel_rfl) (by rfl) (by intro w hSw; (try dsimp only at hSw); go_simp; try with_reducible rfl) ?_
          (try simp only [pA, pZ, pS])
          refine tkY 4 hHeld (by rfl) (by kernel_rfl) (by kernel_rfl) (by kernel_rfl) (by rfl) (by intro w hSw; (try dsimp only at hSw); go_simp; try with_reducible rfl) ?_
          (try simp only [pA, pZ, pS])
          refine tkY 5 hHeld (by rfl) (by kernel_rfl) (by kernel_rfl) (by kernel_rfl) (by rfl) (by intro w hSw; (try dsimp only at hSw); go_simp; try with_reducible rfl) ?_
          (try simp only [pA, pZ, pS])
          refine tkY 6 hHeld (by rfl) (by kernel_rfl) (by kernel_rfl) (by kernel_rfl) (by rfl) (by intro w hSw; (try dsimp only at hSw); go_simp; try with_reducible rfl) ?_
          (try simp only [pA, pZ, pS])
          refine tkY 7 hHeld (by rfl) (by kernel_rfl) (by kernel_rfl) (by kernel_rfl) (by rfl) (by intro w hSw; (try dsimp only at hSw); go_simp; try with_reducible rfl) ?_
          (try simp only [pA, pZ, pS])
          refine tkY 8 hHeld (by rfl) (by kernel_rfl) (by kernel_rfl) (by kernel_rfl) (by rfl) (by intro w hSw; (try dsimp only at hSw); go_simp; try with_reducible rfl) ?_
          (try simp only [pA, pZ, pS])
          refine tkY 9 hHeld (by rfl) (by kernel_rfl) (by kernel_rfl) (by kernel_rfl) (by rfl) (by intro w hSw; (try dsimp only at hSw); go_simp; try with_reducible rfl) ?_
          (try simp only [pA, pZ, pS])
          refine wpAnyH_ready (rs := [10]) (by kernel_rfl) (by simp) ?_
          refine AllReadyH.cons (o := ?o1) ?ho1 (fun K hK => ?step1) AllReadyH.nil
          case ho1 => (simp only [List.getElem?_toArray, List.getElem?_cons_succ, List.getElem?_cons_zero]; rfl)
          go_simp
          (go_at_call 107; refine (HP.out _ (by first | exact R2.out.drew | exact hHeld.2.2.2.2.2.2.2.2.2)).mono ?_; rintro e w' ⟨rfl, hb'⟩; have hsz' := hb'.size)
          (try go_wp2_with fail)
          refine hK.out _ _ ?hS1 (fun hHeld' => ?rest1)
          case hS1 => ((try dsimp only); (go_split_ands; refine ⟨?_, ?_, ?_, ?_, ?_, ?_, ?_, ?_, ?_, ?_⟩ <;> first | (simp [*]; done) | exact R2.out.drew | exact cell_below hb' (by assumption) | exact Below.trans (by assumption) (Below.mono hb' (by omega)) | omega))
          clear hK K
          (first | simp only [pA, pZ, pS] | simp only [pN] | skip)
          clear hHeld
          have hHeld := hHeld'
          clear hHeld'
          refine tkY 11 hHeld (by rfl) (by kernel_rfl) (by kernel_rfl) (by kernel_rfl) (by rfl) (by intro w hSw; (try dsimp only at hSw); go_simp; try with_reducible rfl) ?_
          (try simp only [pA, pZ, pS])
          refine tkY 12 hHeld (by rfl) (by kernel_rfl) (by kernel_rfl) (by kernel_rfl) (by rfl) (by intro w hSw; (try dsimp only at hSw); go_simp; try with_reducible rfl) ?_
          refine tkN 13 hHeld (by rfl) (by kernel_rfl) (by kernel_rfl) (by kernel_rfl) (by rfl) ?_
          refine tkN 14 hHeld (by rfl) (by kernel_rfl) (by kernel_rfl) (by kernel_rfl) (by rfl) ?_
          refine tkN 15 hHeld (by rfl) (by kernel_rfl) (by kernel_rfl) (by kernel_rfl) (by rfl) ?_
          (try simp only [pA, pZ, pS])
          refine tkN 16 hHeld (by rfl) (by kernel_rfl) (by kernel_rfl) (by kernel_rfl) (by rfl) ?_
          refine tkN 17 hHeld (by rfl) (by kernel_rfl) (by kernel_rfl) (by kernel_rfl) (by rfl) ?_
          refine tkN 18 hHeld (by rfl) (by kernel_rfl) (by kernel_rfl) (by kernel_rfl) (by rfl) ?_
          refine tkN 19 hHeld (by rfl) (by kernel_rfl) (by kernel_rfl) (by kernel_rfl) (by rfl) ?_
          (try simp only [pA, pZ, pS])
          refine tkN 20 hHeld (by rfl) (by kernel_rfl) (by kernel_rfl) (by kernel_rfl) (by rfl) ?_
          (try simp only [pA, pZ, pS])
          refine tkY 21 hHeld (by rfl) (by kernel_rfl) (by kernel_rfl) (by kernel_rfl) (by rfl) (by intro w hSw; (try dsimp only at hSw); go_simp; try with_reducible rfl) ?_
          (try simp only [pA, pZ, pS])
          refine tkY 22 hHeld (by rfl) (by kernel_rfl) (by kernel_rfl) (by kernel_rfl) (by rfl) (by intro w hSw; (try dsimp only at hSw); go_simp; try with_reducible rfl) ?_
          (try simp only [pA, pZ, pS])
          refine wpAnyH_done (by kernel_rfl) ?_ _
          refine NoPanic.normal ?_
          have hh := hHeld
          clear hHeld
          have D9 := hidP hh.2.2.2.2.2.2.2.2.2
          clear hh
          go_wp2_with fail
          go_ret
          exact ⟨ret_bool HN.out.symm, H0.out.trans ((D2.out.trans (D9.out.mono D2.out.size)).mono H0.out.size)⟩
        · replace HA := hidP (HA.out hm)
          cases hm2 : c.tests.all (jHolds T f)
          · have HN := hidP (HNO.out (by rw [HOK.out, hm, hm2]; rfl))
            rw [hm] at HP
            rw [hm2] at HA
            clear hm hm2
            go_wp2_with fail
            refine wp_region_noPanic ?_
            refine wp_region_held_drew (S := (fun w' => w'.cell? ⟨wr.heap.size, 0, none⟩ = some (.bool false) ∧ w'.cell? ⟨wr.heap.size, 1, none⟩ = some (.int .i64 (c.at_ : Int)) ∧ w'.cell? ⟨wr.heap.size, 2, none⟩ = some (.pointer (some ⟨c.node, 0, none⟩)) ∧ w'.cell? ⟨wr.heap.size, 3, none⟩ = some (.slice ta c.tests.length tc) ∧ w'.cell? ⟨w.heap.size + 1, c.at_, none⟩ = some pv ∧ w'.cell? ⟨w.heap.size + 1, 0, none⟩ = some p0 ∧ w'.cell? ⟨w.heap.size + 1, 1, none⟩ = some p1 ∧ w'.cell? ⟨w.heap.size + 1, 2, none⟩ = some p2 ∧ w2.heap.size ≤ w'.heap.size ∧ Below w2.heap.size w2 w')) (by kernel_rfl) ?_ (fun hHeld => ?_)
            · (try dsimp only)
              (go_split_ands; refine ⟨?_, ?_, ?_, ?_, ?_, ?_, ?_, ?_, ?_, ?_⟩ <;> first | (simp [*]; done) | exact R2.out.drew | exact cell_below hb' (by assumption) | exact Below.trans (by assumption) (Below.mono hb' (by omega)) | omega)
            refine tkY 0 hHeld (by rfl) (by kernel_rfl) (by kernel_rfl) (by kernel_rfl) (by rfl) (by intro w hSw; (try dsimp only at hSw); go_simp; try with_reducible rfl) ?_
            (try simp only [pA, pZ, pS])
            refine tkY 1 hHeld (by rfl) (by kernel_rfl) (by kernel_rfl) (by kernel_rfl) (by rfl) (by intro w hSw; (try dsimp only at hSw); go_simp; try with_reducible rfl) ?_
            (try simp only [pA, pZ, pS])
            refine tkY 2 hHeld (by rfl) (by kernel_rfl) (by kernel_rfl) (by kernel_rfl) (by rfl) (by intro w hSw; (try dsimp only at hSw); go_simp; try with_reducible rfl) ?_
            (try simp only [pA, pZ, pS])
            refine tkY 3 hHeld (by rfl) (by kernel_rfl) (by kernel_rfl) (by kernel_rfl) (by rfl) (by intro w hSw; (try dsimp only at hSw); go_simp; try with_reducible rfl) ?_
            (try simp only [pA, pZ, pS])
            refine tkY 4 hHeld (by rfl) (by kernel_rfl) (by kernel_rfl) (by kernel_rfl) (by rfl) (by intro w hSw; (try dsimp only at hSw); go_simp; try with_reducible rfl) ?_
            (try simp only [pA, pZ, pS])
            refine tkY 5 hHeld (by rfl) (by kernel_rfl) (by kernel_rfl) (by kernel_rfl) (by rfl) (by intro w hSw; (try dsimp only at hSw); go_simp; try with_reducible rfl) ?_
            (try simp only [pA, pZ, pS])
            refine tkY 6 hHeld (by rfl) (by kernel_rfl) (by kernel_rfl) (by kernel_rfl) (by rfl) (by intro w hSw; (try dsimp only at hSw); go_simp; try with_reducible rfl) ?_
            (try simp only [pA, pZ, pS])
            refine tkY 7 hHeld (by rfl) (by kernel_rfl) (by kernel_rfl) (by kernel_rfl) (by rfl) (by intro w hSw; (try dsimp only at hSw); go_simp; try with_reducible rfl) ?_
            (try simp only [pA, pZ, pS])
            refine tkY 8 hHeld (by rfl) (by kernel_rfl) (by kernel_rfl) (by kernel_rfl) (by rfl) (by intro w hSw; (try dsimp only at hSw); go_simp; try with_reducible rfl) ?_
            (try simp only [pA, pZ, pS])
            refine tkY 9 hHeld (by rfl) (by kernel_rfl) (by kernel_rfl) (by kernel_rfl) (by rfl) (by intro w hSw; (try dsimp only at hSw); go_simp; try with_reducible rfl) ?_
            (try simp only [pA, pZ, pS])
            refine wpAnyH_ready (rs := [10]) (by kernel_rfl) (by simp) ?_
            refine AllReadyH.cons (o := ?o2) ?ho2 (fun K hK => ?step2) AllReadyH.nil
            case ho2 => (simp only [List.getElem?_toArray, List.getElem?_cons_succ, List.getElem?_cons_zero]; rfl)
            go_simp
            (go_at_call 107; refine (HP.out _ (by first | exact R2.out.drew | exact hHeld.2.2.2.2.2.2.2.2.2)).mono ?_; rintro e w' ⟨rfl, hb'⟩; have hsz' := hb'.size)
            (try go_wp2_with fail)
            refine hK.out _ _ ?hS2 (fun hHeld' => ?rest2)
            case hS2 => ((try dsimp only); (go_split_ands; refine ⟨?_, ?_, ?_, ?_, ?_, ?_, ?_, ?_, ?_, ?_⟩ <;> first | (simp [*]; done) | exact R2.out.drew | exact cell_below hb' (by assumption) | exact Below.trans (by assumption) (Below.mono hb' (by omega)) | omega))
            clear hK K
            (first | simp only [pA, pZ, pS] | simp only [pN] | skip)
            clear hHeld
            have hHeld := hHeld'
            clear hHeld'
            refine tkY 11 hHeld (by rfl) (by kernel_rfl) (by kernel_rfl) (by kernel_rfl) (by rfl) (by intro w hSw; (try dsimp only at hSw); go_simp; try with_reducible rfl) ?_
            (try simp only [pA, pZ, pS])
            refine tkY 12 hHeld (by rfl) (by kernel_rfl) (by kernel_rfl) (by kernel_rfl) (by rfl) (by intro w hSw; (try dsimp only at hSw); go_simp; try with_reducible rfl) ?_
            (try simp only [pA, pZ, pS])
            refine tkY 13 hHeld (by rfl) (by kernel_rfl) (by kernel_rfl) (by kernel_rfl) (by rfl) (by intro w hSw; (try dsimp only at hSw); go_simp; try with_reducible rfl) ?_
            (try simp only [pA, pZ, pS])
            refine tkY 14 hHeld (by rfl) (by kernel_rfl) (by kernel_rfl) (by kernel_rfl) (by rfl) (by intro w hSw; (try dsimp only at hSw); go_simp; try with_reducible rfl) ?_
            (try simp only [pA, pZ, pS])
            refine tkY 15 hHeld (by rfl) (by kernel_rfl) (by kernel_rfl) (by kernel_rfl) (by rfl) (by intro w hSw; (try dsimp only at hSw); go_simp; try with_reducible rfl) ?_
            (try simp only [pA, pZ, pS])
            refine tkY 16 hHeld (by rfl) (by kernel_rfl) (by kernel_rfl) (by kernel_rfl) (by rfl) (by intro w hSw; (try dsimp only at hSw); go_simp; try with_reducible rfl) ?_
            (try simp only [pA, pZ, pS])
            refine tkY 17 hHeld (by rfl) (by kernel_rfl) (by kernel_rfl) (by kernel_rfl) (by rfl) (by intro w hSw; (try dsimp only at hSw); go_simp; try with_reducible rfl) ?_
            (try simp only [pA, pZ, pS])
            refine tkY 18 hHeld (by rfl) (by kernel_rfl) (by kernel_rfl) (by kernel_rfl) (by rfl) (by intro w hSw; (try dsimp only at hSw); go_simp; try with_reducible rfl) ?_
            (try simp only [pA, pZ, pS])
            refine wpAnyH_ready (rs := [19]) (by kernel_rfl) (by simp) ?_
            refine AllReadyH.cons (o := ?o3) ?ho3 (fun K hK => ?step3) AllReadyH.nil
            case ho3 => (simp only [List.getElem?_toArray, List.getElem?_cons_succ, List.getElem?_cons_zero]; rfl)
            go_simp
            (go_at_call 96; refine (HA.out _ (by first | exact R2.out.drew | exact hHeld.2.2.2.2.2.2.2.2.2)).mono ?_; rintro e w' ⟨rfl, hb'⟩; have hsz' := hb'.size)
            (try go_wp2_with fail)
            refine hK.out _ _ ?hS3 (fun hHeld' => ?rest3)
            case hS3 => ((try dsimp only); (go_split_ands; refine ⟨?_, ?_, ?_, ?_, ?_, ?_, ?_, ?_, ?_, ?_⟩ <;> first | (simp [*]; done) | exact R2.out.drew | exact cell_below hb' (by assumption) | exact Below.trans (by assumption) (Below.mono hb' (by omega)) | omega))
            clear hK K
            (first | simp only [pA, pZ, pS] | simp only [pN] | skip)
            clear hHeld
            have hHeld := hHeld'
            clear hHeld'
            refine tkY 20 hHeld (by rfl) (by kernel_rfl) (by kernel_rfl) (by kernel_rfl) (by rfl) (by intro w hSw; (try dsimp only at hSw); go_simp; try with_reducible rfl) ?_
            (try simp only [pA, pZ, pS])
            refine tkY 21 hHeld (by rfl) (by kernel_rfl) (by kernel_rfl) (by kernel_rfl) (by rfl) (by intro w hSw; (try dsimp only at hSw); go_simp; try with_reducible rfl) ?_
            (try simp only [pA, pZ, pS])
            refine tkY 22 hHeld (by rfl) (by kernel_rfl) (by kernel_rfl) (by kernel_rfl) (by rfl) (by intro w hSw; (try dsimp only at hSw); go_simp; try with_reducible rfl) ?_
            (try simp only [pA, pZ, pS])
            refine wpAnyH_done (by kernel_rfl) ?_ _
            refine NoPanic.normal ?_
            have hh := hHeld
            clear hHeld
            have D9 := hidP hh.2.2.2.2.2.2.2.2.2
            clear hh
            go_wp2_with fail
            go_ret
            exact ⟨ret_bool HN.out.symm, H0.out.trans ((D2.out.trans (D9.out.mono D2.out.size)).mono H0.out.size)⟩
          · have HN := hidP (HNXT.out (by rw [HOK.out, hm, hm2]; rfl))
            rw [hm] at HP
            rw [hm2] at HA
            clear hm hm2
            go_wp2_with fail
            refine wp_region_noPanic ?_
            refine wp_region_held_drew (S := (fun w' => w'.cell? ⟨wr.heap.size, 0, none⟩ = some (.bool false) ∧ w'.cell? ⟨wr.heap.size, 1, none⟩ = some (.int .i64 (c.at_ : Int)) ∧ w'.cell? ⟨wr.heap.size, 2, none⟩ = some (.pointer (some ⟨c.node, 0, none⟩)) ∧ w'.cell? ⟨wr.heap.size, 3, none⟩ = some (.slice ta c.tests.length tc) ∧ w'.cell? ⟨w.heap.size + 1, c.at_, none⟩ = some pv ∧ w'.cell? ⟨w.heap.size + 1, 0, none⟩ = some p0 ∧ w'.cell? ⟨w.heap.size + 1, 1, none⟩ = some p1 ∧ w'.cell? ⟨w.heap.size + 1, 2, none⟩ = some p2 ∧ w2.heap.size ≤ w'.heap.size ∧ Below w2.heap.size w2 w')) (by kernel_rfl) ?_ (fun hHeld => ?_)
            · (try dsimp only)
              (go_split_ands; refine ⟨?_, ?_, ?_, ?_, ?_, ?_, ?_, ?_, ?_, ?_⟩ <;> first | (simp [*]; done) | exact R2.out.drew | exact cell_below hb' (by assumption) | exact Below.trans (by assumption) (Below.mono hb' (by omega)) | omega)
            refine tkY 0 hHeld (by rfl) (by kernel_rfl) (by kernel_rfl) (by kernel_rfl) (by rfl) (by intro w hSw; (try dsimp only at hSw); go_simp; try with_reducible rfl) ?_
            (try simp only [pA, pZ, pS])
            refine tkY 1 hHeld (by rfl) (by kernel_rfl) (by kernel_rfl) (by kernel_rfl) (by rfl) (by intro w hSw; (try dsimp only at hSw); go_simp; try with_reducible rfl) ?_
            (try simp only [pA, pZ, pS])
            refine tkY 2 hHeld (by rfl) (by kernel_rfl) (by kernel_rfl) (by kernel_rfl) (by rfl) (by intro w hSw; (try dsimp only at hSw); go_simp; try with_reducible rfl) ?_
            (try simp only [pA, pZ, pS])
            refine tkY 3 hHeld (by rfl) (by kernel_rfl) (by kernel_rfl) (by kernel_rfl) (by rfl) (by intro w hSw; (try dsimp only at hSw); go_simp; try with_reducible rfl) ?_
            (try simp only [pA, pZ, pS])
            refine tkY 4 hHeld (by rfl) (by kernel_rfl) (by kernel_rfl) (by kernel_rfl) (by rfl) (by intro w hSw; (try dsimp only at hSw); go_simp; try with_reducible rfl) ?_
            (try simp only [pA, pZ, pS])
            refine tkY 5 hHeld (by rfl) (by kernel_rfl) (by kernel_rfl) (by kernel_rfl) (by rfl) (by intro w hSw; (try dsimp only at hSw); go_simp; try with_reducible rfl) ?_
            (try simp only [pA, pZ, pS])
            refine tkY 6 hHeld (by rfl) (by kernel_rfl) (by kernel_rfl) (by kernel_rfl) (by rfl) (by intro w hSw; (try dsimp only at hSw); go_simp; try with_reducible rfl) ?_
            (try simp only [pA, pZ, pS])
            refine tkY 7 hHeld (by rfl) (by kernel_rfl) (by kernel_rfl) (by kernel_rfl) (by rfl) (by intro w hSw; (try dsimp only at hSw); go_simp; try with_reducible rfl) ?_
            (try simp only [pA, pZ, pS])
            refine tkY 8 hHeld (by rfl) (by kernel_rfl) (by kernel_rfl) (by kernel_rfl) (by rfl) (by intro w hSw; (try dsimp only at hSw); go_simp; try with_reducible rfl) ?_
            (try simp only [pA, pZ, pS])
            refine tkY 9 hHeld (by rfl) (by kernel_rfl) (by kernel_rfl) (by kernel_rfl) (by rfl) (by intro w hSw; (try dsimp only at hSw); go_simp; try with_reducible rfl) ?_
            (try simp only [pA, pZ, pS])
            refine wpAnyH_ready (rs := [10]) (by kernel_rfl) (by simp) ?_
            refine AllReadyH.cons (o := ?o4) ?ho4 (fun K hK => ?step4) AllReadyH.nil
            case ho4 => (simp only [List.getElem?_toArray, List.getElem?_cons_succ, List.getElem?_cons_zero]; rfl)
            go_simp
            (go_at_call 107; refine (HP.out _ (by first | exact R2.out.drew | exact hHeld.2.2.2.2.2.2.2.2.2)).mono ?_; rintro e w' ⟨rfl, hb'⟩; have hsz' := hb'.size)
            (try go_wp2_with fail)
            refine hK.out _ _ ?hS4 (fun hHeld' => ?rest4)
            case hS4 => ((try dsimp only); (go_split_ands; refine ⟨?_, ?_, ?_, ?_, ?_, ?_, ?_, ?_, ?_, ?_⟩ <;> first | (simp [*]; done) | exact R2.out.drew | exact cell_below hb' (by assumption) | exact Below.trans (by assumption) (Below.mono hb' (by omega)) | omega))
            clear hK K
            (first | simp only [pA, pZ, pS] | simp only [pN] | skip)
            clear hHeld
            have hHeld := hHeld'
            clear hHeld'
            refine tkY 11 hHeld (by rfl) (by kernel_rfl) (by kernel_rfl) (by kernel_rfl) (by rfl) (by intro w hSw; (try dsimp only at hSw); go_simp; try with_reducible rfl) ?_
            (try simp only [pA, pZ, pS])
            refine tkY 12 hHeld (by rfl) (by kernel_rfl) (by kernel_rfl) (by kernel_rfl) (by rfl) (by intro w hSw; (try dsimp only at hSw); go_simp; try with_reducible rfl) ?_
            (try simp only [pA, pZ, pS])
            refine tkY 13 hHeld (by rfl) (by kernel_rfl) (by kernel_rfl) (by kernel_rfl) (by rfl) (by intro w hSw; (try dsimp only at hSw); go_simp; try with_reducible rfl) ?_
            (try simp only [pA, pZ, pS])
            refine tkY 14 hHeld (by rfl) (by kernel_rfl) (by kernel_rfl) (by kernel_rfl) (by rfl) (by intro w hSw; (try dsimp only at hSw); go_simp; try with_reducible rfl) ?_
            (try simp only [pA, pZ, pS])
            refine tkY 15 hHeld (by rfl) (by kernel_rfl) (by kernel_rfl) (by kernel_rfl) (by rfl) (by intro w hSw; (try dsimp only at hSw); go_simp; try with_reducible rfl) ?_
            (try simp only [pA, pZ, pS])
            refine tkY 16 hHeld (by rfl) (by kernel_rfl) (by kernel_rfl) (by kernel_rfl) (by rfl) (by intro w hSw; (try dsimp only at hSw); go_simp; try with_reducible rfl) ?_
            (try simp only [pA, pZ, pS])
            refine tkY 17 hHeld (by rfl) (by kernel_rfl) (by kernel_rfl) (by kernel_rfl) (by rfl) (by intro w hSw; (try dsimp only at hSw); go_simp; try with_reducible rfl) ?_
            (try simp only [pA, pZ, pS])
            refine tkY 18 hHeld (by rfl) (by kernel_rfl) (by kernel_rfl) (by kernel_rfl) (by rfl) (by intro w hSw; (try dsimp only at hSw); go_simp; try with_reducible rfl) ?_
            (try simp only [pA, pZ, pS])
            refine wpAnyH_ready (rs := [19]) (by kernel_rfl) (by simp) ?_
            refine AllReadyH.cons (o := ?o5) ?ho5 (fun K hK => ?step5) AllReadyH.nil
            case ho5 => (simp only [List.getElem?_toArray, List.getElem?_cons_succ, List.getElem?_cons_zero]; rfl)
            go_simp
            (go_at_call 96; refine (HA.out _ (by first | exact R2.out.drew | exact hHeld.2.2.2.2.2.2.2.2.2)).mono ?_; rintro e w' ⟨rfl, hb'⟩; have hsz' := hb'.size)
            (try go_wp2_with fail)
            refine hK.out _ _ ?hS5 (fun hHeld' => ?rest5)
            case hS5 => ((try dsimp only); (go_split_ands; refine ⟨?_, ?_, ?_, ?_, ?_, ?_, ?_, ?_, ?_, ?_⟩ <;> first | (simp [*]; done) | exact R2.out.drew | exact cell_below hb' (by assumption) | exact Below.trans (by assumption) (Below.mono hb' (by omega)) | omega))
            clear hK K
            (first | simp only [pA, pZ, pS] | simp only [pN] | skip)
            clear hHeld
            have hHeld := hHeld'
            clear hHeld'
            refine tkY 20 hHeld (by rfl) (by kernel_rfl) (by kernel_rfl) (by kernel_rfl) (by rfl) (by intro w hSw; (try dsimp only at hSw); go_simp; try with_reducible rfl) ?_
            (try simp only [pA, pZ, pS])
            refine tkY 21 hHeld (by rfl) (by kernel_rfl) (by kernel_rfl) (by kernel_rfl) (by rfl) (by intro w hSw; (try dsimp only at hSw); go_simp; try with_reducible rfl) ?_
            (try simp only [pA, pZ, pS])
            refine tkY 22 hHeld (by rfl) (by kernel_rfl) (by kernel_rfl) (by kernel_rfl) (by rfl) (by intro w hSw; (try dsimp only at hSw); go_simp; try with_reducible rfl) ?_
            (try simp only [pA, pZ, pS])
            refine wpAnyH_done (by kernel_rfl) ?_ _
            refine NoPanic.normal ?_
            have hh := hHeld
            clear hHeld
            have D9 := hidP hh.2.2.2.2.2.2.2.2.2
            clear hh
            go_wp2_with fail
            go_roundw
            case rel => exact ⟨k + 1, by go_num, by omega, HN.out, D2.out.trans (D9.out.mono D2.out.size)⟩
            case measure => (simp [intOf]; omega)
    · have hke : k = cs.length := by omega
      subst hke
      have HN := hidP (show cs.all (okC T) = true by rw [List.all_eq_true]; have := HG.out; rwa [List.take_length] at this)
      have hy : ¬ (cs.length : Int) < (cs.length : Int) := by omega
      go_wp2_with fail
      go_ret
      exact ⟨ret_bool HN.out.symm, HBW.out⟩
end Go.Proofs.YtognpkdgphebeaaGreat
