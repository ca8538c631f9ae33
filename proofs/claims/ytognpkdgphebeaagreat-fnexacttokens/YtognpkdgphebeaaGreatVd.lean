/-
  OUR OWN TEXT. LawTk, RowTk, one behind the other.
-/
import Derived.Test.YtognpkdgphebeaaGreatSv4m
import Derived.Test.YtognpkdgphebeaaGreatVc
import Derived.Test.YtognpkdgphebeaaGreatJq
import Derived.Test.YtognpkdgphebeaaGreatUj
import Derived.WalkKit
import Derived.ProofKit
import Derived.OpenShut
import Derived.ShutString
import Derived.ChangeOld
import Derived.Below
namespace Go.Proofs.YtognpkdgphebeaaGreat
open Go.RowKit
attribute [local go_sem ↓] Go.wp_at_zero Go.wp_at_succ

set_option maxRecDepth 100000 in
set_option maxHeartbeats 6400000 in
theorem law_tk (r : Ru) (fs : List F) (a_p : Option Addr) (c_p : Nat) (a_e : Option Addr) (c_e : Nat) (a_a : Option Addr) (c_a : Nat) (fa : Option Addr) (fc : Nat) (w : World) (h_p : PtsAt none w a_p r.pats) (h_e : ExsAt none w a_e r.exprs) (h_a : AcsAt none w a_a r.acts) (hle0 : r.le maxLen) (ho : OpsOk r.exprs) (hvo : ∀ p ∈ r.pats, ∀ t ∈ p.terms, VOk t.val) (h_f : FactsAt w fa fs) (hfa : Arg fs) :
    Calls Tryz.prog 5 #[.agg #[.string r.name, .int .i64 r.sal, .slice a_p r.pats.length c_p, .slice a_e r.exprs.length c_e, .slice a_a r.acts.length c_a], .slice fa fs.length fc] w fun e w' => e = .returned (.bool true) ∧ Below w.heap.size w w' := by
  have HP := hidP h_p
  have HE := hidP h_e
  have HA := hidP h_a
  have HLE := hidP hle0
  have HOP := hidP ho
  have HVO := hidP hvo
  have HF := hidP h_f
  have HFA := hidP hfa
  have HRD := hidP (fun f hf => (hfa.2 f hf).2.2 : ∀ f ∈ fs, Read f)
  clear h_p h_e h_a hle0 ho hvo h_f hfa
  go_enter Tryz.func5, Tryz.ntmps5
  go_upto_region 1 with fail
  refine lift_alloc ?_
  intro w0 hW0 hq0
  have BX0 := hidP hq0
  have B0 := hidP hW0
  obtain ⟨b0, b1, b2, b3, b4⟩ := cells5P hq0
  clear hW0 hq0
  go_wp2_with fail
  refine (szRule_any r a_p c_p a_e c_e a_a c_a 1048576 w0 (HP.out.below B0.out) (HE.out.below B0.out) (HA.out.below B0.out) HLE.out (by omega) (by omega)).mono ?_
  rintro e w1 ⟨⟨r1, rfl, hr1⟩, hb1⟩
  have B1 := hidP (B0.out.trans (hb1.mono B0.out.size))
  have BX1 := hidP ((hb1.block _ (lt_of_block' BX0.out)).trans BX0.out)
  clear hb1 b0 b1 b2 b3 b4 B0 BX0
  by_cases hn1 : r1 < 0
  · go_wp2_with fail
    go_ret
    exact ⟨rfl, B1.out⟩
  have hsz1 : r.sz ≤ 1048576 := by rcases hr1 with h | ⟨_, h⟩ <;> omega
  have hr1a : 0 ≤ r1 := by omega
  have hr1b : r1 ≤ 1048576 := by rcases hr1 with h | ⟨_, h⟩ <;> omega
  have HLR := hidP (Ru.le_sz _ _ hsz1)
  clear hr1 hsz1
  go_wp2_with fail
  refine (szFactS_any fa fc fs r1 w1 (HF.out.below B1.out) HFA.out.1 HFA.out.sizes hr1a hr1b).mono ?_
  rintro e w2 ⟨⟨r2, rfl, hr2⟩, hb2⟩
  have B2 := hidP (B1.out.trans (hb2.mono B1.out.size))
  have BX2 := hidP ((hb2.block _ (lt_of_block' BX1.out)).trans BX1.out)
  clear hb2 B1 BX1
  by_cases hn2 : r2 < 0
  · go_wp2_with fail
    go_ret
    exact ⟨rfl, B2.out⟩
  have hsz2 : szFs fs ≤ 1048576 := by rcases hr2 with h | ⟨_, h⟩ <;> omega
  have HFS := hidP (fun f hf => ((szFs_le hsz2).2 f hf).2.1 : ∀ f ∈ fs, f.slots.length ≤ 1048576)
  have hfl : fs.length ≤ 1048576 := (szFs_le hsz2).1
  have HSD := hidP (sized_of hsz2)
  have HL1 := hidP (show ListLe Ru.le 1048576 [r] from ⟨by simp, fun x hx => by rw [List.mem_singleton.1 hx]; exact HLR.out⟩)
  clear hr2 hsz2 hr1a hr1b
  obtain ⟨b0, b1, b2, b3, b4⟩ := cells5P BX2.out
  go_wp2_with fail
  refine (toRule_any r a_p c_p a_e c_e a_a c_a w2 (HP.out.below B2.out) (HE.out.below B2.out) (HA.out.below B2.out) HLR.out).mono ?_
  rintro e w3 ⟨⟨a_p3, c_p3, a_e3, c_e3, a_a3, c_a3, rfl, p3, e3, a3, hc3⟩, hb3⟩
  have B3 := hidP (B2.out.trans (hb3.mono B2.out.size))
  have BX3 := hidP ((hb3.block _ (lt_of_block' BX2.out)).trans BX2.out)
  have P3 := hidP p3
  have E3 := hidP e3
  have A3 := hidP a3
  clear hb3 p3 e3 a3 b0 b1 b2 b3 b4 B2 BX2
  go_wp2_with fail
  refine (toFactS_any fa fc fs w3 (HF.out.below B3.out) hfl HFS.out).mono ?_
  rintro e w4 ⟨⟨rfl, gs4, ho4⟩, hb4⟩
  have B4 := hidP (B3.out.trans (hb4.mono B3.out.size))
  have BX4 := hidP ((hb4.block _ (lt_of_block' BX3.out)).trans BX3.out)
  have P4 := hidP (P3.out.below hb4)
  have E4 := hidP (E3.out.below hb4)
  have A4 := hidP (A3.out.below hb4)
  have F4 := hidP ho4.at
  clear hb4 ho4 P3 E3 A3 B3 BX3
  go_wp2_with fail
  obtain ⟨w5, hw5⟩ : ∃ v, v = w4 := ⟨w4, rfl⟩
  rw [← hw5]
  have hb5 : Below w4.heap.size w4 w5 := by rw [hw5]; exact Below.refl _ _
  have B5 := hidP (B4.out.trans (hb5.mono B4.out.size))
  have BX5 := hidP ((hb5.block _ (lt_of_block' BX4.out)).trans BX4.out)
  have P5 := hidP (P4.out.below hb5)
  have E5 := hidP (E4.out.below hb5)
  have A5 := hidP (A4.out.below hb5)
  have F5 := hidP (F4.out.below hb5)
  clear hb5 P4 E4 A4 F4 B4 BX4 hw5
  refine (sTokens_any r fs a_p3 c_p3 a_e3 c_e3 a_a3 c_a3 _ _ w5 P5.out E5.out A5.out hc3 HL1.out HOP.out F5.out hfl HSD.out).mono ?_
  rintro e w6 ⟨rfl, hb6⟩
  have B6 := hidP (B5.out.trans (hb6.mono B5.out.size))
  have BX6 := hidP ((hb6.block _ (lt_of_block' BX5.out)).trans BX5.out)
  obtain ⟨b0, b1, b2, b3, b4⟩ := cells5P BX6.out
  clear hb6 P5 E5 A5 F5 B5 BX5 hc3
  go_wp2_with fail
  refine (toRule_any r a_p c_p a_e c_e a_a c_a w6 (HP.out.below B6.out) (HE.out.below B6.out) (HA.out.below B6.out) HLR.out).mono ?_
  rintro e w7 ⟨⟨a_p7, c_p7, a_e7, c_e7, a_a7, c_a7, rfl, p7, e7, a7, hc7⟩, hb7⟩
  have B7 := hidP (B6.out.trans (hb7.mono B6.out.size))
  have BX7 := hidP ((hb7.block _ (lt_of_block' BX6.out)).trans BX6.out)
  have P7 := hidP p7
  have E7 := hidP e7
  have A7 := hidP a7
  clear hb7 p7 e7 a7 b0 b1 b2 b3 b4 B6 BX6
  go_upto_region 10 with fail
  refine lift_alloc ?_
  intro w8 hW8 hq8
  obtain ⟨xb, hxb⟩ : ∃ b, b = w7.heap.size := ⟨_, rfl⟩
  rw [← hxb] at hq8 ⊢
  have BY8 := hidP hq8
  have B8 := hidP (B7.out.trans (hW8.mono B7.out.size))
  have BX8 := hidP ((hW8.block _ (lt_of_block' BX7.out)).trans BX7.out)
  have P8 := hidP (P7.out.below hW8)
  have E8 := hidP (E7.out.below hW8)
  have A8 := hidP (A7.out.below hW8)
  clear hW8 hq8 hxb P7 E7 A7 B7 BX7
  go_wp2_with fail
  refine (toFactS_any fa fc fs w8 (HF.out.below B8.out) hfl HFS.out).mono ?_
  rintro e w9 ⟨⟨rfl, gs9, ho9⟩, hb9⟩
  have B9 := hidP (B8.out.trans (hb9.mono B8.out.size))
  have BX9 := hidP ((hb9.block _ (lt_of_block' BX8.out)).trans BX8.out)
  have BY9 := hidP ((hb9.block _ (lt_of_block' BY8.out)).trans BY8.out)
  have P9 := hidP (P8.out.below hb9)
  have E9 := hidP (E8.out.below hb9)
  have A9 := hidP (A8.out.below hb9)
  have F9 := hidP ho9.at
  obtain ⟨fb, hfb⟩ : ∃ b, b = w8.heap.size := ⟨_, rfl⟩
  rw [← hfb] at F9 ⊢
  clear hb9 ho9 hfb P8 E8 A8 B8 BX8 BY8
  obtain ⟨w10, hw10⟩ : ∃ v, v = w9 := ⟨w9, rfl⟩
  rw [← hw10]
  have hb10 : Below w9.heap.size w9 w10 := by rw [hw10]; exact Below.refl _ _
  have B10 := hidP (B9.out.trans (hb10.mono B9.out.size))
  have BX10 := hidP ((hb10.block _ (lt_of_block' BX9.out)).trans BX9.out)
  have BY10 := hidP ((hb10.block _ (lt_of_block' BY9.out)).trans BY9.out)
  have P10 := hidP (P9.out.below hb10)
  have E10 := hidP (E9.out.below hb10)
  have A10 := hidP (A9.out.below hb10)
  have F10 := hidP (F9.out.below hb10)
  clear hb10 P9 E9 A9 F9 B9 BX9 BY9 hw10
  obtain ⟨b0, b1, b2, b3, b4⟩ := cells5P BY10.out
  go_wp2_with fail
  refine (iTokens_any r fs a_p7 c_p7 a_e7 c_e7 a_a7 c_a7 _ _ w10 P10.out E10.out A10.out hc7 HL1.out HOP.out HVO.out F10.out hfl HSD.out).mono ?_
  rintro e w11 ⟨rfl, hb11⟩
  have B11 := hidP (B10.out.trans (hb11.mono B10.out.size))
  have BX11 := hidP ((hb11.block _ (lt_of_block' BX10.out)).trans BX10.out)
  have BY11 := hidP ((hb11.block _ (lt_of_block' BY10.out)).trans BY10.out)
  have P11 := hidP (P10.out.below hb11)
  have E11 := hidP (E10.out.below hb11)
  have A11 := hidP (A10.out.below hb11)
  have F11 := hidP (F10.out.below hb11)
  clear hb11 P10 E10 A10 F10 B10 BX10 BY10 b0 b1 b2 b3 b4
  have hpp : (((tokM r fs : Nat) : Int) != ((tokM r fs : Nat) : Int)) = false := by simp
  go_wp2_with fail
  clear hpp
  obtain ⟨x0, x1, x2, x3, x4⟩ := cells5P BX11.out
  obtain ⟨y0, y1, y2, y3, y4⟩ := cells5P BY11.out
  have B11d := hidP (show Below w.heap.size w w11.drew from B11.out.drew)
  have D11 := hidP (show Below w11.heap.size w11 w11.drew from (Below.refl _ _).drew)
  go_region_held3 (fun w' => w'.cell? ⟨w.heap.size, 0, none⟩ = some (.string r.name) ∧ w'.cell? ⟨w.heap.size, 1, none⟩ = some (.int .i64 r.sal) ∧ w'.cell? ⟨w.heap.size, 2, none⟩ = some (.slice a_p r.pats.length c_p) ∧ w'.cell? ⟨w.heap.size, 3, none⟩ = some (.slice a_e r.exprs.length c_e) ∧ w'.cell? ⟨w.heap.size, 4, none⟩ = some (.slice a_a r.acts.length c_a) ∧ w'.cell? ⟨xb, 0, none⟩ = some (.string r.name) ∧ w'.cell? ⟨xb, 1, none⟩ = some (.int .i64 r.sal) ∧ w'.cell? ⟨xb, 2, none⟩ = some (.slice a_p7 r.pats.length c_p7) ∧ w'.cell? ⟨xb, 3, none⟩ = some (.slice a_e7 r.exprs.length c_e7) ∧ w'.cell? ⟨xb, 4, none⟩ = some (.slice a_a7 r.acts.length c_a7)) ((go_split_ands; refine ⟨?_, ?_, ?_, ?_, ?_, ?_, ?_, ?_, ?_, ?_⟩ <;> first | (simp [*]; done) | exact cell_below hb' (by assumption)))
    (first
     | (go_at_call 10; refine (toRule_any r a_p c_p a_e c_e a_a c_a _ (HP.out.below B11d.out) (HE.out.below B11d.out) (HA.out.below B11d.out) HLR.out).mono ?_; rintro e w12 ⟨⟨a_p12, c_p12, a_e12, c_e12, a_a12, c_a12, rfl, p12, e12, a12, _⟩, hb'⟩; have P12 := hidP p12; have E12 := hidP e12; have A12 := hidP a12; have D12 := hidP (D11.out.trans (hb'.mono D11.out.size)); clear p12 e12 a12)
     | (go_at_call 14; refine (eqRule_same r a_p7 a_p12 c_p7 c_p12 a_e7 a_e12 c_e7 c_e12 a_a7 a_a12 c_a7 c_a12 w12 (P11.out.below D12.out) P12.out (E11.out.below D12.out) E12.out (A11.out.below D12.out) A12.out HLR.out).mono ?_; rintro e w13 ⟨rfl, hb'⟩; have D13 := hidP (D12.out.trans (hb'.mono D12.out.size)))
     | fail)
  have B13 := hidP (B11.out.trans (D13.out.mono B11.out.size))
  have F13 := hidP (F11.out.below D13.out)
  clear x0 x1 x2 x3 x4 y0 y1 y2 y3 y4 P11 E11 A11 F11 B11 BX11 BY11 B11d D11 D12 D13 P12 E12 A12
  go_wp2_with fail
  refine (toFactS_any fa fc fs _ (HF.out.below B13.out) hfl HFS.out).mono ?_
  rintro e w14 ⟨⟨rfl, gs14, ho14⟩, hb14⟩
  have B14 := hidP (B13.out.trans (hb14.mono B13.out.size))
  have F14 := hidP (F13.out.below hb14)
  have G14 := hidP ho14.at
  clear hb14 ho14 B13 F13
  go_wp2_with fail
  refine (eqFactS_same _ _ _ _ fs w14 F14.out G14.out hfl HFS.out).mono ?_
  rintro e w15 ⟨rfl, hb15⟩
  have B15 := hidP (B14.out.trans (hb15.mono B14.out.size))
  clear hb15 B14 F14 G14
  go_wp2_with fail
  go_ret
  exact ⟨rfl, B15.out⟩
end Go.Proofs.YtognpkdgphebeaaGreat

namespace Go.Proofs.YtognpkdgphebeaaGreat
open Go.ChangeShapes Go.WideShapes Go.ChangeAt Go.RowKit Go.Joins
open Go.ChangeMaps (open_string shut_string)

set_option maxRecDepth 100000 in
theorem tk_lifted (os : Os) (started : os.Started) (H : Type) (enc : TypeId × Value → H) :
    ReturnsInHanded {} Tryz.checked os 5 .any (Rows.fnExactTokensSpec.pre6 enc Tryz.prog Tryz.f5 Rows.fnExactTokensRow.domain false) (Rows.fnExactTokensSpec.post enc Tryz.prog Tryz.f5 false true false false) := by
  refine returnsInHanded_of_change (C := Tryz.checked) ownK started (by kernel_rfl) Tryz.func5
    (ChangeSpec.witness6 (enc := enc) (C := Tryz.checked) false ⟨#[], #[.agg #[.string ⟨#[]⟩, .int .i64 0, .slice none 0 0, .slice none 0 0, .slice none 0 0], .slice none 0 0], []⟩ 8 (by kernel_rfl) (by kernel_rfl) (by kernel_rfl) (by kernel_rfl)) ?_
  intro W base args ds gs before hval0 hW hcnd _
  have hval : ∀ (j : Nat) t v, Tryz.f5.params[j]? = some t → args[j]? = some v → Value.okWide Tryz.prog W .any base t v := hval0
  have hW' := hW
  obtain ⟨p, q, hA0, hV, rfl, hfz, hnd⟩ := hW
  have hA : DataW.TrodAll enc Tryz.prog W 0 (fun _ => true) true Tryz.f5.params.toList args.toList ds p := hA0
  rw [Tryz.params5] at hA hval
  obtain ⟨v0, vs0, d0, ds0, p0, q0, hargs, rfl, rfl, h0, r0⟩ := trodAll_cons hA
  obtain ⟨v1, vs1, d1, ds1, p1, q1, hvs, rfl, rfl, h1, r1⟩ := trodAll_cons r0
  obtain ⟨rfl, rfl, rfl⟩ := trodAll_nil r1
  obtain rfl : args = #[v0, v1] := by cases args; simp_all
  obtain ⟨rfl, rfl⟩ := trodVars_none hV
  have k0 := h0
  have lt0 : ∀ x ∈ p0, x.block < W.heap.size := by obtain ⟨m, hm⟩ := k0; exact DataW.trod_lt m _ _ _ hm
  have k1 := h1
  have lt1 : ∀ x ∈ p1, x.block < W.heap.size := by obtain ⟨m, hm⟩ := k1; exact DataW.trod_lt m _ _ _ hm
  obtain ⟨cs, rfl, hsz⟩ := okWide_struct Tryz.underlying26 (hval 0 26 v0 rfl rfl)
  obtain ⟨m0, hm0⟩ := h0
  obtain ⟨r, ⟨a_p, c_p, a_e, c_e, a_a, c_a, hcs, hp, he, ha, _⟩, ⟨⟨hle, hops⟩, hvo⟩⟩ := rd_RuleV hm0 (by simpa [Value.cells] using hsz.trans cellsLRule)
  obtain rfl : cs = #[.string r.name, .int .i64 r.sal, .slice a_p r.pats.length c_p, .slice a_e r.exprs.length c_e, .slice a_a r.acts.length c_a] := by cases cs; simpa [Value.cells] using hcs
  obtain ⟨fa, fn, fc, rfl⟩ := okWide_slice Tryz.underlying27 (hval 1 27 v1 rfl rfl)
  obtain ⟨m1, hm1⟩ := h1
  obtain ⟨fa', fc', fs, e1, hf, harg⟩ := rd_facts hm1
  simp only [Value.cells, List.cons.injEq, and_true, Value.slice.injEq] at e1
  obtain ⟨rfl, rfl, rfl⟩ := e1
  clear hA0 hval0
  refine (law_tk r fs a_p c_p a_e c_e a_a c_a _ _ W hp he ha hle hops hvo hf harg).mono fun e W' ⟨he, bel⟩ => ?_
  subst he
  exact ⟨_, rfl, _, _, _, [], _, [], hW', trodAll_mk1 (shut_bool Tryz.underlying4 _), (trodAll_cons_mk (Below.trod laidOut (by kernel_rfl) (of_decide_eq_true (by kernel_rfl)) k0 bel lt0) (trodAll_cons_mk (Below.trod laidOut (by kernel_rfl) (of_decide_eq_true (by kernel_rfl)) k1 bel lt1) trodAll_mk0)), rfl, bel.frame _, fun h => by cases h⟩

theorem fnExactTokens_holds : Rows.FnExactTokensSaid :=
  OpenClaim.holds_of_wide 5 Tryz.f5 rfl rfl rfl rfl rfl rfl rfl ⟨rfl, rfl, rfl, rfl, rfl⟩ rfl rfl rfl rfl rfl (by kernel_rfl) Tryz.func5 (by kernel_rfl)
    (of_decide_eq_true (by kernel_rfl)) (by unfold Func.isWrapper; first | (rw [if_pos (by decide +kernel)]; kernel_rfl) | (rw [if_neg (by decide +kernel)]; exact ⟨rfl, rfl⟩))
    (fun os started H enc _ => tk_lifted os started H enc)
#print axioms fnExactTokens_holds
end Go.Proofs.YtognpkdgphebeaaGreat
