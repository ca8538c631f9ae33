/-
  OUR OWN TEXT. The law FnStore (written by genst.py): s and m hold the same data after every operation.
-/
import Derived.Test.YtgamdkokmkagaaaSt0m
import Derived.Test.YtgamdkokmkagaaaJz
import Derived.Test.YtgamdkokmkagaaaAsm
import Derived.Test.YtgamdkokmkagaaaJy
import Derived.Test.YtgamdkokmkagaaaJu
namespace Go.Proofs.Ytgamdkokmkagaaa
open Go.RowKit
attribute [local go_sem ↓] Go.wp_at_zero Go.wp_at_succ
set_option maxRecDepth 100000 in
set_option maxHeartbeats 25600000 in
theorem law_store (a : Option Addr) (n c : Nat) (a2 : Option Addr) (n2 c2 : Nat) (w : World) (h : ByA w a n) (h2 : ByA w a2 n2) :
    Calls Try.prog 3 #[.slice a n c, .slice a2 n2 c2] w fun e w' => e = .returned (.bool true) ∧ Below w.heap.size w w' := by
  have HB := hidR h
  have HB2 := hidR h2
  clear h h2
  by_cases hn : (1048576 : Int) < (n : Int)
  · go_enter Try.func3, Try.ntmps3
    go_wp2_with fail
    go_ret
    exact ⟨rfl, Below.refl _ _⟩
  by_cases hn2 : (1048576 : Int) < (n2 : Int)
  · go_enter Try.func3, Try.ntmps3
    go_wp2_with fail
    go_ret
    exact ⟨rfl, Below.refl _ _⟩
  have hn' : n ≤ 1048576 := by omega
  have hn2' : n2 ≤ 1048576 := by omega
  go_enter Try.func3, Try.ntmps3
  go_wp2_with fail
  refine (pick_any a2 n2 c2 0 _ w HB2.out (by omega) rfl).mono ?_
  rintro e w' ⟨u1, hu1, rfl, hw'⟩
  rw [hw']
  clear hw' w'
  go_wp2_with fail
  refine (pick_any a2 n2 c2 1 _ w HB2.out (by omega) rfl).mono ?_
  rintro e w' ⟨u2, hu2, rfl, hw'⟩
  rw [hw']
  clear hw' w'
  obtain ⟨cp, hcp⟩ : ∃ cp : Int, cp = 1 + (u1 : Int) % 8 := ⟨_, rfl⟩
  obtain ⟨sg, hsg⟩ : ∃ sg : Bool, sg = ((u2 : Int) % 2 == 1) := ⟨_, rfl⟩
  have hcpb : 1 ≤ cp ∧ cp ≤ 8 := by omega
  have HCP := hidR hcp
  have HSG := hidR hsg
  clear hcp hsg
  go_upto_region 5 with fail
  refine lift2a ?_
  intro w1 hB1 q1 q2
  have B1 := hidR hB1
  have S1 := hidR (show TB w1 w.heap.size none 0 0 1 cp sg by rw [HCP.out, HSG.out]; exact q1)
  have M1 := hidR (show TB w1 (w.heap.size + 1) none 0 0 1 cp sg by rw [HCP.out, HSG.out]; exact q2)
  clear hB1 q1 q2 HCP HSG
  go_wp2_with fail
  refine (DrawOps_any a n c a2 n2 c2 w1 (HB.out.below B1.out) hn' (HB2.out.below B1.out) hn2').mono ?_
  rintro e w2 ⟨oa, oc, N, rfl, hN24, hOO, hb2⟩
  have S2 := hidR (S1.out.bel hb2)
  have M2 := hidR (M1.out.bel hb2)
  have O2 := hidR hOO
  have B2 := hidR (B1.out.trans (hb2.mono B1.out.size))
  clear hOO hb2 S1 M1 B1 HB HB2
  go_wp2_with fail
  go_loopw [32] (fun iv wr => ∃ (k : Nat) (sa' : Option Addr) (sc' : Nat) (ma : Option Addr) (mc : Nat) (fs : List F) (nx : Int), iv = .int .i64 (k : Int) ∧ k ≤ N.length ∧ TB wr w.heap.size sa' fs.length sc' nx cp sg ∧ TB wr (w.heap.size + 1) ma fs.length mc nx cp sg ∧ FactsAt wr sa' fs ∧ FactsAt wr ma fs ∧ fs.length ≤ sc' ∧ fs.length ≤ mc ∧ VS fs nx cp sg ∧ (∀ f ∈ fs, Fok f) ∧ OO wr w1.heap.size oa oc N ∧ Below w.heap.size w wr) (fun iv _ => N.length - (intOf iv).toNat)
  case atStart => exact ⟨0, none, 0, none, 0, [], 1, rfl, Nat.zero_le _, S2.out, M2.out, FactsAt.none _ _, FactsAt.none _ _, Nat.le_refl _, Nat.le_refl _, VS.none hcpb.1 hcpb.2, fun f hf => by simp at hf, O2.out, B2.out⟩
  case round =>
    obtain ⟨k, sa', sc', ma, mc, fs, nx, rfl, hkN, hS, hM, hFs, hFm, hcs', hcm, hVS, hFok, hOO, hB⟩ := hrel
    have S := hidR hS
    have M := hidR hM
    have Fs := hidR hFs
    have Fm := hidR hFm
    have HCS := hidR hcs'
    have HCM := hidR hcm
    have hl : fs.length ≤ 1048576 := by have := hVS.len; have := hVS.cp40; omega
    have VV := hidR hVS
    have FK := hidR hFok
    have O := hidR hOO
    have B := hidR hB
    have hl1 := hS.facts.2.2
    have hl2 := hM.facts.2.2
    clear hS hM hFs hFm hcs' hcm hVS hFok hOO hB S2 M2 O2 B2
    by_cases hk : k < N.length
    · obtain ⟨x, hx⟩ : ∃ x, N[k]? = some x := ⟨N[k], by simp [hk]⟩
      obtain ⟨ok, rfl, hokl, o0, o1, o2, o3⟩ := op_at O.out hx
      obtain ⟨⟨va, vc, hsv⟩, hOw, hv7, hvsm, hcls, ht0, ht26⟩ := O.out.2 x (List.mem_of_getElem? hx)
      rw [hsv] at o3 hOw
      have XV := hidR (own_vals hOw)
      have XK := hidR (fun v hv => (hvsm v hv).ok)
      have XT := hidR (wf_range (show -9223372036854775808 ≤ x.tag by omega) (show x.tag ≤ 9223372036854775807 by omega))
      have z0 : (0 : Int) ≤ (k : Int) := by omega
      have z1 : (k : Int) < (N.length : Int) := by omega
      have hclm : x.cls.size ≤ maxLen := Nat.le_trans hcls (by decide)
      have hvl : x.vs.length ≤ 1048576 := by omega
      clear hx hsv hOw hvsm hcls ht0 ht26
      go_upto_region 9 with fail
      refine lift2a ?_
      intro w3 hB3 q1 q2
      have X3 := hidR (show OB w3 wr.heap.size (.int .i64 x.kind) (.int .i64 x.tag) (.string x.cls) (.slice va x.vs.length vc) from q1)
      have C3 := hidR (show CB w3 (wr.heap.size + 1) ⟨[], 0, 0, false, 0, 0⟩ none 0 from q2)
      have S3 := hidR (S.out.bel hB3)
      have M3 := hidR (M.out.bel hB3)
      have Fs3 := hidR (Fs.out.below hB3)
      have O3 := hidR (O.out.bel hB3)
      have B3 := hidR (B.out.trans (hB3.mono B.out.size))
      have Fm3 := hidR (Fm.out.below hB3)
      have XV3 := hidR (XV.out.below hB3)
      clear hB3 q1 q2 o0 o1 o2 o3 S M Fs Fm O B XV
      obtain ⟨⟨s0, s1, s2, s3⟩, _, _⟩ := S3.out.facts
      obtain ⟨⟨p0, p1, p2, p3⟩, _, _⟩ := X3.out.facts
      by_cases hkd : x.kind = 1
      · have b1 : (x.kind == 1) = true := by simp; omega
        go_wp2_with fail
        refine (iAssert_any sa' sc' fs nx cp sg x.cls va vc x.vs w3 Fs3.out XV3.out hl (fun f hf => (FK.out f hf).1) (fun f hf => (FK.out f hf).2) hclm hvl XK.out).mono ?_
        rintro e w4 ⟨⟨a4, c4, xs4, rfl, ho4⟩, hb4⟩
        obtain ⟨R, hR⟩ : ∃ R, R = asrt fs nx cp sg x.cls x.vs := ⟨_, rfl⟩
        rw [← hR] at ho4 ⊢
        have HO := hidR (show R = opR 1 x.tag x.cls x.vs fs nx cp sg by rw [hR]; simp [opR])
        have F4 := hidR ho4.at
        have HC4 := hidR (own_cap ho4.own)
        have S4 := hidR (S3.out.bel hb4)
        have M4 := hidR (M3.out.bel hb4)
        have Fs4 := hidR (Fs3.out.below hb4)
        have O4 := hidR (O3.out.bel hb4)
        have B4 := hidR (B3.out.trans (hb4.mono B3.out.size))
        have Fm4 := hidR (Fm3.out.below hb4)
        have XV4 := hidR (XV3.out.below hb4)
        have X4 := hidR (X3.out.bel hb4)
        have C4 := hidR (C3.out.bel hb4)
        clear hR ho4 hb4 s0 s1 s2 s3 p0 p1 p2 p3
        clear S3 M3 Fs3 O3 B3 Fm3 XV3 X3 C3
        obtain ⟨⟨x0, x1, x2, x3, x4, x5⟩, z, _⟩ := C4.out.facts
        have y0 := z 0
        have y1 := z 1
        have y2 := z 2
        have y3 := z 3
        have y4 := z 4
        have y5 := z 5
        clear z
        dsimp only [C6.val]
        go_upto_region 16 with fail
        refine lift_cb (r' := R) C4.out ?_
        intro w5 hC5 ht5
        have C5 := hidR hC5
        have S5 := hidR (S4.out.turned ht5 (by omega))
        have M5 := hidR (M4.out.turned ht5 (by omega))
        have X5 := hidR (X4.out.turned ht5 (by omega))
        have F5 := hidR (F4.out.turnC C4.out ht5)
        have Fs5 := hidR (Fs4.out.turnC C4.out ht5)
        have Fm5 := hidR (Fm4.out.turnC C4.out ht5)
        have XV5 := hidR (XV4.out.turnC C4.out ht5)
        have O5 := hidR (O4.out.turnC C4.out ht5)
        have B5 := hidR (B4.out.trans (ht5.below (by omega)))
        clear hC5 ht5 x0 x1 x2 x3 x4 x5 y0 y1 y2 y3 y4 y5
        clear S4 M4 Fs4 O4 B4 Fm4 XV4 X4 C4 F4
        obtain ⟨⟨m0, m1, m2, m3⟩, _, _⟩ := M5.out.facts
        obtain ⟨⟨p0, p1, p2, p3⟩, _, _⟩ := X5.out.facts
        go_wp2_with fail
        refine (after_any 1 x.tag x.cls va vc x.vs ma mc fs nx cp sg w5 (by decide) Fm5.out XV5.out HCM.out hl (fun f hf => (FK.out f hf).1) hclm hvl (fun v hv => (XK.out v hv).2.2)).mono ?_
        rintro e w6 ⟨r, hr, ⟨a6, c6, rfl, hF6, hcap6⟩, hb6⟩
        have Fr6 := hidR hF6
        have HC6 := hidR hcap6
        have S6 := hidR (S5.out.bel hb6)
        have M6 := hidR (M5.out.bel hb6)
        have Fs6 := hidR (Fs5.out.below hb6)
        have O6 := hidR (O5.out.bel hb6)
        have B6 := hidR (B5.out.trans (hb6.mono B5.out.size))
        have C6 := hidR (C5.out.bel hb6)
        have F6 := hidR (F5.out.below hb6)
        have HRR := hidR hr
        clear hr hF6 hcap6 hb6 m0 m1 m2 m3 p0 p1 p2 p3
        clear S5 M5 Fs5 O5 B5 Fm5 XV5 X5 C5 F5
        obtain ⟨⟨m0, m1, m2, m3⟩, z, _⟩ := M6.out.facts
        have y0 := z 0
        have y1 := z 1
        have y2 := z 2
        have y3 := z 3
        clear z
        dsimp only [storeV]
        go_upto_region 17 with fail
        refine lift_tb M6.out ?_
        intro w7 hM7 ht7
        have M7 := hidR hM7
        have S7 := hidR (S6.out.turned ht7 (by omega))
        have C7 := hidR (C6.out.turned ht7 (by omega))
        have F7 := hidR (F6.out.turnT M6.out ht7)
        have Fs7 := hidR (Fs6.out.turnT M6.out ht7)
        have Fr7 := hidR (Fr6.out.turnT M6.out ht7)
        have O7 := hidR (O6.out.turnT M6.out ht7)
        have B7 := hidR (B6.out.trans (ht7.below (by omega)))
        clear hM7 ht7 m0 m1 m2 m3 y0 y1 y2 y3
        clear S6 M6 Fs6 O6 B6 C6 F6 Fr6
        obtain ⟨⟨x0, x1, x2, x3, x4, x5⟩, _, _⟩ := C7.out.facts
        by_cases hbad : R.code = 1
        · have hr' : (⟨fs, nx, cp, sg, 0, 0⟩ : C6) = r := by rw [HRR.out, ← HO.out]; simp [aft, hbad]
          have hcb : (R.code == 1) = true := by simpa using hbad
          clear hbad HRR HO
          subst hr'
          go_wp2_with fail
          go_roundw
          case rel => exact ⟨k + 1, sa', sc', a6, c6, fs, nx, by go_num, by omega, S7.out, M7.out, Fs7.out, Fr7.out, HCS.out, HC6.out, VV.out, FK.out, O7.out, B7.out⟩
          case measure => (simp [intOf]; omega)
        · have hr' : R = r := by rw [HRR.out, ← HO.out]; simp [aft, hbad]
          have hcb : (R.code == 1) = false := by simpa using hbad
          have HT : Told fs nx cp sg R := by rw [HO.out]; exact opR_told _ _ _ VV.out
          have FR : Hid (∀ f ∈ R.fs, Fok f) := hidR (by rw [HO.out]; exact opR_read VV.out FK.out hclm hvl XK.out)
          rcases HT with h1 | ⟨hVR, hnx, hcpR, hsgR, hsame⟩
          · exact absurd h1 hbad
          have hlR : R.fs.length ≤ 1048576 := by have := hVR.len; have := hVR.cp40; omega
          have HVA := hidR (VS.iff.2 hVR)
          have VR := hidR hVR
          have HCR := hidR hcpR
          have HGR := hidR hsgR
          have HSA := hidR hsame
          have hnlt : ¬ R.nx < nx := by omega
          clear hbad HRR HO hVR hcpR hsgR hsame
          subst hr'
          go_wp2_with fail
          refine (storeValid_any a4 c4 R.fs R.nx R.cp R.sg w7 F7.out hlR (fun f hf => (FR.out f hf).1) (fun f hf => (FR.out f hf).2)).mono ?_
          rintro e w8 ⟨rfl, hb8⟩
          rw [HVA.out]
          have S8 := hidR (S7.out.bel hb8)
          have M8 := hidR (M7.out.bel hb8)
          have Fs8 := hidR (Fs7.out.below hb8)
          have O8 := hidR (O7.out.bel hb8)
          have B8 := hidR (B7.out.trans (hb8.mono B7.out.size))
          have C8 := hidR (C7.out.bel hb8)
          have F8 := hidR (F7.out.below hb8)
          have Fr8 := hidR (Fr7.out.below hb8)
          clear hb8 x0 x1 x2 x3 x4 x5
          clear S7 M7 Fs7 O7 B7 C7 F7 Fr7
          obtain ⟨⟨x0, x1, x2, x3, x4, x5⟩, _, _⟩ := C8.out.facts
          obtain ⟨⟨m0, m1, m2, m3⟩, _, _⟩ := M8.out.facts
          go_wp2_with fail
          refine (sameStore_two rfl rfl rfl rfl F8.out Fr8.out hlR (fun f hf => (FR.out f hf).1.2.1)).mono ?_
          rintro e w9 ⟨rfl, hb9⟩
          have S9 := hidR (S8.out.bel hb9)
          have M9 := hidR (M8.out.bel hb9)
          have Fs9 := hidR (Fs8.out.below hb9)
          have O9 := hidR (O8.out.bel hb9)
          have B9 := hidR (B8.out.trans (hb9.mono B8.out.size))
          have C9 := hidR (C8.out.bel hb9)
          have F9 := hidR (F8.out.below hb9)
          have Fr9 := hidR (Fr8.out.below hb9)
          clear hb9 x0 x1 x2 x3 x4 x5 m0 m1 m2 m3
          clear S8 M8 Fs8 O8 B8 C8 F8 Fr8
          obtain ⟨⟨x0, x1, x2, x3, x4, x5⟩, _, _⟩ := C9.out.facts
          obtain ⟨⟨s0, s1, s2, s3⟩, z, _⟩ := S9.out.facts
          have y0 := z 0
          have y1 := z 1
          have y2 := z 2
          have y3 := z 3
          clear z
          by_cases hz : R.code = 0
          · have hzb : (R.code == 0) = true := by simpa using hz
            have hzn : (R.code != 0) = false := by simpa using hz
            go_upto_region 23 with fail
            refine lift_tb S9.out ?_
            intro wt hSt htt
            have St := hidR (show TB wt w.heap.size a4 R.fs.length c4 R.nx cp sg by rw [← HCR.out, ← HGR.out]; exact hSt)
            have Mt := hidR (show TB wt (w.heap.size + 1) a6 R.fs.length c6 R.nx cp sg by rw [← HCR.out, ← HGR.out]; exact M9.out.turned htt (by omega))
            have Ft := hidR (F9.out.turnT S9.out htt)
            have Frt := hidR (Fr9.out.turnT S9.out htt)
            have Ot := hidR (O9.out.turnT S9.out htt)
            have Bt := hidR (B9.out.trans (htt.below (Nat.le_refl _)))
            clear hSt htt
            go_wp2_with fail
            go_roundw
            case rel => exact ⟨k + 1, a4, c4, a6, c6, R.fs, R.nx, by go_num, by omega, St.out, Mt.out, Ft.out, Frt.out, HC4.out, HC6.out, (by rw [← HCR.out, ← HGR.out]; exact VR.out), FR.out, Ot.out, Bt.out⟩
            case measure => (simp [intOf]; omega)
          · have hzb : (R.code == 0) = false := by simpa using hz
            have hzn : (R.code != 0) = true := by simpa using hz
            have HZ := hidR hz
            clear hz
            go_wp2_with fail
            refine (sameStore_two (HSA.out HZ.out).1.symm (HSA.out HZ.out).2.symm HCR.out.symm HGR.out.symm F9.out Fs9.out hlR (fun f hf => (FR.out f hf).1.2.1)).mono ?_
            rintro e w10 ⟨rfl, hb10⟩
            have S10 := hidR (S9.out.bel hb10)
            have M10 := hidR (M9.out.bel hb10)
            have Fs10 := hidR (Fs9.out.below hb10)
            have O10 := hidR (O9.out.bel hb10)
            have B10 := hidR (B9.out.trans (hb10.mono B9.out.size))
            have C10 := hidR (C9.out.bel hb10)
            have F10 := hidR (F9.out.below hb10)
            have Fr10 := hidR (Fr9.out.below hb10)
            clear hb10 x0 x1 x2 x3 x4 x5 s0 s1 s2 s3 y0 y1 y2 y3
            clear S9 M9 Fs9 O9 B9 C9 F9 Fr9
            obtain ⟨⟨x0, x1, x2, x3, x4, x5⟩, _, _⟩ := C10.out.facts
            obtain ⟨⟨s0, s1, s2, s3⟩, z, _⟩ := S10.out.facts
            have y0 := z 0
            have y1 := z 1
            have y2 := z 2
            have y3 := z 3
            clear z
            go_upto_region 23 with fail
            refine lift_tb S10.out ?_
            intro wt hSt htt
            have St := hidR (show TB wt w.heap.size a4 R.fs.length c4 R.nx cp sg by rw [← HCR.out, ← HGR.out]; exact hSt)
            have Mt := hidR (show TB wt (w.heap.size + 1) a6 R.fs.length c6 R.nx cp sg by rw [← HCR.out, ← HGR.out]; exact M10.out.turned htt (by omega))
            have Ft := hidR (F10.out.turnT S10.out htt)
            have Frt := hidR (Fr10.out.turnT S10.out htt)
            have Ot := hidR (O10.out.turnT S10.out htt)
            have Bt := hidR (B10.out.trans (htt.below (Nat.le_refl _)))
            clear hSt htt
            go_wp2_with fail
            go_roundw
            case rel => exact ⟨k + 1, a4, c4, a6, c6, R.fs, R.nx, by go_num, by omega, St.out, Mt.out, Ft.out, Frt.out, HC4.out, HC6.out, (by rw [← HCR.out, ← HGR.out]; exact VR.out), FR.out, Ot.out, Bt.out⟩
            case measure => (simp [intOf]; omega)
      have hkd1 := hkd
      clear hkd
      by_cases hkd : x.kind = 2
      · have b1 : (x.kind == 1) = false := by simp; omega
        have b2 : (x.kind == 2) = true := by simp; omega
        go_wp2_with fail
        refine (iRetract_any sa' sc' fs nx cp sg x.tag w3 Fs3.out HCS.out hl (fun f hf => (FK.out f hf).1) (fun f hf => (FK.out f hf).2) XT.out).mono ?_
        rintro e w4 ⟨⟨a4, c4, xs4, rfl, ho4⟩, hb4⟩
        obtain ⟨R, hR⟩ : ∃ R, R = retr fs nx cp sg x.tag := ⟨_, rfl⟩
        rw [← hR] at ho4 ⊢
        have HO := hidR (show R = opR 2 x.tag x.cls x.vs fs nx cp sg by rw [hR]; simp [opR])
        have F4 := hidR ho4.at
        have HC4 := hidR (own_cap ho4.own)
        have S4 := hidR (S3.out.bel hb4)
        have M4 := hidR (M3.out.bel hb4)
        have Fs4 := hidR (Fs3.out.below hb4)
        have O4 := hidR (O3.out.bel hb4)
        have B4 := hidR (B3.out.trans (hb4.mono B3.out.size))
        have Fm4 := hidR (Fm3.out.below hb4)
        have XV4 := hidR (XV3.out.below hb4)
        have X4 := hidR (X3.out.bel hb4)
        have C4 := hidR (C3.out.bel hb4)
        clear hR ho4 hb4 s0 s1 s2 s3 p0 p1 p2 p3
        clear S3 M3 Fs3 O3 B3 Fm3 XV3 X3 C3
        obtain ⟨⟨x0, x1, x2, x3, x4, x5⟩, z, _⟩ := C4.out.facts
        have y0 := z 0
        have y1 := z 1
        have y2 := z 2
        have y3 := z 3
        have y4 := z 4
        have y5 := z 5
        clear z
        dsimp only [C6.val]
        go_upto_region 16 with fail
        refine lift_cb (r' := R) C4.out ?_
        intro w5 hC5 ht5
        have C5 := hidR hC5
        have S5 := hidR (S4.out.turned ht5 (by omega))
        have M5 := hidR (M4.out.turned ht5 (by omega))
        have X5 := hidR (X4.out.turned ht5 (by omega))
        have F5 := hidR (F4.out.turnC C4.out ht5)
        have Fs5 := hidR (Fs4.out.turnC C4.out ht5)
        have Fm5 := hidR (Fm4.out.turnC C4.out ht5)
        have XV5 := hidR (XV4.out.turnC C4.out ht5)
        have O5 := hidR (O4.out.turnC C4.out ht5)
        have B5 := hidR (B4.out.trans (ht5.below (by omega)))
        clear hC5 ht5 x0 x1 x2 x3 x4 x5 y0 y1 y2 y3 y4 y5
        clear S4 M4 Fs4 O4 B4 Fm4 XV4 X4 C4 F4
        obtain ⟨⟨m0, m1, m2, m3⟩, _, _⟩ := M5.out.facts
        obtain ⟨⟨p0, p1, p2, p3⟩, _, _⟩ := X5.out.facts
        go_wp2_with fail
        refine (after_any 2 x.tag x.cls va vc x.vs ma mc fs nx cp sg w5 (by decide) Fm5.out XV5.out HCM.out hl (fun f hf => (FK.out f hf).1) hclm hvl (fun v hv => (XK.out v hv).2.2)).mono ?_
        rintro e w6 ⟨r, hr, ⟨a6, c6, rfl, hF6, hcap6⟩, hb6⟩
        have Fr6 := hidR hF6
        have HC6 := hidR hcap6
        have S6 := hidR (S5.out.bel hb6)
        have M6 := hidR (M5.out.bel hb6)
        have Fs6 := hidR (Fs5.out.below hb6)
        have O6 := hidR (O5.out.bel hb6)
        have B6 := hidR (B5.out.trans (hb6.mono B5.out.size))
        have C6 := hidR (C5.out.bel hb6)
        have F6 := hidR (F5.out.below hb6)
        have HRR := hidR hr
        clear hr hF6 hcap6 hb6 m0 m1 m2 m3 p0 p1 p2 p3
        clear S5 M5 Fs5 O5 B5 Fm5 XV5 X5 C5 F5
        obtain ⟨⟨m0, m1, m2, m3⟩, z, _⟩ := M6.out.facts
        have y0 := z 0
        have y1 := z 1
        have y2 := z 2
        have y3 := z 3
        clear z
        dsimp only [storeV]
        go_upto_region 17 with fail
        refine lift_tb M6.out ?_
        intro w7 hM7 ht7
        have M7 := hidR hM7
        have S7 := hidR (S6.out.turned ht7 (by omega))
        have C7 := hidR (C6.out.turned ht7 (by omega))
        have F7 := hidR (F6.out.turnT M6.out ht7)
        have Fs7 := hidR (Fs6.out.turnT M6.out ht7)
        have Fr7 := hidR (Fr6.out.turnT M6.out ht7)
        have O7 := hidR (O6.out.turnT M6.out ht7)
        have B7 := hidR (B6.out.trans (ht7.below (by omega)))
        clear hM7 ht7 m0 m1 m2 m3 y0 y1 y2 y3
        clear S6 M6 Fs6 O6 B6 C6 F6 Fr6
        obtain ⟨⟨x0, x1, x2, x3, x4, x5⟩, _, _⟩ := C7.out.facts
        by_cases hbad : R.code = 1
        · have hr' : (⟨fs, nx, cp, sg, 0, 0⟩ : C6) = r := by rw [HRR.out, ← HO.out]; simp [aft, hbad]
          have hcb : (R.code == 1) = true := by simpa using hbad
          clear hbad HRR HO
          subst hr'
          go_wp2_with fail
          go_roundw
          case rel => exact ⟨k + 1, sa', sc', a6, c6, fs, nx, by go_num, by omega, S7.out, M7.out, Fs7.out, Fr7.out, HCS.out, HC6.out, VV.out, FK.out, O7.out, B7.out⟩
          case measure => (simp [intOf]; omega)
        · have hr' : R = r := by rw [HRR.out, ← HO.out]; simp [aft, hbad]
          have hcb : (R.code == 1) = false := by simpa using hbad
          have HT : Told fs nx cp sg R := by rw [HO.out]; exact opR_told _ _ _ VV.out
          have FR : Hid (∀ f ∈ R.fs, Fok f) := hidR (by rw [HO.out]; exact opR_read VV.out FK.out hclm hvl XK.out)
          rcases HT with h1 | ⟨hVR, hnx, hcpR, hsgR, hsame⟩
          · exact absurd h1 hbad
          have hlR : R.fs.length ≤ 1048576 := by have := hVR.len; have := hVR.cp40; omega
          have HVA := hidR (VS.iff.2 hVR)
          have VR := hidR hVR
          have HCR := hidR hcpR
          have HGR := hidR hsgR
          have HSA := hidR hsame
          have hnlt : ¬ R.nx < nx := by omega
          clear hbad HRR HO hVR hcpR hsgR hsame
          subst hr'
          go_wp2_with fail
          refine (storeValid_any a4 c4 R.fs R.nx R.cp R.sg w7 F7.out hlR (fun f hf => (FR.out f hf).1) (fun f hf => (FR.out f hf).2)).mono ?_
          rintro e w8 ⟨rfl, hb8⟩
          rw [HVA.out]
          have S8 := hidR (S7.out.bel hb8)
          have M8 := hidR (M7.out.bel hb8)
          have Fs8 := hidR (Fs7.out.below hb8)
          have O8 := hidR (O7.out.bel hb8)
          have B8 := hidR (B7.out.trans (hb8.mono B7.out.size))
          have C8 := hidR (C7.out.bel hb8)
          have F8 := hidR (F7.out.below hb8)
          have Fr8 := hidR (Fr7.out.below hb8)
          clear hb8 x0 x1 x2 x3 x4 x5
          clear S7 M7 Fs7 O7 B7 C7 F7 Fr7
          obtain ⟨⟨x0, x1, x2, x3, x4, x5⟩, _, _⟩ := C8.out.facts
          obtain ⟨⟨m0, m1, m2, m3⟩, _, _⟩ := M8.out.facts
          go_wp2_with fail
          refine (sameStore_two rfl rfl rfl rfl F8.out Fr8.out hlR (fun f hf => (FR.out f hf).1.2.1)).mono ?_
          rintro e w9 ⟨rfl, hb9⟩
          have S9 := hidR (S8.out.bel hb9)
          have M9 := hidR (M8.out.bel hb9)
          have Fs9 := hidR (Fs8.out.below hb9)
          have O9 := hidR (O8.out.bel hb9)
          have B9 := hidR (B8.out.trans (hb9.mono B8.out.size))
          have C9 := hidR (C8.out.bel hb9)
          have F9 := hidR (F8.out.below hb9)
          have Fr9 := hidR (Fr8.out.below hb9)
          clear hb9 x0 x1 x2 x3 x4 x5 m0 m1 m2 m3
          clear S8 M8 Fs8 O8 B8 C8 F8 Fr8
          obtain ⟨⟨x0, x1, x2, x3, x4, x5⟩, _, _⟩ := C9.out.facts
          obtain ⟨⟨s0, s1, s2, s3⟩, z, _⟩ := S9.out.facts
          have y0 := z 0
          have y1 := z 1
          have y2 := z 2
          have y3 := z 3
          clear z
          by_cases hz : R.code = 0
          · have hzb : (R.code == 0) = true := by simpa using hz
            have hzn : (R.code != 0) = false := by simpa using hz
            go_upto_region 23 with fail
            refine lift_tb S9.out ?_
            intro wt hSt htt
            have St := hidR (show TB wt w.heap.size a4 R.fs.length c4 R.nx cp sg by rw [← HCR.out, ← HGR.out]; exact hSt)
            have Mt := hidR (show TB wt (w.heap.size + 1) a6 R.fs.length c6 R.nx cp sg by rw [← HCR.out, ← HGR.out]; exact M9.out.turned htt (by omega))
            have Ft := hidR (F9.out.turnT S9.out htt)
            have Frt := hidR (Fr9.out.turnT S9.out htt)
            have Ot := hidR (O9.out.turnT S9.out htt)
            have Bt := hidR (B9.out.trans (htt.below (Nat.le_refl _)))
            clear hSt htt
            go_wp2_with fail
            go_roundw
            case rel => exact ⟨k + 1, a4, c4, a6, c6, R.fs, R.nx, by go_num, by omega, St.out, Mt.out, Ft.out, Frt.out, HC4.out, HC6.out, (by rw [← HCR.out, ← HGR.out]; exact VR.out), FR.out, Ot.out, Bt.out⟩
            case measure => (simp [intOf]; omega)
          · have hzb : (R.code == 0) = false := by simpa using hz
            have hzn : (R.code != 0) = true := by simpa using hz
            have HZ := hidR hz
            clear hz
            go_wp2_with fail
            refine (sameStore_two (HSA.out HZ.out).1.symm (HSA.out HZ.out).2.symm HCR.out.symm HGR.out.symm F9.out Fs9.out hlR (fun f hf => (FR.out f hf).1.2.1)).mono ?_
            rintro e w10 ⟨rfl, hb10⟩
            have S10 := hidR (S9.out.bel hb10)
            have M10 := hidR (M9.out.bel hb10)
            have Fs10 := hidR (Fs9.out.below hb10)
            have O10 := hidR (O9.out.bel hb10)
            have B10 := hidR (B9.out.trans (hb10.mono B9.out.size))
            have C10 := hidR (C9.out.bel hb10)
            have F10 := hidR (F9.out.below hb10)
            have Fr10 := hidR (Fr9.out.below hb10)
            clear hb10 x0 x1 x2 x3 x4 x5 s0 s1 s2 s3 y0 y1 y2 y3
            clear S9 M9 Fs9 O9 B9 C9 F9 Fr9
            obtain ⟨⟨x0, x1, x2, x3, x4, x5⟩, _, _⟩ := C10.out.facts
            obtain ⟨⟨s0, s1, s2, s3⟩, z, _⟩ := S10.out.facts
            have y0 := z 0
            have y1 := z 1
            have y2 := z 2
            have y3 := z 3
            clear z
            go_upto_region 23 with fail
            refine lift_tb S10.out ?_
            intro wt hSt htt
            have St := hidR (show TB wt w.heap.size a4 R.fs.length c4 R.nx cp sg by rw [← HCR.out, ← HGR.out]; exact hSt)
            have Mt := hidR (show TB wt (w.heap.size + 1) a6 R.fs.length c6 R.nx cp sg by rw [← HCR.out, ← HGR.out]; exact M10.out.turned htt (by omega))
            have Ft := hidR (F10.out.turnT S10.out htt)
            have Frt := hidR (Fr10.out.turnT S10.out htt)
            have Ot := hidR (O10.out.turnT S10.out htt)
            have Bt := hidR (B10.out.trans (htt.below (Nat.le_refl _)))
            clear hSt htt
            go_wp2_with fail
            go_roundw
            case rel => exact ⟨k + 1, a4, c4, a6, c6, R.fs, R.nx, by go_num, by omega, St.out, Mt.out, Ft.out, Frt.out, HC4.out, HC6.out, (by rw [← HCR.out, ← HGR.out]; exact VR.out), FR.out, Ot.out, Bt.out⟩
            case measure => (simp [intOf]; omega)
      have hkd2 := hkd
      clear hkd
      by_cases hkd : x.kind = 3
      · have b1 : (x.kind == 1) = false := by simp; omega
        have b2 : (x.kind == 2) = false := by simp; omega
        have b3 : (x.kind == 3) = true := by simp; omega
        go_wp2_with fail
        refine (iModify_any sa' sc' fs nx cp sg x.tag va vc x.vs w3 Fs3.out XV3.out HCS.out hl (fun f hf => (FK.out f hf).1) (fun f hf => (FK.out f hf).2) XT.out hvl XK.out).mono ?_
        rintro e w4 ⟨⟨a4, c4, xs4, rfl, ho4⟩, hb4⟩
        obtain ⟨R, hR⟩ : ∃ R, R = mdfy fs nx cp sg x.tag x.vs := ⟨_, rfl⟩
        rw [← hR] at ho4 ⊢
        have HO := hidR (show R = opR 3 x.tag x.cls x.vs fs nx cp sg by rw [hR]; simp [opR])
        have F4 := hidR ho4.at
        have HC4 := hidR (own_cap ho4.own)
        have S4 := hidR (S3.out.bel hb4)
        have M4 := hidR (M3.out.bel hb4)
        have Fs4 := hidR (Fs3.out.below hb4)
        have O4 := hidR (O3.out.bel hb4)
        have B4 := hidR (B3.out.trans (hb4.mono B3.out.size))
        have Fm4 := hidR (Fm3.out.below hb4)
        have XV4 := hidR (XV3.out.below hb4)
        have X4 := hidR (X3.out.bel hb4)
        have C4 := hidR (C3.out.bel hb4)
        clear hR ho4 hb4 s0 s1 s2 s3 p0 p1 p2 p3
        clear S3 M3 Fs3 O3 B3 Fm3 XV3 X3 C3
        obtain ⟨⟨x0, x1, x2, x3, x4, x5⟩, z, _⟩ := C4.out.facts
        have y0 := z 0
        have y1 := z 1
        have y2 := z 2
        have y3 := z 3
        have y4 := z 4
        have y5 := z 5
        clear z
        dsimp only [C6.val]
        go_upto_region 16 with fail
        refine lift_cb (r' := R) C4.out ?_
        intro w5 hC5 ht5
        have C5 := hidR hC5
        have S5 := hidR (S4.out.turned ht5 (by omega))
        have M5 := hidR (M4.out.turned ht5 (by omega))
        have X5 := hidR (X4.out.turned ht5 (by omega))
        have F5 := hidR (F4.out.turnC C4.out ht5)
        have Fs5 := hidR (Fs4.out.turnC C4.out ht5)
        have Fm5 := hidR (Fm4.out.turnC C4.out ht5)
        have XV5 := hidR (XV4.out.turnC C4.out ht5)
        have O5 := hidR (O4.out.turnC C4.out ht5)
        have B5 := hidR (B4.out.trans (ht5.below (by omega)))
        clear hC5 ht5 x0 x1 x2 x3 x4 x5 y0 y1 y2 y3 y4 y5
        clear S4 M4 Fs4 O4 B4 Fm4 XV4 X4 C4 F4
        obtain ⟨⟨m0, m1, m2, m3⟩, _, _⟩ := M5.out.facts
        obtain ⟨⟨p0, p1, p2, p3⟩, _, _⟩ := X5.out.facts
        go_wp2_with fail
        refine (after_any 3 x.tag x.cls va vc x.vs ma mc fs nx cp sg w5 (by decide) Fm5.out XV5.out HCM.out hl (fun f hf => (FK.out f hf).1) hclm hvl (fun v hv => (XK.out v hv).2.2)).mono ?_
        rintro e w6 ⟨r, hr, ⟨a6, c6, rfl, hF6, hcap6⟩, hb6⟩
        have Fr6 := hidR hF6
        have HC6 := hidR hcap6
        have S6 := hidR (S5.out.bel hb6)
        have M6 := hidR (M5.out.bel hb6)
        have Fs6 := hidR (Fs5.out.below hb6)
        have O6 := hidR (O5.out.bel hb6)
        have B6 := hidR (B5.out.trans (hb6.mono B5.out.size))
        have C6 := hidR (C5.out.bel hb6)
        have F6 := hidR (F5.out.below hb6)
        have HRR := hidR hr
        clear hr hF6 hcap6 hb6 m0 m1 m2 m3 p0 p1 p2 p3
        clear S5 M5 Fs5 O5 B5 Fm5 XV5 X5 C5 F5
        obtain ⟨⟨m0, m1, m2, m3⟩, z, _⟩ := M6.out.facts
        have y0 := z 0
        have y1 := z 1
        have y2 := z 2
        have y3 := z 3
        clear z
        dsimp only [storeV]
        go_upto_region 17 with fail
        refine lift_tb M6.out ?_
        intro w7 hM7 ht7
        have M7 := hidR hM7
        have S7 := hidR (S6.out.turned ht7 (by omega))
        have C7 := hidR (C6.out.turned ht7 (by omega))
        have F7 := hidR (F6.out.turnT M6.out ht7)
        have Fs7 := hidR (Fs6.out.turnT M6.out ht7)
        have Fr7 := hidR (Fr6.out.turnT M6.out ht7)
        have O7 := hidR (O6.out.turnT M6.out ht7)
        have B7 := hidR (B6.out.trans (ht7.below (by omega)))
        clear hM7 ht7 m0 m1 m2 m3 y0 y1 y2 y3
        clear S6 M6 Fs6 O6 B6 C6 F6 Fr6
        obtain ⟨⟨x0, x1, x2, x3, x4, x5⟩, _, _⟩ := C7.out.facts
        by_cases hbad : R.code = 1
        · have hr' : (⟨fs, nx, cp, sg, 0, 0⟩ : C6) = r := by rw [HRR.out, ← HO.out]; simp [aft, hbad]
          have hcb : (R.code == 1) = true := by simpa using hbad
          clear hbad HRR HO
          subst hr'
          go_wp2_with fail
          go_roundw
          case rel => exact ⟨k + 1, sa', sc', a6, c6, fs, nx, by go_num, by omega, S7.out, M7.out, Fs7.out, Fr7.out, HCS.out, HC6.out, VV.out, FK.out, O7.out, B7.out⟩
          case measure => (simp [intOf]; omega)
        · have hr' : R = r := by rw [HRR.out, ← HO.out]; simp [aft, hbad]
          have hcb : (R.code == 1) = false := by simpa using hbad
          have HT : Told fs nx cp sg R := by rw [HO.out]; exact opR_told _ _ _ VV.out
          have FR : Hid (∀ f ∈ R.fs, Fok f) := hidR (by rw [HO.out]; exact opR_read VV.out FK.out hclm hvl XK.out)
          rcases HT with h1 | ⟨hVR, hnx, hcpR, hsgR, hsame⟩
          · exact absurd h1 hbad
          have hlR : R.fs.length ≤ 1048576 := by have := hVR.len; have := hVR.cp40; omega
          have HVA := hidR (VS.iff.2 hVR)
          have VR := hidR hVR
          have HCR := hidR hcpR
          have HGR := hidR hsgR
          have HSA := hidR hsame
          have hnlt : ¬ R.nx < nx := by omega
          clear hbad HRR HO hVR hcpR hsgR hsame
          subst hr'
          go_wp2_with fail
          refine (storeValid_any a4 c4 R.fs R.nx R.cp R.sg w7 F7.out hlR (fun f hf => (FR.out f hf).1) (fun f hf => (FR.out f hf).2)).mono ?_
          rintro e w8 ⟨rfl, hb8⟩
          rw [HVA.out]
          have S8 := hidR (S7.out.bel hb8)
          have M8 := hidR (M7.out.bel hb8)
          have Fs8 := hidR (Fs7.out.below hb8)
          have O8 := hidR (O7.out.bel hb8)
          have B8 := hidR (B7.out.trans (hb8.mono B7.out.size))
          have C8 := hidR (C7.out.bel hb8)
          have F8 := hidR (F7.out.below hb8)
          have Fr8 := hidR (Fr7.out.below hb8)
          clear hb8 x0 x1 x2 x3 x4 x5
          clear S7 M7 Fs7 O7 B7 C7 F7 Fr7
          obtain ⟨⟨x0, x1, x2, x3, x4, x5⟩, _, _⟩ := C8.out.facts
          obtain ⟨⟨m0, m1, m2, m3⟩, _, _⟩ := M8.out.facts
          go_wp2_with fail
          refine (sameStore_two rfl rfl rfl rfl F8.out Fr8.out hlR (fun f hf => (FR.out f hf).1.2.1)).mono ?_
          rintro e w9 ⟨rfl, hb9⟩
          have S9 := hidR (S8.out.bel hb9)
          have M9 := hidR (M8.out.bel hb9)
          have Fs9 := hidR (Fs8.out.below hb9)
          have O9 := hidR (O8.out.bel hb9)
          have B9 := hidR (B8.out.trans (hb9.mono B8.out.size))
          have C9 := hidR (C8.out.bel hb9)
          have F9 := hidR (F8.out.below hb9)
          have Fr9 := hidR (Fr8.out.below hb9)
          clear hb9 x0 x1 x2 x3 x4 x5 m0 m1 m2 m3
          clear S8 M8 Fs8 O8 B8 C8 F8 Fr8
          obtain ⟨⟨x0, x1, x2, x3, x4, x5⟩, _, _⟩ := C9.out.facts
          obtain ⟨⟨s0, s1, s2, s3⟩, z, _⟩ := S9.out.facts
          have y0 := z 0
          have y1 := z 1
          have y2 := z 2
          have y3 := z 3
          clear z
          by_cases hz : R.code = 0
          · have hzb : (R.code == 0) = true := by simpa using hz
            have hzn : (R.code != 0) = false := by simpa using hz
            go_upto_region 23 with fail
            refine lift_tb S9.out ?_
            intro wt hSt htt
            have St := hidR (show TB wt w.heap.size a4 R.fs.length c4 R.nx cp sg by rw [← HCR.out, ← HGR.out]; exact hSt)
            have Mt := hidR (show TB wt (w.heap.size + 1) a6 R.fs.length c6 R.nx cp sg by rw [← HCR.out, ← HGR.out]; exact M9.out.turned htt (by omega))
            have Ft := hidR (F9.out.turnT S9.out htt)
            have Frt := hidR (Fr9.out.turnT S9.out htt)
            have Ot := hidR (O9.out.turnT S9.out htt)
            have Bt := hidR (B9.out.trans (htt.below (Nat.le_refl _)))
            clear hSt htt
            go_wp2_with fail
            go_roundw
            case rel => exact ⟨k + 1, a4, c4, a6, c6, R.fs, R.nx, by go_num, by omega, St.out, Mt.out, Ft.out, Frt.out, HC4.out, HC6.out, (by rw [← HCR.out, ← HGR.out]; exact VR.out), FR.out, Ot.out, Bt.out⟩
            case measure => (simp [intOf]; omega)
          · have hzb : (R.code == 0) = false := by simpa using hz
            have hzn : (R.code != 0) = true := by simpa using hz
            have HZ := hidR hz
            clear hz
            go_wp2_with fail
            refine (sameStore_two (HSA.out HZ.out).1.symm (HSA.out HZ.out).2.symm HCR.out.symm HGR.out.symm F9.out Fs9.out hlR (fun f hf => (FR.out f hf).1.2.1)).mono ?_
            rintro e w10 ⟨rfl, hb10⟩
            have S10 := hidR (S9.out.bel hb10)
            have M10 := hidR (M9.out.bel hb10)
            have Fs10 := hidR (Fs9.out.below hb10)
            have O10 := hidR (O9.out.bel hb10)
            have B10 := hidR (B9.out.trans (hb10.mono B9.out.size))
            have C10 := hidR (C9.out.bel hb10)
            have F10 := hidR (F9.out.below hb10)
            have Fr10 := hidR (Fr9.out.below hb10)
            clear hb10 x0 x1 x2 x3 x4 x5 s0 s1 s2 s3 y0 y1 y2 y3
            clear S9 M9 Fs9 O9 B9 C9 F9 Fr9
            obtain ⟨⟨x0, x1, x2, x3, x4, x5⟩, _, _⟩ := C10.out.facts
            obtain ⟨⟨s0, s1, s2, s3⟩, z, _⟩ := S10.out.facts
            have y0 := z 0
            have y1 := z 1
            have y2 := z 2
            have y3 := z 3
            clear z
            go_upto_region 23 with fail
            refine lift_tb S10.out ?_
            intro wt hSt htt
            have St := hidR (show TB wt w.heap.size a4 R.fs.length c4 R.nx cp sg by rw [← HCR.out, ← HGR.out]; exact hSt)
            have Mt := hidR (show TB wt (w.heap.size + 1) a6 R.fs.length c6 R.nx cp sg by rw [← HCR.out, ← HGR.out]; exact M10.out.turned htt (by omega))
            have Ft := hidR (F10.out.turnT S10.out htt)
            have Frt := hidR (Fr10.out.turnT S10.out htt)
            have Ot := hidR (O10.out.turnT S10.out htt)
            have Bt := hidR (B10.out.trans (htt.below (Nat.le_refl _)))
            clear hSt htt
            go_wp2_with fail
            go_roundw
            case rel => exact ⟨k + 1, a4, c4, a6, c6, R.fs, R.nx, by go_num, by omega, St.out, Mt.out, Ft.out, Frt.out, HC4.out, HC6.out, (by rw [← HCR.out, ← HGR.out]; exact VR.out), FR.out, Ot.out, Bt.out⟩
            case measure => (simp [intOf]; omega)
      have hkd3 := hkd
      clear hkd
      have b1 : (x.kind == 1) = false := by simpa using hkd1
      have b2 : (x.kind == 2) = false := by simpa using hkd2
      have b3 : (x.kind == 3) = false := by simpa using hkd3
      go_wp2_with fail
      go_roundw
      case rel => exact ⟨k + 1, sa', sc', ma, mc, fs, nx, by go_num, by omega, S3.out, M3.out, Fs3.out, Fm3.out, HCS.out, HCM.out, VV.out, FK.out, O3.out, B3.out⟩
      case measure => (simp [intOf]; omega)
    · have z1 : ¬ (k : Int) < (N.length : Int) := by omega
      obtain ⟨⟨s0, s1, s2, s3⟩, _, _⟩ := S.out.facts
      obtain ⟨⟨m0, m1, m2, m3⟩, _, _⟩ := M.out.facts
      go_wp2_with fail
      refine (sameStore_two rfl rfl rfl rfl Fs.out Fm.out hl (fun f hf => (FK.out f hf).1.2.1)).mono ?_
      rintro e w' ⟨rfl, hb'⟩
      go_wp2_with fail
      go_ret
      exact ⟨rfl, B.out.trans (hb'.mono B.out.size)⟩
end Go.Proofs.Ytgamdkokmkagaaa
