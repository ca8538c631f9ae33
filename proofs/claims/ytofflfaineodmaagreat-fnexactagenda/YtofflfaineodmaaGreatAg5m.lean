/-
  OUR OWN TEXT. The program: heap.down over the agenda (written by genag5.py).
-/
import Derived.Test.YtofflfaineodmaaGreatAg4m
namespace Go.Proofs.YtofflfaineodmaaGreat
open Go.RowKit
attribute [local go_sem ↓] Go.wp_at_zero Go.wp_at_succ

theorem par_kids {k i : Nat} (h0 : 0 < k) (h : par k = i) : k = 2 * i + 1 ∨ k = 2 * i + 2 := by unfold par at h; omega
theorem gn_far {L : List EnX} {i j k : Nat} {x y : EnX} (hi : L[i]? = some x) (hj : L[j]? = some y) (e1 : k ≠ i) (e2 : k ≠ j) : gn (swapL L i j x y) k = gn L k := by
  rw [gn_swap hi hj]
  unfold swapF
  rw [if_neg e1, if_neg e2]
set_option maxRecDepth 100000 in
set_option maxHeartbeats 6400000 in
theorem down_any (rs : List Ru) (L0 : List EnX) (a : Option Addr) (c base lb n : Nat) (w : World) (h : AgO rs w base a c L0) (hbx : w.heap[lb]? = some (.cells #[.slice a L0.length c] 62 (0, 0))) (hu : DownF (befI rs) (fn L0) n 0) (hn : n < L0.length) (hl : L0.length ≤ 1048576) :
    Calls Tryz.prog 74 #[agI lb, .int .i64 0, .int .i64 (n : Int)] w fun e w' => (∃ v, e = .returned v) ∧ ∃ L, AgO rs w' base a c L ∧ L.Perm L0 ∧ HeapF (befI rs) (fn L) n ∧ gn L n = gn L0 n ∧ MkO (Value.slice a L0.length c).ownBlock w w' := by
  unfold agI
  have HS := hidA (bef_strict rs)
  have H0 := hidA h
  have HU := hidA hu
  have HBX := hidA hbx
  clear h hu hbx
  go_enter Tryz.func74, Tryz.ntmps74
  go_wp2_with fail
  go_loopw [7] (fun iv wr => ∃ (i : Nat) (L : List EnX), iv = .int .i64 (i : Int) ∧ (i < n ∨ i = 0) ∧ L.Perm L0 ∧ AgO rs wr base a c L ∧ DownF (befI rs) (fn L) n i ∧ gn L n = gn L0 n ∧ MkO (Value.slice a L0.length c).ownBlock w wr) (fun iv _ => n - (intOf iv).toNat)
  case atStart => exact ⟨0, L0, rfl, .inr rfl, List.Perm.refl _, H0.out, HU.out, rfl, MkO.refl _ _⟩
  case round =>
    obtain ⟨i, L, rfl, hin, hp, hA, hU, hg, hm⟩ := hrel
    have HP := hidA hp
    have AA := hidA hA
    have UU := hidA hU
    have GG := hidA hg
    have MM := hidA hm
    have hbr := box_mko H0.out rfl HBX.out hm
    have HBR := hidA hbr
    have hLl := hp.length_eq
    have HLL := hidA hLl
    have y0 : (0 : Int) ≤ (i : Int) := by omega
    have y1 : (i : Int) < 1048577 := by omega
    clear hp hA hU hm hg
    by_cases hj1 : 2 * i + 1 < n
    · obtain ⟨j1, ej1⟩ : ∃ j, j = 2 * i + 1 := ⟨_, rfl⟩
      obtain ⟨j2, ej2⟩ : ∃ j, j = j1 + 1 := ⟨_, rfl⟩
      have HV1 := hidA (show (j1 : Int) = 2 * (i : Int) + 1 by omega)
      have HV2 := hidA (show (j2 : Int) = 2 * (i : Int) + 1 + 1 by omega)
      have b1 : ¬ (n : Int) ≤ 2 * (i : Int) + 1 := by omega
      have b2 : ¬ 2 * (i : Int) + 1 < 0 := by omega
      obtain ⟨xi, hxi⟩ : ∃ x, L[i]? = some x := ⟨L[i]'(by omega), by simp⟩
      obtain ⟨x1, hx1⟩ : ∃ x, L[j1]? = some x := ⟨L[j1]'(by omega), by simp⟩
      have HXI := hidA hxi
      have HX1 := hidA hx1
      by_cases hj2 : j2 < n
      · obtain ⟨x2, hx2⟩ : ∃ x, L[j2]? = some x := ⟨L[j2]'(by omega), by simp⟩
        have HX2 := hidA hx2
        have b3 : 2 * (i : Int) + 1 + 1 < (n : Int) := by omega
        have hmL := methLess hbr
        have HL := hidA (agLess_any rs L a c base j2 j1 x2 x1 wr AA.out hx2 hx1)
        rw [hLl, HV1.out, HV2.out] at HL
        have EJ1 := hidA ej1
        have EJ2 := hidA ej2
        have HJ2 := hidA hj2
        cases hb : befI rs x2.1 x1.1
        · rw [hb] at HL
          have HMIN := hidA (show ∀ k, k < n → 0 < k → par k = i → befI rs (fn L k) (fn L j1) = false from fun k _ h0 hk => by
            rcases par_kids h0 hk with e | e
            · rw [show k = j1 by omega]
              exact HS.out.irr _
            · rw [show k = j2 by omega, fn_at HX2.out, fn_at HX1.out]
              exact hb)
          clear hxi hx1 hx2 hb hbr hLl ej1 ej2 hj2
          go_wp2_with fail
          refine HL.out.mono ?_
          rintro e w1 ⟨rfl, hb1⟩
          have A1 := hidA (AA.out.bel hb1)
          have M1 := hidA (MM.out.trans (MkO.of_below hb1))
          have hbr1 := (hb1.block _ (lt_of_block' HBR.out)).trans HBR.out
          clear hb1 HL hmL
          have hmL1 := methLess hbr1
          have HL1 := hidA (agLess_any rs L a c base j1 i x1 xi w1 A1.out HX1.out HXI.out)
          rw [HLL.out, HV1.out] at HL1
          cases hb' : befI rs x1.1 xi.1
          · rw [hb'] at HL1
            have HD := hidA (UU.out.done (fun k hk h0 hpk => by
              have e1 := HMIN.out k hk h0 hpk
              have e2 : befI rs (fn L j1) (fn L i) = false := by rw [fn_at HX1.out, fn_at HXI.out]; exact hb'
              exact HS.out.le_trans e2 e1))
            clear hb' hbr1
            go_wp2_with fail
            refine HL1.out.mono ?_
            rintro e w2 ⟨rfl, hb2⟩
            have A2 := hidA (A1.out.bel hb2)
            have M2 := hidA (M1.out.trans (MkO.of_below hb2))
            clear hb2 HL1 hmL1
            go_wp2_with fail
            go_ret
            exact ⟨⟨_, rfl⟩, L, A2.out, HP.out, HD.out, GG.out, M2.out⟩
          · rw [hb'] at HL1
            have HD := hidA (UU.out.step HS.out (j := j1) (by have := EJ1.out; have := EJ2.out; have := HJ2.out; omega) (by have := EJ1.out; have := EJ2.out; omega) (by have := EJ1.out; have := EJ2.out; unfold par; omega) HMIN.out (by rw [fn_at HX1.out, fn_at HXI.out]; exact hb'))
            clear hb'
            go_wp2_with fail
            refine HL1.out.mono ?_
            rintro e w2 ⟨rfl, hb2⟩
            have A2 := hidA (A1.out.bel hb2)
            have M2 := hidA (M1.out.trans (MkO.of_below hb2))
            have hmS := methSwap ((hb2.block _ (lt_of_block' hbr1)).trans hbr1)
            have HSW := hidA (agSwap_any rs L a c base i j1 xi x1 w2 A2.out HXI.out HX1.out)
            rw [HLL.out, HV1.out] at HSW
            clear hb2 HL1 hmL1 hbr1
            go_wp2_with fail
            refine HSW.out.mono ?_
            rintro e w3 ⟨⟨v3, rfl⟩, hA3, hm3⟩
            have M3 := hidA (M2.out.trans hm3)
            have A3 := hidA hA3
            have P3 := hidA ((swapL_perm HXI.out HX1.out).trans HP.out)
            have U3 := hidA (show DownF (befI rs) (fn (swapL L i j1 xi x1)) n j1 by rw [fn_swap HXI.out HX1.out]; exact HD.out)
            have G3 := hidA (show gn (swapL L i j1 xi x1) n = gn L0 n by rw [gn_far HXI.out HX1.out (by have := EJ1.out; have := EJ2.out; have := HJ2.out; omega) (by have := EJ1.out; have := EJ2.out; have := HJ2.out; omega)]; exact GG.out)
            clear hA3 hm3 HSW hmS
            go_wp2_with fail
            go_roundw
            case rel => exact ⟨j1, swapL L i j1 xi x1, by rw [HV1.out], .inl (by have := EJ1.out; have := EJ2.out; have := HJ2.out; omega), P3.out, A3.out, U3.out, G3.out, M3.out⟩
            case measure => (simp [intOf]; omega)
        · rw [hb] at HL
          have HMIN := hidA (show ∀ k, k < n → 0 < k → par k = i → befI rs (fn L k) (fn L j2) = false from fun k _ h0 hk => by
            rcases par_kids h0 hk with e | e
            · rw [show k = j1 by omega, fn_at HX2.out, fn_at HX1.out]
              exact HS.out.asym _ _ hb
            · rw [show k = j2 by omega]
              exact HS.out.irr _)
          clear hxi hx1 hx2 hb hbr hLl ej1 ej2 hj2
          go_wp2_with fail
          refine HL.out.mono ?_
          rintro e w1 ⟨rfl, hb1⟩
          have A1 := hidA (AA.out.bel hb1)
          have M1 := hidA (MM.out.trans (MkO.of_below hb1))
          have hbr1 := (hb1.block _ (lt_of_block' HBR.out)).trans HBR.out
          clear hb1 HL hmL
          have hmL1 := methLess hbr1
          have HL1 := hidA (agLess_any rs L a c base j2 i x2 xi w1 A1.out HX2.out HXI.out)
          rw [HLL.out, HV2.out] at HL1
          cases hb' : befI rs x2.1 xi.1
          · rw [hb'] at HL1
            have HD := hidA (UU.out.done (fun k hk h0 hpk => by
              have e1 := HMIN.out k hk h0 hpk
              have e2 : befI rs (fn L j2) (fn L i) = false := by rw [fn_at HX2.out, fn_at HXI.out]; exact hb'
              exact HS.out.le_trans e2 e1))
            clear hb' hbr1
            go_wp2_with fail
            refine HL1.out.mono ?_
            rintro e w2 ⟨rfl, hb2⟩
            have A2 := hidA (A1.out.bel hb2)
            have M2 := hidA (M1.out.trans (MkO.of_below hb2))
            clear hb2 HL1 hmL1
            go_wp2_with fail
            go_ret
            exact ⟨⟨_, rfl⟩, L, A2.out, HP.out, HD.out, GG.out, M2.out⟩
          · rw [hb'] at HL1
            have HD := hidA (UU.out.step HS.out (j := j2) (by have := EJ1.out; have := EJ2.out; have := HJ2.out; omega) (by have := EJ1.out; have := EJ2.out; omega) (by have := EJ1.out; have := EJ2.out; unfold par; omega) HMIN.out (by rw [fn_at HX2.out, fn_at HXI.out]; exact hb'))
            clear hb'
            go_wp2_with fail
            refine HL1.out.mono ?_
            rintro e w2 ⟨rfl, hb2⟩
            have A2 := hidA (A1.out.bel hb2)
            have M2 := hidA (M1.out.trans (MkO.of_below hb2))
            have hmS := methSwap ((hb2.block _ (lt_of_block' hbr1)).trans hbr1)
            have HSW := hidA (agSwap_any rs L a c base i j2 xi x2 w2 A2.out HXI.out HX2.out)
            rw [HLL.out, HV2.out] at HSW
            clear hb2 HL1 hmL1 hbr1
            go_wp2_with fail
            refine HSW.out.mono ?_
            rintro e w3 ⟨⟨v3, rfl⟩, hA3, hm3⟩
            have M3 := hidA (M2.out.trans hm3)
            have A3 := hidA hA3
            have P3 := hidA ((swapL_perm HXI.out HX2.out).trans HP.out)
            have U3 := hidA (show DownF (befI rs) (fn (swapL L i j2 xi x2)) n j2 by rw [fn_swap HXI.out HX2.out]; exact HD.out)
            have G3 := hidA (show gn (swapL L i j2 xi x2) n = gn L0 n by rw [gn_far HXI.out HX2.out (by have := EJ1.out; have := EJ2.out; have := HJ2.out; omega) (by have := EJ1.out; have := EJ2.out; have := HJ2.out; omega)]; exact GG.out)
            clear hA3 hm3 HSW hmS
            go_wp2_with fail
            go_roundw
            case rel => exact ⟨j2, swapL L i j2 xi x2, by rw [HV2.out], .inl (by have := EJ1.out; have := EJ2.out; have := HJ2.out; omega), P3.out, A3.out, U3.out, G3.out, M3.out⟩
            case measure => (simp [intOf]; omega)
      · have b3 : ¬ 2 * (i : Int) + 1 + 1 < (n : Int) := by omega
        have HMIN := hidA (show ∀ k, k < n → 0 < k → par k = i → befI rs (fn L k) (fn L j1) = false from fun k hk h0 hpk => by
          rcases par_kids h0 hpk with e | e
          · rw [show k = j1 by omega]
            exact HS.out.irr _
          · exact absurd hk (by omega))
        obtain ⟨w1, hw1e⟩ : ∃ v, v = wr := ⟨wr, rfl⟩
        rw [← hw1e] at AA MM HBR ⊢
        have A1 := hidA AA.out
        have M1 := hidA MM.out
        have hbr1 := HBR.out
        have EJ1 := hidA ej1
        have EJ2 := hidA ej2
        have HJ2 := hidA hj2
        clear hw1e hxi hx1 hbr hLl AA MM ej1 ej2 hj2
        have hmL1 := methLess hbr1
        have HL1 := hidA (agLess_any rs L a c base j1 i x1 xi w1 A1.out HX1.out HXI.out)
        rw [HLL.out, HV1.out] at HL1
        cases hb' : befI rs x1.1 xi.1
        · rw [hb'] at HL1
          have HD := hidA (UU.out.done (fun k hk h0 hpk => by
            have e1 := HMIN.out k hk h0 hpk
            have e2 : befI rs (fn L j1) (fn L i) = false := by rw [fn_at HX1.out, fn_at HXI.out]; exact hb'
            exact HS.out.le_trans e2 e1))
          clear hb' hbr1
          go_wp2_with fail
          refine HL1.out.mono ?_
          rintro e w2 ⟨rfl, hb2⟩
          have A2 := hidA (A1.out.bel hb2)
          have M2 := hidA (M1.out.trans (MkO.of_below hb2))
          clear hb2 HL1 hmL1
          go_wp2_with fail
          go_ret
          exact ⟨⟨_, rfl⟩, L, A2.out, HP.out, HD.out, GG.out, M2.out⟩
        · rw [hb'] at HL1
          have HD := hidA (UU.out.step HS.out (j := j1) (by have := EJ1.out; have := EJ2.out; have := HJ2.out; omega) (by have := EJ1.out; have := EJ2.out; omega) (by have := EJ1.out; have := EJ2.out; unfold par; omega) HMIN.out (by rw [fn_at HX1.out, fn_at HXI.out]; exact hb'))
          clear hb'
          go_wp2_with fail
          refine HL1.out.mono ?_
          rintro e w2 ⟨rfl, hb2⟩
          have A2 := hidA (A1.out.bel hb2)
          have M2 := hidA (M1.out.trans (MkO.of_below hb2))
          have hmS := methSwap ((hb2.block _ (lt_of_block' hbr1)).trans hbr1)
          have HSW := hidA (agSwap_any rs L a c base i j1 xi x1 w2 A2.out HXI.out HX1.out)
          rw [HLL.out, HV1.out] at HSW
          clear hb2 HL1 hmL1 hbr1
          go_wp2_with fail
          refine HSW.out.mono ?_
          rintro e w3 ⟨⟨v3, rfl⟩, hA3, hm3⟩
          have M3 := hidA (M2.out.trans hm3)
          have A3 := hidA hA3
          have P3 := hidA ((swapL_perm HXI.out HX1.out).trans HP.out)
          have U3 := hidA (show DownF (befI rs) (fn (swapL L i j1 xi x1)) n j1 by rw [fn_swap HXI.out HX1.out]; exact HD.out)
          have G3 := hidA (show gn (swapL L i j1 xi x1) n = gn L0 n by rw [gn_far HXI.out HX1.out (by have := EJ1.out; have := EJ2.out; have := HJ2.out; omega) (by have := EJ1.out; have := EJ2.out; have := HJ2.out; omega)]; exact GG.out)
          clear hA3 hm3 HSW hmS
          go_wp2_with fail
          go_roundw
          case rel => exact ⟨j1, swapL L i j1 xi x1, by rw [HV1.out], .inl (by have := EJ1.out; have := EJ2.out; have := HJ2.out; omega), P3.out, A3.out, U3.out, G3.out, M3.out⟩
          case measure => (simp [intOf]; omega)
    · have b1 : (n : Int) ≤ 2 * (i : Int) + 1 := by omega
      have HD := hidA (UU.out.done (fun k hk h0 hpk => by rcases par_kids h0 hpk with e | e <;> exact absurd hk (by omega)))
      go_wp2_with fail
      go_ret
      exact ⟨⟨_, rfl⟩, L, AA.out, HP.out, HD.out, GG.out, MM.out⟩
end Go.Proofs.YtofflfaineodmaaGreat
