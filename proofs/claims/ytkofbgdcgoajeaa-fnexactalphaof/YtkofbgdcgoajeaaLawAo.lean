/-
  OUR OWN TEXT. The law FnExactAlphaOf, out of the contracts.
-/
import Derived.Test.YtkofbgdcgoajeaaSzR
import Derived.Test.YtkofbgdcgoajeaaEqR
import Derived.Test.YtkofbgdcgoajeaaEqA
import Derived.Test.YtkofbgdcgoajeaaMo2
import Derived.Test.YtkofbgdcgoajeaaAo3
import Derived.Test.YtkofbgdcgoajeaaAo4
import Derived.Test.YtkofbgdcgoajeaaBx
namespace Go.Proofs.Ytkofbgdcgoajeaa
open Go.RowKit
attribute [local go_sem ↓] Go.wp_at_zero Go.wp_at_succ

theorem C3.mko {w w' : World} {ob : Option Nat} {b : Nat} {x0 x1 x2 : Value} (h : C3 w b x0 x1 x2) (hm : MkO ob w w') (hne : ob ≠ some b) : C3 w' b x0 x1 x2 := by
  have hk := hm.block b h.lt hne
  obtain ⟨h0, h1, h2, g0, g1, g2⟩ := h
  refine ⟨?_, ?_, ?_, ?_, ?_, ?_⟩ <;> simp only [World.cell?, World.frozen?, hk] <;> assumption
theorem own_mko {w w' : World} {ob : Option Nat} {base : Nat} {t : TypeId} {m : Nat} {v : Value} {n : Nat} {xs : List Value} (h : w.ownsRow base t m v n xs) (hm : MkO ob w w') (hne : ∀ g, v.ownBlock = some g → ob ≠ some g) : w'.ownsRow base t m v n xs :=
  owns_of_block h (fun g hg => hm.block g (h.lt g hg).2 (hne g hg))
theorem testOf_le {ts : List Tm} {N : Nat} {i : Nat} {t : Tm} {x : Tt} (ht : t.le N) (h : testOf ts i t = some x) : x.le N := by
  unfold testOf at h
  split at h
  · cases h
  · split at h
    · injection h with h
      subst h
      exact ht.2
    · split at h
      · cases h
      · injection h with h
        subst h
        exact Nat.zero_le _
theorem tests_le {ts : List Tm} {N : Nat} (hs : ∀ t ∈ ts, t.le N) : ∀ k, ∀ x ∈ testsUpTo ts k, x.le N
  | 0, x, hx => by simp [testsUpTo] at hx
  | k + 1, x, hx => by
    unfold testsUpTo at hx
    rcases List.mem_append.1 hx with h | h
    · exact tests_le hs k x h
    · cases ht : ts[k]? with
      | none => rw [ht] at h; simp at h
      | some t =>
        rw [ht] at h
        cases hx2 : testOf ts k t with
        | none => simp [hx2] at h
        | some y =>
          simp [hx2] at h
          subst h
          exact testOf_le (hs t (List.mem_of_getElem? ht)) hx2
theorem alphaOf_le {p : Pt} (h : p.le 1048576) : (alphaOf p).le 1048576 ∧ (alphaOf p).tests.length ≤ 6 := by
  unfold alphaOf
  split
  · rename_i hg
    have h6 := gPt_six hg
    have hl := tests_len p.terms p.terms.length
    exact ⟨⟨h.1, by simp only; omega, tests_le h.2.2 _⟩, by simp only; omega⟩
  · exact ⟨⟨Nat.zero_le _, Nat.zero_le _, fun x hx => by simp at hx⟩, Nat.zero_le _⟩

set_option maxHeartbeats 3200000 in
theorem law_ao (p : Pt) (a_terms : Option Addr) (c_terms : Nat) (w : World) (h_terms : TmsAt none w a_terms p.terms) (hx : p.le maxLen) :
    Calls Try.prog 8 #[.agg #[.bool p.neg, .string p.cls, .slice a_terms p.terms.length c_terms]] w fun e w' => e = .returned (.bool true) ∧ Below w.heap.size w w' := by
  have B0 : ∀ o, Below w.heap.size w (w.alloc o) := fun o => (Below.refl _ _).alloc (Nat.le_refl _) _
  go_enter Try.func8, Try.ntmps8
  go_wp2_with (go_at_call 35; refine (szPattern_any p a_terms c_terms 1048576 _ (h_terms.below (B0 _)) hx (by omega) (by omega)).mono ?_; rintro e w1 ⟨⟨r1, rfl, hr1⟩, hb1⟩; have hp1 := (C3.made w 62 (.bool p.neg) (.string p.cls) (.slice a_terms p.terms.length c_terms)).below hb1; obtain ⟨p0, p1, p2, _, _, _⟩ := id hp1; have hB1 : Below w.heap.size w w1 := (B0 _).trans (hb1.mono (by simp)))
  · go_ret
    exact ⟨rfl, hB1⟩
  · have hle : p.le 1048576 := Pt.le_sz _ _ (by rcases hr1 with h | ⟨_, h⟩ <;> omega)
    obtain ⟨hAle, hA6⟩ := alphaOf_le hle
    have hcl : p.cls.size ≤ maxLen := Nat.le_trans hle.1 mega_le
    have htl : ListLe Tm.le maxLen p.terms := hle.2.mono mega_le (Tm.mono mega_le)
    have htn : p.terms.length ≤ 1048576 := hle.2.1
    clear hr1 hx hb1
    obtain ⟨A, hA⟩ : ∃ A, A = alphaOf p := ⟨_, rfl⟩
    have hSA := hidO (fun w' {g : Nat} (h : TmsAt (some w1.heap.size) w' (some ⟨g, 0, none⟩) p.terms) => sAlphaOf_any p (some ⟨g, 0, none⟩) p.terms.length w' h hcl htl htn)
    have hIA := hidO (fun w' (B g : Nat) (h : TmsAt (some B) w' (some ⟨g, 0, none⟩) p.terms) => iAlphaOf_any p (some ⟨g, 0, none⟩) p.terms.length w' h hcl htl htn (Nat.le_refl _))
    rw [← hA] at hSA hIA hAle hA6
    clear hA
    refine (toPattern_len p a_terms c_terms w1 (h_terms.below hB1) hle).mono ?_
    rintro e w2 ⟨⟨g2, hg2, rfl, ho2⟩, hb2⟩
    have hB2 : Below w.heap.size w w2 := hB1.trans (hb2.mono hB1.size)
    go_wp2_with fail
    refine (hSA.out _ ho2).mono ?_
    rintro e w3 ⟨⟨a3, c3, rfl, ow3⟩, hb3⟩
    have hB3 : Below w.heap.size w w3 := hB2.trans (hb3.mono hB2.size)
    have hp3 := (hp1.below hb2).below hb3
    have A3 : ∀ o, Below w3.heap.size w3 (w3.alloc o) := fun o => (Below.refl _ _).alloc (Nat.le_refl _) _
    have q0 := fun o => cell_below (A3 o) hp3.1
    have q1 := fun o => cell_below (A3 o) hp3.2.1
    have q2 := fun o => cell_below (A3 o) hp3.2.2.1
    clear p0 p1 p2 hb2 hb3 ho2 hSA
    go_wp2_with fail
    have hb4b : Below w.heap.size w (w3.alloc (.cells #[.string A.cls, .int .i64 A.arity, .slice a3 A.tests.length c3] 66)) := hB3.alloc hB3.size _
    have k4 := C3.made w3 66 (.string A.cls) (.int .i64 A.arity) (.slice a3 A.tests.length c3)
    have K4 := hidO k4
    have OW3 := hidO (ao_own ow3 (A3 (.cells #[.string A.cls, .int .i64 A.arity, .slice a3 A.tests.length c3] 66)))
    have HP3 := hidO (hp3.below (A3 (.cells #[.string A.cls, .int .i64 A.arity, .slice a3 A.tests.length c3] 66)))
    have hl3 : ∀ g, (Value.slice a3 A.tests.length c3).ownBlock = some g → w2.heap.size ≤ g ∧ g < w3.heap.size := fun g hg => ow3.lt g hg
    have HL3 := hidO hl3
    have s23 := hB3.size
    have sp3 := hp3.lt
    clear q0 q1 q2 k4 ow3 hp3 hp1 hl3
    refine (toPattern_len p a_terms c_terms _ (h_terms.below hb4b) hle).mono ?_
    rintro e w5 ⟨⟨g5, hg5, rfl, ho5⟩, hb5⟩
    have hg5' : w3.heap.size < g5 := by simp at hg5; omega
    have hB5 : Below w.heap.size w w5 := hb4b.trans (hb5.mono hb4b.size)
    have s5 : w3.heap.size < w5.heap.size := by have := hb5.size; simp at this; omega
    have OW5 := hidO (ao_own OW3.out hb5)
    have K5 := hidO (K4.out.below hb5)
    have HP5 := hidO (HP3.out.below hb5)
    have A5 : ∀ o, Below w5.heap.size w5 (w5.alloc o) := fun o => (Below.refl _ _).alloc (Nat.le_refl _) _
    have HT5 := hidO ho5
    have hg5l : 0 < p.terms.length → g5 < w5.heap.size := fun h => (TmsAt.room ho5 h).2.2 (by omega)
    clear hb5 ho5 OW3 K4 HP3 hg5 hb4b
    go_wp2_with fail
    have HT5b := hidO (HT5.out.below (A5 (.cells #[.bool p.neg, .string p.cls, .slice (some ⟨g5, 0, none⟩) p.terms.length p.terms.length] 70)))
    have X5 := hidO (C3.made w5 70 (.bool p.neg) (.string p.cls) (.slice (some ⟨g5, 0, none⟩) p.terms.length p.terms.length))
    refine (hIA.out _ _ _ HT5b.out).mono ?_
    rintro e w6 ⟨⟨a6, c6, rfl, ow6⟩, hb6⟩
    have hb56 : Below w5.heap.size w5 w6 := (A5 _).trans (hb6.mono (by simp))
    have s6 : w5.heap.size < w6.heap.size := by have := hb6.size; simp at this; omega
    have hB6 : Below w.heap.size w w6 := hB5.trans (hb56.mono hB5.size)
    have hl6 : ∀ g, (Value.slice a6 A.tests.length c6).ownBlock = some g → w5.heap.size + 1 ≤ g ∧ g < w6.heap.size := fun g hg => by have := ow6.lt g hg; simp at this; exact this
    have HL6 := hidO hl6
    have A6 : ∀ o, Below w6.heap.size w6 (w6.alloc o) := fun o => (Below.refl _ _).alloc (Nat.le_refl _) _
    have k6 := K5.out.below hb56
    have r40 := fun o => cell_below (A6 o) k6.1
    have r41 := fun o => cell_below (A6 o) k6.2.1
    have r42 := fun o => cell_below (A6 o) k6.2.2.1
    have K6 := hidO k6
    have OW6 := hidO ow6
    have OW36 := hidO (ao_own OW5.out hb56)
    have X6 := hidO (X5.out.below hb6)
    have HP6 := hidO (HP5.out.below hb56)
    have HT6 := hidO (HT5b.out.below hb6)
    clear hb6 hb56 k6 ow6 hl6 OW5 K5 HP5 X5 HT5 HT5b hB5
    go_wp2_with fail
    refine (eqAlpha_same A a6 a3 c6 c3 _ ((TtsAt.owns OW6.out).below (A6 _)) ((TtsAt.owns OW36.out).below (A6 _)) hAle).mono ?_
    rintro e w7 ⟨rfl, hb7⟩
    have hb67 : Below w6.heap.size w6 w7 := (A6 _).trans (hb7.mono (by simp))
    have G7 := hidO ((C3.made w6 66 (.string A.cls) (.int .i64 A.arity) (.slice a6 A.tests.length c6)).below hb7)
    have hB7 : Below w.heap.size w w7 := hB6.trans (hb67.mono hB6.size)
    have K7 := hidO (K6.out.below hb67)
    have OW7 := hidO (ao_own OW6.out hb67)
    have OW37 := hidO (ao_own OW36.out hb67)
    have x7 := X6.out.below hb67
    have hp7 := HP6.out.below hb67
    have X7 := hidO x7
    have HP7 := hidO hp7
    have HT7 := hidO (HT6.out.below hb67)
    have s7 := hb67.size
    obtain ⟨x0, x1, x2, _, _, _⟩ := x7
    obtain ⟨p0, p1, p2, _, _, _⟩ := hp7
    clear r40 r41 r42 hb7 hb67 K6 OW6 OW36 X6 HP6 HT6 hB6 A3 A5 A6
    go_wp2_with fail
    have hB7d : Below w.heap.size w w7.drew := hB7.drew
    have hD7 : Below w7.heap.size w7 w7.drew := (Below.refl _ _).drew
    first
    | (go_region_held3 (fun w' => w'.cell? ⟨w5.heap.size, 0, none⟩ = some (.bool p.neg) ∧ w'.cell? ⟨w5.heap.size, 1, none⟩ = some (.string p.cls) ∧ w'.cell? ⟨w5.heap.size, 2, none⟩ = some (.slice (some ⟨g5, 0, none⟩) p.terms.length p.terms.length) ∧ w'.cell? ⟨w.heap.size, 0, none⟩ = some (.bool p.neg) ∧ w'.cell? ⟨w.heap.size, 1, none⟩ = some (.string p.cls) ∧ w'.cell? ⟨w.heap.size, 2, none⟩ = some (.slice a_terms p.terms.length c_terms)) ((go_split_ands; refine ⟨?_, ?_, ?_, ?_, ?_, ?_⟩ <;> first | (simp [*]; done) | exact cell_below hb8 (by assumption) | exact cell_below hb9 (by assumption)))
        (first
         | (go_at_call 37; refine (toPattern_len p a_terms c_terms _ (h_terms.below hB7d) hle).mono ?_; rintro e w8 ⟨⟨g8, hg8, rfl, ho8⟩, hb8⟩)
         | (go_at_call 40; refine (eqPattern_same p (some ⟨g5, 0, none⟩) (some ⟨g8, 0, none⟩) p.terms.length p.terms.length _ ((HT7.out.below hD7).below hb8) ho8 hle).mono ?_; rintro e w9 ⟨rfl, hb9⟩)
         | fail))
    | fail
    rename_i hHld
    obtain ⟨y0, y1, y2, z0, z1, z2⟩ := hHld
    have hb79 : Below w7.heap.size w7 w9 := (hD7.trans (hb8.mono (by simp))).trans (hb9.mono (by have := hb8.size; simp at this ⊢; omega))
    have hB9 : Below w.heap.size w w9 := hB7.trans (hb79.mono hB7.size)
    have G9 := hidO (G7.out.below hb79)
    have K9 := hidO (K7.out.below hb79)
    have X9 := hidO (X7.out.below hb79)
    have HP9 := hidO (HP7.out.below hb79)
    have OW9 := hidO (ao_own OW7.out hb79)
    have OW39 := hidO (ao_own OW37.out hb79)
    have HT9 := hidO (HT7.out.below hb79)
    have s9 := hb79.size
    clear x0 x1 x2 p0 p1 p2 hb8 hb9 ho8 hg8 hb79 hD7 hB7d hB7 G7 K7 X7 HP7 OW7 OW37 HT7
    go_wp2_with fail
    obtain ⟨ob, hob0, hob⟩ : ∃ ob : Option Nat, (0 < p.terms.length → ob = some g5) ∧ ∀ g, ob = some g → g = g5 ∧ w3.heap.size < g ∧ g < w5.heap.size := by
      by_cases hn : 0 < p.terms.length
      · exact ⟨some g5, fun _ => rfl, fun g h => by injection h with h; subst h; exact ⟨rfl, hg5', hg5l hn⟩⟩
      · exact ⟨none, fun h => absurd h hn, fun g h => by cases h⟩
    refine (markPattern_any p ob g5 p.terms.length hob0 1 w9 (fun h => TmsAt.room HT9.out h) htn (by omega) (by omega)).mono ?_
    rintro e w10 ⟨rfl, hm10⟩
    have hB10 : Below w.heap.size w w10 := hB9.trans (hm10.below hB9.size (fun g h => by have := hob g h; omega))
    have s10 := hm10.rest.size
    have g10 := G9.out.mko hm10 (fun h => by have := hob _ h; omega)
    have k10 := K9.out.mko hm10 (fun h => by have := hob _ h; omega)
    have G10 := hidO g10
    have K10 := hidO k10
    have HP10 := hidO (HP9.out.mko hm10 (fun h => by have := hob _ h; omega))
    have OW10 := hidO (own_mko OW9.out hm10 (fun g hg h => by have := hob _ h; have := HL6.out g hg; omega))
    have OW310 := hidO (own_mko OW39.out hm10 (fun g hg h => by have := hob _ h; have := HL3.out g hg; omega))
    obtain ⟨v0, v1, v2, _, _, _⟩ := g10
    obtain ⟨u0, u1, u2, _, _, _⟩ := k10
    have n1 : ¬ 1 + 6 * (p.terms.length : Int) < 0 := by omega
    clear y0 y1 y2 z0 z1 z2 hm10 G9 K9 X9 HP9 OW9 OW39 HT9 hB9
    go_wp2_with fail
    refine (eqAlpha_same A a6 a3 c6 c3 _ (TtsAt.owns OW10.out) (TtsAt.owns OW310.out) hAle).mono ?_
    rintro e w11 ⟨rfl, hb11⟩
    have hB11 : Below w.heap.size w w11 := hB10.trans (hb11.mono hB10.size)
    have g11 := G10.out.below hb11
    have G11 := hidO g11
    have K11 := hidO (K10.out.below hb11)
    have HP11 := hidO (HP10.out.below hb11)
    have OW11 := hidO (ao_own OW10.out hb11)
    have OW311 := hidO (ao_own OW310.out hb11)
    have s11 := hb11.size
    obtain ⟨t0, t1, t2, _, _, _⟩ := g11
    clear v0 v1 v2 u0 u1 u2 n1 hb11 G10 K10 HP10 OW10 OW310 hB10
    go_wp2_with fail
    refine (markAlpha_any A a6 c6 _ 1 w11 OW11.out (by omega) (by omega) (by omega)).mono ?_
    rintro e w12 ⟨rfl, ow12, hm12⟩
    have hB12 : Below w.heap.size w w12 := hB11.trans (hm12.below hB11.size (fun g h => by have := HL6.out g h; omega))
    have g12 := G11.out.mko hm12 (fun h => by have := HL6.out _ h; omega)
    have G12 := hidO g12
    have K12 := hidO (K11.out.mko hm12 (fun h => by have := HL6.out _ h; omega))
    have HP12 := hidO (HP11.out.mko hm12 (fun h => by have := HL6.out _ h; omega))
    have OW312 := hidO (own_mko OW311.out hm12 (fun g hg h => by have := HL6.out _ h; have := HL3.out g hg; omega))
    have OWM := hidO ow12
    obtain ⟨v0, v1, v2, _, _, _⟩ := g12
    clear t0 t1 t2 hm12 ow12 G11 K11 HP11 OW11 OW311 hB11
    go_wp2_with fail
    refine (heldAlpha_any A.cls A.arity a6 c6 A.tests.length 1 w12 (TtsAt.owns OWM.out) (by omega) (by omega) (by omega)).mono ?_
    rintro e w13 ⟨rfl, hb13⟩
    have hB13 : Below w.heap.size w w13 := hB12.trans (hb13.mono hB12.size)
    have hp13 := HP12.out.below hb13
    have HP13 := hidO hp13
    have K13 := hidO (K12.out.below hb13)
    have OW313 := hidO (ao_own OW312.out hb13)
    obtain ⟨t0, t1, t2, _, _, _⟩ := hp13
    have n2 : ¬ 1 + 6 * (A.tests.length : Int) < 0 := by omega
    clear v0 v1 v2 hb13 G12 K12 HP12 OW312 OWM hB12
    go_wp2_with fail
    refine (toPattern_len p a_terms c_terms _ (h_terms.below hB13) hle).mono ?_
    rintro e w14 ⟨⟨g14, hg14, rfl, ho14⟩, hb14⟩
    have hB14 : Below w.heap.size w w14 := hB13.trans (hb14.mono hB13.size)
    go_wp2_with fail
    refine (hIA.out _ _ _ ho14).mono ?_
    rintro e w15 ⟨⟨a15, c15, rfl, ow15⟩, hb15⟩
    have hB15 : Below w.heap.size w w15 := hB14.trans (hb15.mono hB14.size)
    have k15 := (K13.out.below hb14).below hb15
    have OW315 := hidO (ao_own (ao_own OW313.out hb14) hb15)
    have A15 : ∀ o, Below w15.heap.size w15 (w15.alloc o) := fun o => (Below.refl _ _).alloc (Nat.le_refl _) _
    have r40 := fun o => cell_below (A15 o) k15.1
    have r41 := fun o => cell_below (A15 o) k15.2.1
    have r42 := fun o => cell_below (A15 o) k15.2.2.1
    have OW15 := hidO ow15
    clear t0 t1 t2 n2 hb14 hb15 ho14 hg14 k15 ow15 HP13 K13 OW313 hB13 hB14
    go_wp2_with fail
    refine (eqAlpha_same A a15 a3 c15 c3 _ ((TtsAt.owns OW15.out).below (A15 _)) ((TtsAt.owns OW315.out).below (A15 _)) hAle).mono ?_
    rintro e w16 ⟨rfl, hb16⟩
    have hB16 : Below w.heap.size w w16 := (hB15.trans ((A15 _).mono hB15.size)).trans (hb16.mono (by have := hB15.size; simp; omega))
    go_wp2_with fail
    go_ret
    exact ⟨rfl, hB16⟩
end Go.Proofs.Ytkofbgdcgoajeaa
