/-
  OUR OWN TEXT. The law FnExactAlphaPass, out of the contracts.
-/
import Derived.Test.YtkofbgdcgoajeaaSzA
import Derived.Test.YtkofbgdcgoajeaaToA
import Derived.Test.YtkofbgdcgoajeaaEqA
import Derived.Test.YtkofbgdcgoajeaaAp4
namespace Go.Proofs.Ytkofbgdcgoajeaa
open Go.RowKit
attribute [local go_sem ↓] Go.wp_at_zero Go.wp_at_succ

set_option maxHeartbeats 1600000 in
theorem law_ap (x : Al) (a_tests : Option Addr) (c_tests : Nat) (f : F) (a : Option Addr) (c : Nat) (w : World) (ht : TtsAt none w a_tests x.tests) (hv : ValsAt w a f.slots) (hx : x.le maxLen) (hc : f.cls.size ≤ maxLen) (hl : f.slots.length ≤ maxLen) (hs : ∀ v ∈ f.slots, v.sym.size ≤ maxLen) :
    Calls Try.prog 9 #[.agg #[.string x.cls, .int .i64 x.arity, .slice a_tests x.tests.length c_tests], .agg #[.int .i64 f.tag, .string f.cls, .slice a f.slots.length c]] w fun e w' => e = .returned (.bool true) ∧ Below w.heap.size w w' := by
  have B2 : ∀ o o1, Below w.heap.size w ((w.alloc o).alloc o1) := fun o o1 => ((Below.refl _ _).alloc (Nat.le_refl _) _).alloc (by simp) _
  go_enter Try.func9, Try.ntmps9
  go_wp2_with (go_at_call 44; refine (szAlpha_any x a_tests c_tests 1048576 _ (ht.below (B2 _ _)) hx (by omega) (by omega)).mono ?_; rintro e w1 ⟨⟨r1, rfl, hr1⟩, hb1⟩; have p0 : w1.cell? ⟨w.heap.size, 0, none⟩ = some (.string x.cls) := cell_below hb1 (by simp [go_sem]); have p1 : w1.cell? ⟨w.heap.size, 1, none⟩ = some (.int .i64 x.arity) := cell_below hb1 (by simp [go_sem]); have p2 : w1.cell? ⟨w.heap.size, 2, none⟩ = some (.slice a_tests x.tests.length c_tests) := cell_below hb1 (by simp [go_sem]); have f0 : w1.cell? ⟨w.heap.size + 1, 0, none⟩ = some (.int .i64 f.tag) := cell_below hb1 (by simp [go_sem]); have f1 : w1.cell? ⟨w.heap.size + 1, 1, none⟩ = some (.string f.cls) := cell_below hb1 (by simp [go_sem]); have f2 : w1.cell? ⟨w.heap.size + 1, 2, none⟩ = some (.slice a f.slots.length c) := cell_below hb1 (by simp [go_sem]); have hB1 : Below w.heap.size w w1 := (B2 _ _).trans (hb1.mono (by simp; omega)))
  · go_ret
    exact ⟨rfl, hB1⟩
  · refine (szFact_any f a c r1 _ (hv.below hB1) hc hl hs (by omega) (by rcases hr1 with h | ⟨_, h⟩ <;> omega)).mono ?_
    rintro e w2 ⟨⟨r2, rfl, hr2⟩, hb2⟩
    have hB2 : Below w.heap.size w w2 := hB1.trans (hb2.mono hB1.size)
    have p0' := cell_below hb2 p0
    have p1' := cell_below hb2 p1
    have p2' := cell_below hb2 p2
    have f0' := cell_below hb2 f0
    have f1' := cell_below hb2 f1
    have f2' := cell_below hb2 f2
    clear p0 p1 p2 f0 f1 f2
    go_wp2_with fail
    · go_ret
      exact ⟨rfl, hB2⟩
    · have hxx : x.le 1048576 := Al.le_sz _ _ (by rcases hr1 with h | ⟨_, h⟩ <;> omega)
      have hfl : f.slots.length ≤ 1048576 := by
        rcases hr2 with h | ⟨_, h⟩
        · omega
        · rcases hr1 with h1 | ⟨_, h1⟩
          · omega
          · unfold szF szVs at h
            omega
      have hB2d : Below w.heap.size w w2.drew := hB2.drew
      clear hr1 hr2 hs hl hc hx
      first
      | (go_region_held3 (fun w' => w'.cell? ⟨w.heap.size, 0, none⟩ = some (.string x.cls) ∧ w'.cell? ⟨w.heap.size, 1, none⟩ = some (.int .i64 x.arity) ∧ w'.cell? ⟨w.heap.size, 2, none⟩ = some (.slice a_tests x.tests.length c_tests) ∧ w'.cell? ⟨w.heap.size + 1, 0, none⟩ = some (.int .i64 f.tag) ∧ w'.cell? ⟨w.heap.size + 1, 1, none⟩ = some (.string f.cls) ∧ w'.cell? ⟨w.heap.size + 1, 2, none⟩ = some (.slice a f.slots.length c)) ((go_split_ands; refine ⟨?_, ?_, ?_, ?_, ?_, ?_⟩ <;> first | (simp [*]; done) | exact cell_below hb3 (by assumption) | exact cell_below hb4 (by assumption) | exact cell_below hb (by assumption)))
          (first
           | (go_at_call 47; refine (toAlpha_any x a_tests c_tests _ (ht.below hB2d) hxx).mono ?_; rintro e w3 ⟨⟨a3, c3, rfl, hat3⟩, hb3⟩; have hB3 : Below w.heap.size w w3 := hB2d.trans (hb3.mono hB2d.size))
           | (go_at_call 48; refine (toFact_any f a c _ (hv.below hB3) hfl).mono ?_; rintro e w4 ⟨⟨h4, hh4, rfl, ho4⟩, hb4⟩; have hB4 : Below w.heap.size w w4 := hB3.trans (hb4.mono hB3.size))
           | (go_at_call 46; refine (sPass_any x a3 c3 f (some ⟨h4, 0, none⟩) f.slots.length _ (hat3.below hb4) (ValsAt.own ho4) hxx.2.1).mono ?_; rintro e wq ⟨rfl, hb⟩; have hBq : Below w.heap.size w wq := hB4.trans (hb.mono hB4.size))
           | fail))
      | fail
      rename_i hHld
      obtain ⟨m0, m1, m2, n0, n1, n2⟩ := hHld
      clear p0' p1' p2' f0' f1' f2' hb ho4 hh4 hat3 hb4 hb3 hB4 hB3 hB2d hb2 hB2 hb1 hB1 B2
      go_wp2_with fail
      refine (toAlpha_any x a_tests c_tests _ (ht.below hBq) hxx).mono ?_
      rintro e w5 ⟨⟨a5, c5, rfl, hat5⟩, hb5⟩
      have hB5 : Below w.heap.size w w5 := hBq.trans (hb5.mono hBq.size)
      have A5 : ∀ o, Below w5.heap.size w5 (w5.alloc o) := fun o => (Below.refl _ _).alloc (Nat.le_refl _) _
      have k0 := fun o => cell_below (A5 o) (cell_below hb5 m0)
      have k1 := fun o => cell_below (A5 o) (cell_below hb5 m1)
      have k2 := fun o => cell_below (A5 o) (cell_below hb5 m2)
      have l0 := fun o => cell_below (A5 o) (cell_below hb5 n0)
      have l1 := fun o => cell_below (A5 o) (cell_below hb5 n1)
      have l2 := fun o => cell_below (A5 o) (cell_below hb5 n2)
      clear m0 m1 m2 n0 n1 n2
      go_wp2_with fail
      refine (toFact_any f a c _ (hv.below (hB5.trans ((A5 _).mono hB5.size))) hfl).mono ?_
      rintro e w6 ⟨⟨h6, hh6, rfl, ho6⟩, hb6⟩
      have hat6 := (hat5.below (A5 _)).below hb6
      have hv6 := ValsAt.own ho6
      have hB6 : Below w.heap.size w w6 := (hB5.trans ((A5 _).mono hB5.size)).trans (hb6.mono (by have := hB5.size; simp; omega))
      have A6 : ∀ o, Below w6.heap.size w6 (w6.alloc o) := fun o => (Below.refl _ _).alloc (Nat.le_refl _) _
      have j0 : w6.cell? ⟨w5.heap.size, 0, none⟩ = some (.string x.cls) := cell_below hb6 (by simp [go_sem])
      have j1 : w6.cell? ⟨w5.heap.size, 1, none⟩ = some (.int .i64 x.arity) := cell_below hb6 (by simp [go_sem])
      have j2 : w6.cell? ⟨w5.heap.size, 2, none⟩ = some (.slice a5 x.tests.length c5) := cell_below hb6 (by simp [go_sem])
      have i0 := fun o => cell_below (A6 o) j0
      have i1 := fun o => cell_below (A6 o) j1
      have i2 := fun o => cell_below (A6 o) j2
      have k0' := fun o => cell_below (A6 o) (cell_below hb6 (k0 _))
      have k1' := fun o => cell_below (A6 o) (cell_below hb6 (k1 _))
      have k2' := fun o => cell_below (A6 o) (cell_below hb6 (k2 _))
      have l0' := fun o => cell_below (A6 o) (cell_below hb6 (l0 _))
      have l1' := fun o => cell_below (A6 o) (cell_below hb6 (l1 _))
      have l2' := fun o => cell_below (A6 o) (cell_below hb6 (l2 _))
      clear j0 j1 j2 k0 k1 k2 l0 l1 l2 hb6 ho6 hat5 hb5 hh6
      go_wp2_with fail
      refine (iPass_any x a5 c5 f (some ⟨h6, 0, none⟩) f.slots.length _ (hat6.below (A6 _)) (hv6.below (A6 _)) hxx.2.1).mono ?_
      rintro e w7 ⟨rfl, hb7⟩
      have hB7 : Below w.heap.size w w7 := (hB6.trans ((A6 _).mono hB6.size)).trans (hb7.mono (by have := hB6.size; simp; omega))
      have hat7 := (hat6.below (A6 _)).below hb7
      have hv7 := (hv6.below (A6 _)).below hb7
      have g0 : w7.cell? ⟨w6.heap.size, 0, none⟩ = some (.int .i64 f.tag) := cell_below hb7 (by simp [go_sem])
      have g1 : w7.cell? ⟨w6.heap.size, 1, none⟩ = some (.string f.cls) := cell_below hb7 (by simp [go_sem])
      have g2 : w7.cell? ⟨w6.heap.size, 2, none⟩ = some (.slice (some ⟨h6, 0, none⟩) f.slots.length f.slots.length) := cell_below hb7 (by simp [go_sem])
      have i0' := cell_below hb7 (i0 _)
      have i1' := cell_below hb7 (i1 _)
      have i2' := cell_below hb7 (i2 _)
      have k0 := cell_below hb7 (k0' _)
      have k1 := cell_below hb7 (k1' _)
      have k2 := cell_below hb7 (k2' _)
      have l0 := cell_below hb7 (l0' _)
      have l1 := cell_below hb7 (l1' _)
      have l2 := cell_below hb7 (l2' _)
      have hpp : (passes x f != passes x f) = false := by simp
      clear i0 i1 i2 k0' k1' k2' l0' l1' l2' hb7 A5 A6 hat6 hv6 hB5 hB6
      go_wp2_with fail
      clear hpp
      have hB7d : Below w.heap.size w w7.drew := hB7.drew
      have hD7 : Below w7.heap.size w7 w7.drew := (Below.refl _ _).drew
      first
      | (go_region_held3 (fun w' => w'.cell? ⟨w5.heap.size, 0, none⟩ = some (.string x.cls) ∧ w'.cell? ⟨w5.heap.size, 1, none⟩ = some (.int .i64 x.arity) ∧ w'.cell? ⟨w5.heap.size, 2, none⟩ = some (.slice a5 x.tests.length c5) ∧ w'.cell? ⟨w6.heap.size, 0, none⟩ = some (.int .i64 f.tag) ∧ w'.cell? ⟨w6.heap.size, 1, none⟩ = some (.string f.cls) ∧ w'.cell? ⟨w6.heap.size, 2, none⟩ = some (.slice (some ⟨h6, 0, none⟩) f.slots.length f.slots.length) ∧ w'.cell? ⟨w.heap.size, 0, none⟩ = some (.string x.cls) ∧ w'.cell? ⟨w.heap.size, 1, none⟩ = some (.int .i64 x.arity) ∧ w'.cell? ⟨w.heap.size, 2, none⟩ = some (.slice a_tests x.tests.length c_tests) ∧ w'.cell? ⟨w.heap.size + 1, 0, none⟩ = some (.int .i64 f.tag) ∧ w'.cell? ⟨w.heap.size + 1, 1, none⟩ = some (.string f.cls) ∧ w'.cell? ⟨w.heap.size + 1, 2, none⟩ = some (.slice a f.slots.length c)) ((go_split_ands; refine ⟨?_, ?_, ?_, ?_, ?_, ?_, ?_, ?_, ?_, ?_, ?_, ?_⟩ <;> first | (simp [*]; done) | exact cell_below hb8 (by assumption) | exact cell_below hb9 (by assumption)))
          (first
           | (go_at_call 47; refine (toAlpha_any x a_tests c_tests _ (ht.below hB7d) hxx).mono ?_; rintro e w8 ⟨⟨a8, c8, rfl, hat8⟩, hb8⟩; have hB8 : Below w.heap.size w w8 := hB7d.trans (hb8.mono hB7d.size))
           | (go_at_call 39; refine (eqAlpha_same x a5 a8 c5 c8 _ ((hat7.below hD7).below hb8) hat8 hxx).mono ?_; rintro e w9 ⟨rfl, hb9⟩; have hB9 : Below w.heap.size w w9 := hB8.trans (hb9.mono hB8.size); have hv9 := ((hv7.below hD7).below hb8).below hb9)
           | fail))
      | fail
      rename_i hHld
      obtain ⟨m0, m1, m2, g0', g1', g2', k0', k1', k2', l0', l1', l2'⟩ := hHld
      clear i0' i1' i2' k0 k1 k2 l0 l1 l2 g0 g1 g2 hat7 hv7 hb9 hb8 hat8 hB8 hB7d hD7 hB7
      go_wp2_with fail
      have hB9d : Below w.heap.size w w9.drew := hB9.drew
      have hD9 : Below w9.heap.size w9 w9.drew := (Below.refl _ _).drew
      first
      | (go_region_held3 (fun w' => w'.cell? ⟨w6.heap.size, 0, none⟩ = some (.int .i64 f.tag) ∧ w'.cell? ⟨w6.heap.size, 1, none⟩ = some (.string f.cls) ∧ w'.cell? ⟨w6.heap.size, 2, none⟩ = some (.slice (some ⟨h6, 0, none⟩) f.slots.length f.slots.length) ∧ w'.cell? ⟨w.heap.size + 1, 0, none⟩ = some (.int .i64 f.tag) ∧ w'.cell? ⟨w.heap.size + 1, 1, none⟩ = some (.string f.cls) ∧ w'.cell? ⟨w.heap.size + 1, 2, none⟩ = some (.slice a f.slots.length c)) ((go_split_ands; refine ⟨?_, ?_, ?_, ?_, ?_, ?_⟩ <;> first | (simp [*]; done) | exact cell_below hb10 (by assumption) | exact cell_below hb11 (by assumption)))
          (first
           | (go_at_call 48; refine (toFact_any f a c _ (hv.below hB9d) hfl).mono ?_; rintro e w10 ⟨⟨h10, hh10, rfl, ho10⟩, hb10⟩; have hB10 : Below w.heap.size w w10 := hB9d.trans (hb10.mono hB9d.size))
           | (go_at_call 50; refine (eqFact_same f (some ⟨h6, 0, none⟩) (some ⟨h10, 0, none⟩) f.slots.length f.slots.length _ ((hv9.below hD9).below hb10) (ValsAt.own ho10) hfl).mono ?_; rintro e w11 ⟨rfl, hb11⟩; have hB11 : Below w.heap.size w w11 := hB10.trans (hb11.mono hB10.size))
           | fail))
      | fail
      go_wp2_with fail
      go_ret
      exact ⟨rfl, hB11⟩
end Go.Proofs.Ytkofbgdcgoajeaa
