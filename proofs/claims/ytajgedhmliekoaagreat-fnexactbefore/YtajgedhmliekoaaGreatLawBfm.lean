/-
  OUR OWN TEXT. The law FnExactBefore, out of the contracts.
-/
import Derived.Test.YtajgedhmliekoaaGreatBf5m
import Derived.Test.YtajgedhmliekoaaGreatJm
import Derived.Test.YtajgedhmliekoaaGreatJn
import Derived.Test.YtajgedhmliekoaaGreatJo
import Derived.Test.YtajgedhmliekoaaGreatJp
namespace Go.Proofs.YtajgedhmliekoaaGreat
open Go.RowKit
attribute [local go_sem ↓] Go.wp_at_zero Go.wp_at_succ

set_option maxRecDepth 100000 in
set_option maxHeartbeats 3200000 in
theorem law_bf (rs : List Ru) (a : Option Addr) (c : Nat) (x y : In) (ax ay : Option Addr) (cx cy : Nat) (w : World) (hv : RusAt none w a rs) (hs0 : ListLe Ru.le maxLen rs) (ho : ∀ x ∈ rs, OpsOk x.exprs) (hx : IntsAt none w ax x.tags) (hy : IntsAt none w ay y.tags) (hlx0 : x.le maxLen) (hly0 : y.le maxLen) :
    Calls Tryz.prog 3 #[.slice a rs.length c, .agg #[.int .i64 x.rule, .slice ax x.tags.length cx], .agg #[.int .i64 y.rule, .slice ay y.tags.length cy]] w fun e w' => e = .returned (.bool true) ∧ Below w.heap.size w w' := by
  have B2 : ∀ o o', Below w.heap.size w ((w.alloc o).alloc o') := fun o o' => ((Below.refl _ _).alloc (Nat.le_refl _) _).alloc (by simp) _
  have HO := hidB ho
  clear ho
  go_enter Tryz.func3, Tryz.ntmps3
  go_wp2_with (go_at_call 5; refine (szRuleS_any a c rs 1048576 _ (hv.below (B2 _ _)) hs0 (by omega) (by omega)).mono ?_; rintro e w1 ⟨⟨r1, rfl, hr1⟩, hb1⟩; have m0 : w1.cell? ⟨w.heap.size, 0, none⟩ = some (.int .i64 x.rule) := cell_below hb1 (by simp [go_sem]); have m1 : w1.cell? ⟨w.heap.size, 1, none⟩ = some (.slice ax x.tags.length cx) := cell_below hb1 (by simp [go_sem]); have m2 : w1.cell? ⟨w.heap.size + 1, 0, none⟩ = some (.int .i64 y.rule) := cell_below hb1 (by simp [go_sem]); have m3 : w1.cell? ⟨w.heap.size + 1, 1, none⟩ = some (.slice ay y.tags.length cy) := cell_below hb1 (by simp [go_sem]); have hB1 : Below w.heap.size w w1 := (B2 _ _).trans (hb1.mono (by simp; omega)))
  · go_ret
    exact ⟨rfl, hB1⟩
  · refine (szInst_any x ax cx r1 _ hlx0 (by omega) (by rcases hr1 with h | ⟨_, h⟩ <;> omega)).mono ?_
    rintro e w2 ⟨⟨r2, rfl, hr2⟩, hb2⟩
    have hB2 : Below w.heap.size w w2 := hB1.trans (hb2.mono hB1.size)
    have n0 := cell_below hb2 m0
    have n1 := cell_below hb2 m1
    have n2 := cell_below hb2 m2
    have n3 := cell_below hb2 m3
    clear m0 m1 m2 m3
    go_wp2_with fail
    · go_ret
      exact ⟨rfl, hB2⟩
    · refine (szInst_any y ay cy r2 _ hly0 (by omega) (by rcases hr1 with h | ⟨_, h⟩ <;> rcases hr2 with h' | ⟨_, h'⟩ <;> omega)).mono ?_
      rintro e w3 ⟨⟨r3, rfl, hr3⟩, hb3⟩
      have hB3 : Below w.heap.size w w3 := hB2.trans (hb3.mono hB2.size)
      have m0 := cell_below hb3 n0
      have m1 := cell_below hb3 n1
      have m2 := cell_below hb3 n2
      have m3 := cell_below hb3 n3
      clear n0 n1 n2 n3
      go_wp2_with fail
      · go_ret
        exact ⟨rfl, hB3⟩
      · have hsz : szL Ru.sz rs + x.sz + y.sz ≤ 1048576 := by
          rcases hr1 with h | ⟨_, h⟩ <;> rcases hr2 with h' | ⟨_, h'⟩ <;> rcases hr3 with h'' | ⟨_, h''⟩ <;> omega
        have hle : ListLe Ru.le 1048576 rs := listLe Ru.le_sz (by omega)
        have hlx : x.le 1048576 := In.le_sz _ _ (by omega)
        have hly : y.le 1048576 := In.le_sz _ _ (by omega)
        have hD : Below w.heap.size w w3.drew := hB3.drew
        have HV := hidB hv
        have HX := hidB hx
        have HY := hidB hy
        have HB3 := hidB hB3
        have TR := hidB (fun w' (h : Below w.heap.size w w') => toRuleS_any a c rs w' (HV.out.below h) hle)
        have TX := hidB (fun w' (h : Below w.heap.size w w') => toInst_any x ax cx w' (HX.out.below h) hlx)
        have TY := hidB (fun w' (h : Below w.heap.size w w') => toInst_any y ay cy w' (HY.out.below h) hly)
        have SB := hidB (fun w' g gx kx gy ky (h1 : RusAt (some w3.drew.heap.size) w' (some ⟨g, 0, none⟩) rs) {q1 q2 : Option Nat} (h2 : IntsAt q1 w' (some ⟨gx, 0, none⟩) x.tags) (h3 : IntsAt q2 w' (some ⟨gy, 0, none⟩) y.tags) => sBefore_any rs (some ⟨g, 0, none⟩) rs.length x y (some ⟨gx, 0, none⟩) (some ⟨gy, 0, none⟩) kx ky w' h1 (Nat.le_refl _) hle HO.out h2 h3 hlx hly)
        generalize hR : bef rs x y = R at SB
        have HR := hidB hR
        clear hr1 hr2 hr3 hs0 hsz hlx0 hly0 hv hx hy hR
        go_region_held3 (fun w' => w'.cell? ⟨w.heap.size, 0, none⟩ = some (.int .i64 x.rule) ∧ w'.cell? ⟨w.heap.size, 1, none⟩ = some (.slice ax x.tags.length cx) ∧ w'.cell? ⟨w.heap.size + 1, 0, none⟩ = some (.int .i64 y.rule) ∧ w'.cell? ⟨w.heap.size + 1, 1, none⟩ = some (.slice ay y.tags.length cy)) (first | (go_split_ands; (refine ⟨?_, ?_, ?_, ?_⟩ <;> first | with_reducible assumption | (simp [*]; done) | with_reducible exact cell_below hb4 (by assumption) | with_reducible exact cell_below hb5 (by assumption) | with_reducible exact cell_below hb6 (by assumption) | with_reducible exact cell_below hb7 (by assumption)); done) | fail)
          (first
            | (go_at_call 8; with_reducible refine (TR.out _ hD).mono ?_; rintro e w4 ⟨⟨g4, hg4, rfl, i4⟩, hb4⟩; have hB4 : Below w.heap.size w w4 := hD.trans (hb4.mono hD.size))
            | (go_at_call 9; with_reducible refine (TX.out w4 hB4).mono ?_; rintro e w5 ⟨⟨g5, k5, rfl, i5⟩, hb5⟩; have hB5 : Below w.heap.size w w5 := hB4.trans (hb5.mono hB4.size))
            | (go_at_call 9; with_reducible refine (TY.out w5 hB5).mono ?_; rintro e w6 ⟨⟨g6, k6, rfl, i6⟩, hb6⟩; have hB6 : Below w.heap.size w w6 := hB5.trans (hb6.mono hB5.size))
            | (go_at_call 7; with_reducible refine (SB.out w6 g4 g5 k5 g6 k6 ((i4.below hb5).below hb6) (i5.below hb6) i6).mono ?_; rintro e w7 ⟨rfl, hb7⟩; have hB7 : Below w.heap.size w w7 := hB6.trans (hb7.mono hB6.size))
            | fail)
        rename_i hHld
        obtain ⟨n0, n1, n2, n3⟩ := hHld
        clear SB i4 i5 i6 hb4 hb5 hb6 hb7 hB4 hB5 hB6 hD m0 m1 m2 m3 HB3 hb1 hb2 hb3 hB1 hB2 hB3
        go_wp2_with fail
        refine (TR.out w7 hB7).mono ?_
        rintro e w8 ⟨⟨g8, hg8, rfl, i8⟩, hb8⟩
        have hB8 : Below w.heap.size w w8 := hB7.trans (hb8.mono hB7.size)
        have m0 := cell_below hb8 n0
        have m1 := cell_below hb8 n1
        have m2 := cell_below hb8 n2
        have m3 := cell_below hb8 n3
        go_wp2_with fail
        refine (TX.out w8 hB8).mono ?_
        rintro e w9 ⟨⟨g9, k9, rfl, i9⟩, hb9⟩
        have hB9 : Below w.heap.size w w9 := hB8.trans (hb9.mono hB8.size)
        have A9 : ∀ o, Below w9.heap.size w9 (w9.alloc o) := fun o => (Below.refl _ _).alloc (Nat.le_refl _) _
        have hB9a : ∀ o, Below w.heap.size w (w9.alloc o) := fun o => hB9.alloc hB9.size _
        have s0 : ∀ o, (w9.alloc o).cell? ⟨w.heap.size + 1, 0, none⟩ = some (.int .i64 y.rule) := fun o => cell_below (A9 o) (cell_below hb9 m2)
        have s1 : ∀ o, (w9.alloc o).cell? ⟨w.heap.size + 1, 1, none⟩ = some (.slice ay y.tags.length cy) := fun o => cell_below (A9 o) (cell_below hb9 m3)
        have s2 : ∀ o, (w9.alloc o).cell? ⟨w.heap.size, 0, none⟩ = some (.int .i64 x.rule) := fun o => cell_below (A9 o) (cell_below hb9 m0)
        have s3 : ∀ o, (w9.alloc o).cell? ⟨w.heap.size, 1, none⟩ = some (.slice ax x.tags.length cx) := fun o => cell_below (A9 o) (cell_below hb9 m1)
        have I8 := hidB (i8.below hb9)
        have I9 := hidB i9
        clear m0 m1 m2 m3 n0 n1 n2 n3 i8 i9
        go_wp2_with fail
        refine (TY.out _ (hB9a _)).mono ?_
        rintro e w10 ⟨⟨g10, k10, rfl, i10⟩, hb10⟩
        have hb10' : Below w9.heap.size w9 w10 := (A9 _).trans (hb10.mono (by simp))
        have hB10 : Below w.heap.size w w10 := hB9.trans (hb10'.mono hB9.size)
        have t0 := cell_below hb10 (s2 _)
        have t1 := cell_below hb10 (s3 _)
        have t2 := cell_below hb10 (s0 _)
        have t3 := cell_below hb10 (s1 _)
        have t4 : w10.cell? ⟨w9.heap.size, 0, none⟩ = some (.int .i64 x.rule) := cell_below hb10 (by simp [go_sem])
        have t5 : w10.cell? ⟨w9.heap.size, 1, none⟩ = some (.slice (some ⟨g9, 0, none⟩) x.tags.length k9) := cell_below hb10 (by simp [go_sem])
        have A10 : ∀ o, Below w10.heap.size w10 (w10.alloc o) := fun o => (Below.refl _ _).alloc (Nat.le_refl _) _
        have u0 := fun o => cell_below (A10 o) t0
        have u1 := fun o => cell_below (A10 o) t1
        have u2 := fun o => cell_below (A10 o) t2
        have u3 := fun o => cell_below (A10 o) t3
        have u4 := fun o => cell_below (A10 o) t4
        have u5 := fun o => cell_below (A10 o) t5
        have J8 := hidB (fun o => (I8.out.below hb10').below (A10 o))
        have J9 := hidB (fun o => (I9.out.below hb10').below (A10 o))
        have J10 := hidB (fun o => i10.below (A10 o))
        have hB10a := hidB (fun o => hB10.alloc hB10.size o)
        have IB := hidB (fun o => iBefore_any rs (some ⟨g8, 0, none⟩) rs.length x y g9 0 k9 g10 0 k10 (w10.alloc o) (J8.out o) (Nat.le_refl _) hle HO.out (J9.out o) (J10.out o) hlx hly)
        rw [HR.out] at IB
        have ne1 : w9.heap.size ≠ w10.heap.size := by
          have h1 := hb10.size
          simp at h1
          omega
        clear s0 s1 s2 s3 t0 t1 t2 t3 t4 t5 I8 I9 i10 hb10 hb9 hb8 hB8 hB9 hB9a
        go_wp2_with fail
        refine (IB.out _).mono ?_
        rintro e w11 ⟨rfl, hb11⟩
        have hB11 : Below w.heap.size w w11 := (hB10a.out _).trans (hb11.mono (hB10a.out _).size)
        have v0 := cell_below hb11 (u0 _)
        have v1 := cell_below hb11 (u1 _)
        have v2 := cell_below hb11 (u2 _)
        have v3 := cell_below hb11 (u3 _)
        have v4 := cell_below hb11 (u4 _)
        have v5 := cell_below hb11 (u5 _)
        have v6 : w11.cell? ⟨w10.heap.size, 0, none⟩ = some (.int .i64 y.rule) := cell_below hb11 (by simp [go_sem])
        have v7 : w11.cell? ⟨w10.heap.size, 1, none⟩ = some (.slice (some ⟨g10, 0, none⟩) y.tags.length k10) := cell_below hb11 (by simp [go_sem])
        have K8 := hidB ((J8.out _).below hb11)
        have K9 := hidB ((J9.out _).below hb11)
        have K10 := hidB ((J10.out _).below hb11)
        clear u0 u1 u2 u3 u4 u5 J8 J9 J10 IB hB10a hb11
        go_wp2_with fail
        refine (TR.out w11 hB11).mono ?_
        rintro e w12 ⟨⟨g12, hg12, rfl, i12⟩, hb12⟩
        have hB12 : Below w.heap.size w w12 := hB11.trans (hb12.mono hB11.size)
        go_wp2_with fail
        refine (eqRuleS_same (some ⟨g8, 0, none⟩) (some ⟨g12, 0, none⟩) rs.length rs.length rs w12 (K8.out.below hb12) i12 hle).mono ?_
        rintro e w13 ⟨rfl, hb13⟩
        have hB13 : Below w.heap.size w w13 := hB12.trans (hb13.mono hB12.size)
        have x0 := cell_below hb13 (cell_below hb12 v0)
        have x1 := cell_below hb13 (cell_below hb12 v1)
        have x2 := cell_below hb13 (cell_below hb12 v2)
        have x3 := cell_below hb13 (cell_below hb12 v3)
        have x4 := cell_below hb13 (cell_below hb12 v4)
        have x5 := cell_below hb13 (cell_below hb12 v5)
        have x6 := cell_below hb13 (cell_below hb12 v6)
        have x7 := cell_below hb13 (cell_below hb12 v7)
        have hD13 : Below w13.heap.size w13 w13.drew := (Below.refl _ _).drew
        have L9 := hidB (((K9.out.below hb12).below hb13).below hD13)
        have L10 := hidB (((K10.out.below hb12).below hb13).below hD13)
        have hB13d : Below w.heap.size w w13.drew := hB13.drew
        clear v0 v1 v2 v3 v4 v5 v6 v7 K8 K9 K10 hb12 hb13 i12
        go_wp2_with fail
        go_region_held3 (fun w' => w'.cell? ⟨w.heap.size, 0, none⟩ = some (.int .i64 x.rule) ∧ w'.cell? ⟨w.heap.size, 1, none⟩ = some (.slice ax x.tags.length cx) ∧ w'.cell? ⟨w.heap.size + 1, 0, none⟩ = some (.int .i64 y.rule) ∧ w'.cell? ⟨w.heap.size + 1, 1, none⟩ = some (.slice ay y.tags.length cy) ∧ w'.cell? ⟨w9.heap.size, 0, none⟩ = some (.int .i64 x.rule) ∧ w'.cell? ⟨w9.heap.size, 1, none⟩ = some (.slice (some ⟨g9, 0, none⟩) x.tags.length k9) ∧ w'.cell? ⟨w10.heap.size, 0, none⟩ = some (.int .i64 y.rule) ∧ w'.cell? ⟨w10.heap.size, 1, none⟩ = some (.slice (some ⟨g10, 0, none⟩) y.tags.length k10)) (first | (go_split_ands; (refine ⟨?_, ?_, ?_, ?_, ?_, ?_, ?_, ?_⟩ <;> first | with_reducible assumption | (simp [*]; done) | with_reducible exact cell_below hb14 (by assumption) | with_reducible exact cell_below hb15 (by assumption)); done) | fail)
          (first
            | (go_at_call 9; with_reducible refine (TX.out _ hB13d).mono ?_; rintro e w14 ⟨⟨g14, k14, rfl, i14⟩, hb14⟩)
            | (go_at_call 12; with_reducible refine (eqInst_same x (some ⟨g9, 0, none⟩) (some ⟨g14, 0, none⟩) k9 k14 w14 (L9.out.below hb14) i14 hlx).mono ?_; rintro e w15 ⟨rfl, hb15⟩)
            | fail)
        rename_i hHld
        obtain ⟨y0, y1, y2, y3, y4, y5, y6, y7⟩ := hHld
        have hB15 : Below w.heap.size w w15 := (hB13d.trans (hb14.mono hB13d.size)).trans (hb15.mono (by have := hB13d.size; have := hb14.size; omega))
        have hD15 : Below w15.heap.size w15 w15.drew := (Below.refl _ _).drew
        have M10 := hidB (((L10.out.below hb14).below hb15).below hD15)
        have hB15d : Below w.heap.size w w15.drew := hB15.drew
        clear x0 x1 x2 x3 x4 x5 x6 x7 hb14 hb15 i14 L9 L10 hD13 hD15
        go_wp2_with fail
        go_region_held3 (fun w' => w'.cell? ⟨w.heap.size, 0, none⟩ = some (.int .i64 x.rule) ∧ w'.cell? ⟨w.heap.size, 1, none⟩ = some (.slice ax x.tags.length cx) ∧ w'.cell? ⟨w.heap.size + 1, 0, none⟩ = some (.int .i64 y.rule) ∧ w'.cell? ⟨w.heap.size + 1, 1, none⟩ = some (.slice ay y.tags.length cy) ∧ w'.cell? ⟨w9.heap.size, 0, none⟩ = some (.int .i64 x.rule) ∧ w'.cell? ⟨w9.heap.size, 1, none⟩ = some (.slice (some ⟨g9, 0, none⟩) x.tags.length k9) ∧ w'.cell? ⟨w10.heap.size, 0, none⟩ = some (.int .i64 y.rule) ∧ w'.cell? ⟨w10.heap.size, 1, none⟩ = some (.slice (some ⟨g10, 0, none⟩) y.tags.length k10)) (first | (go_split_ands; (refine ⟨?_, ?_, ?_, ?_, ?_, ?_, ?_, ?_⟩ <;> first | with_reducible assumption | (simp [*]; done) | with_reducible exact cell_below hb16 (by assumption) | with_reducible exact cell_below hb17 (by assumption)); done) | fail)
          (first
            | (go_at_call 9; with_reducible refine (TY.out _ hB15d).mono ?_; rintro e w16 ⟨⟨g16, k16, rfl, i16⟩, hb16⟩)
            | (go_at_call 12; with_reducible refine (eqInst_same y (some ⟨g10, 0, none⟩) (some ⟨g16, 0, none⟩) k10 k16 w16 (M10.out.below hb16) i16 hly).mono ?_; rintro e w17 ⟨rfl, hb17⟩)
            | fail)
        have hB17 : Below w.heap.size w w17 := (hB15d.trans (hb16.mono hB15d.size)).trans (hb17.mono (by have := hB15d.size; have := hb16.size; omega))
        go_wp2_with fail
        go_ret
        exact ⟨rfl, hB17⟩
end Go.Proofs.YtajgedhmliekoaaGreat
