/-
  OUR OWN TEXT. Before: the program's side: which of two entries comes ahead.
-/
import Derived.Test.YtajgedhmliekoaaGreatBf3m
namespace Go.Proofs.YtajgedhmliekoaaGreat
open Go.RowKit
attribute [local go_sem ↓] Go.wp_at_zero Go.wp_at_succ

theorem or3_any (r1 r2 r3 : Int) (w : World) (g : Nat) (ty : TypeId) (hg : g = w.heap.size) :
    Calls Tryz.prog 55 #[.slice (some ⟨g, 0, none⟩) 3 3] (w.alloc (.cells #[.int .i64 r1, .int .i64 r2, .int .i64 r3] ty)) fun e w' => e = .returned (.int .i64 (orI [r1, r2, r3])) ∧ w' = w.alloc (.cells #[.int .i64 r1, .int .i64 r2, .int .i64 r3] ty) :=
  or_any (some ⟨g, 0, none⟩) 3 [r1, r2, r3] _ (ints_new3 w g r1 r2 r3 ty hg) (by simp)

set_option maxRecDepth 100000 in
set_option maxHeartbeats 3200000 in
theorem ahead_raw (sx sy : Int) (xr yr : List Int) (x y : In) (a1 a2 b1 b2 : Option Addr) (c1 c2 d1 d2 : Nat) (w : World) {q1 q2 q3 q4 : Option Nat} (hx1 : IntsAt q1 w a1 xr) (hx2 : IntsAt q2 w a2 x.tags) (hy1 : IntsAt q3 w b1 yr) (hy2 : IntsAt q4 w b2 y.tags) (hl : x.tags.length ≤ 1048576) (hl' : y.tags.length ≤ 1048576) (hr1 : xr.length ≤ 1048576) (hr2 : yr.length ≤ 1048576) :
    Calls Tryz.prog 29 #[.agg #[.int .i64 sx, .slice a1 xr.length c1, .int .i64 x.rule, .slice a2 x.tags.length c2], .agg #[.int .i64 sy, .slice b1 yr.length d1, .int .i64 y.rule, .slice b2 y.tags.length d2]] w fun e w' =>
      e = .returned (.bool (decide (orI [Lib.compareInt sy sx, lexC yr xr, orI [Lib.compareInt x.rule y.rule, lexC x.tags y.tags]] < 0))) ∧ Below w.heap.size w w' := by
  have B2 : ∀ o o', Below w.heap.size w (((w.alloc o).alloc o').drew) := fun o o' => (((Below.refl _ _).alloc (Nat.le_refl _) _).alloc (by simp) _).drew
  have HL := hidB (fun o o' => compare_any b1 a1 d1 c1 yr xr (((w.alloc o).alloc o').drew) (hy1.below (B2 o o')) (hx1.below (B2 o o')) hr2 hr1)
  have HI := hidB (fun o o' => inOrder_any x y a2 b2 c2 d2 (((w.alloc o).alloc o').drew) (hx2.below (B2 o o')) (hy2.below (B2 o o')) hl hl')
  have HC := hidB (cmpL_any sy sx)
  generalize Lib.compareInt sy sx = r1 at HC ⊢
  generalize lexC yr xr = r2 at HL ⊢
  generalize orI [Lib.compareInt x.rule y.rule, lexC x.tags y.tags] = r3 at HI ⊢
  have HO := hidB (or3_any r1 r2 r3)
  generalize orI [r1, r2, r3] = r at HO ⊢
  have HB2 := hidB B2
  clear hx1 hx2 hy1 hy2 B2
  go_enter Tryz.func29, Tryz.ntmps29
  go_wp2
  go_region_held3 (fun w' => w'.cell? ⟨w.heap.size, 0, none⟩ = some (.int .i64 sx) ∧ w'.cell? ⟨w.heap.size, 1, none⟩ = some (.slice a1 xr.length c1) ∧ w'.cell? ⟨w.heap.size, 2, none⟩ = some (.int .i64 x.rule) ∧ w'.cell? ⟨w.heap.size, 3, none⟩ = some (.slice a2 x.tags.length c2) ∧ w'.cell? ⟨w.heap.size + 1, 0, none⟩ = some (.int .i64 sy) ∧ w'.cell? ⟨w.heap.size + 1, 1, none⟩ = some (.slice b1 yr.length d1) ∧ w'.cell? ⟨w.heap.size + 1, 2, none⟩ = some (.int .i64 y.rule) ∧ w'.cell? ⟨w.heap.size + 1, 3, none⟩ = some (.slice b2 y.tags.length d2)) (first | (go_split_ands; (refine ⟨?_, ?_, ?_, ?_, ?_, ?_, ?_, ?_⟩ <;> first | with_reducible assumption | (simp [*]; done) | with_reducible exact cell_below hb1 (by assumption) | with_reducible exact cell_below ((Below.refl _ _).alloc (Nat.le_refl _) _) (by assumption)); done) | fail)
    (first
      | (go_at_call 56; with_reducible refine (HC.out _).mono ?_; rintro e w1 ⟨rfl, rfl⟩)
      | (go_at_call 57; with_reducible refine (HL.out _ _).mono ?_; rintro e w1 ⟨rfl, rfl⟩)
      | (go_at_call 58; with_reducible refine (HI.out _ _).mono ?_; rintro e w1 ⟨rfl, hb1⟩)
      | (go_at_call 55; with_reducible refine (HO.out _ _ _ (by simp)).mono ?_; rintro e w2 ⟨rfl, rfl⟩)
      | fail)
  go_wp2_with fail
  go_ret
  exact ⟨rfl, ((HB2.out _ _).trans (hb1.mono (by simp; omega))).alloc (by have := hb1.size; simp at this; omega) _⟩

theorem ahead_any (rs : List Ru) (x y : In) (a1 a2 b1 b2 : Option Addr) (c1 c2 d1 d2 : Nat) (w : World) {q1 q2 q3 q4 : Option Nat} (hx1 : IntsAt q1 w a1 (recA x.tags)) (hx2 : IntsAt q2 w a2 x.tags) (hy1 : IntsAt q3 w b1 (recA y.tags)) (hy2 : IntsAt q4 w b2 y.tags) (hl : x.tags.length ≤ 1048576) (hl' : y.tags.length ≤ 1048576) :
    Calls Tryz.prog 29 #[enV rs x a1 c1 a2 c2, enV rs y b1 d1 b2 d2] w fun e w' => e = .returned (.bool (befI rs x y)) ∧ Below w.heap.size w w' :=
  ahead_raw (salOf rs x) (salOf rs y) (recA x.tags) (recA y.tags) x y a1 a2 b1 b2 c1 c2 d1 d2 w hx1 hx2 hy1 hy2 hl hl' (by have := recA_len x.tags; omega) (by have := recA_len y.tags; omega)
end Go.Proofs.YtajgedhmliekoaaGreat
