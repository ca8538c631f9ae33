/-
  OUR OWN TEXT. Before: the program's side, whole.
-/
import Derived.Test.YtajgedhmliekoaaGreatBf4m
import Derived.Test.YtajgedhmliekoaaGreatJl
namespace Go.Proofs.YtajgedhmliekoaaGreat
open Go.RowKit
attribute [local go_sem ↓] Go.wp_at_zero Go.wp_at_succ

theorem bef_no {rs : List Ru} {x y : In} (h : placedI rs x = false ∨ placedI rs y = false ∨ (chk rs).1 ≠ 0) : bef rs x y = false := by
  unfold bef
  rcases h with h | h | h <;> simp [h]
theorem bef_yes {rs : List Ru} {x y : In} (h1 : placedI rs x = true) (h2 : placedI rs y = true) (h3 : (chk rs).1 = 0) : bef rs x y = befI rs x y := by
  unfold bef
  simp [h1, h2, h3]
theorem placed_len {rs : List Ru} {x : In} (h : placedI rs x = true) : x.tags.length ≤ 1048576 := by
  simp only [placedI, Bool.and_eq_true, decide_eq_true_eq] at h
  omega

set_option maxRecDepth 100000 in
set_option maxHeartbeats 3200000 in
theorem iBefore_any (rs : List Ru) (a : Option Addr) (c : Nat) (x y : In) (bx ox cx by' oy cy : Nat) (w : World) {q q1 q2 : Option Nat} (hv : RusAt q w a rs) (hc : rs.length ≤ c) (hle : ListLe Ru.le 1048576 rs) (ho : ∀ x ∈ rs, OpsOk x.exprs)
    (hx : IntsAt q1 w (some ⟨bx, ox, none⟩) x.tags) (hy : IntsAt q2 w (some ⟨by', oy, none⟩) y.tags) (hlx : x.tags.length ≤ 1048576) (hly : y.tags.length ≤ 1048576) :
    Calls Tryz.prog 10 #[.slice a rs.length c, .agg #[.int .i64 x.rule, .slice (some ⟨bx, ox, none⟩) x.tags.length cx], .agg #[.int .i64 y.rule, .slice (some ⟨by', oy, none⟩) y.tags.length cy]] w fun e w' => e = .returned (.bool (bef rs x y)) ∧ Below w.heap.size w w' := by
  have hl : rs.length ≤ 1048576 := hle.1
  have B2 : ∀ o o', Below w.heap.size w ((w.alloc o).alloc o') := fun o o' => ((Below.refl _ _).alloc (Nat.le_refl _) _).alloc (by simp) _
  have HCK := hidB (fun o o' => iCheckRules_any a c rs ((w.alloc o).alloc o') (hv.below (B2 o o')) hc hle ho)
  have HPX := hidB (fun W => placed_any rs a c x (some ⟨bx, ox, none⟩) cx W hl hlx)
  have HPY := hidB (fun W => placed_any rs a c y (some ⟨by', oy, none⟩) cy W hl hly)
  have HNO := hidB (bef_no (rs := rs) (x := x) (y := y))
  unfold ckV at HCK
  generalize hp0 : (chk rs).1 = p0 at HCK
  generalize (chk rs).2.1 = p1 at HCK
  generalize (chk rs).2.2 = p2 at HCK
  have hfd : ∀ w : World, (Instr.field 57 (.agg #[.int .i64 p0, .int .i64 p1, .int .i64 p2]) 0).run Tryz.prog w = .ok (.int .i64 p0) w := fun _ => by kernel_rfl
  by_cases hp : p0 = 0
  · subst hp
    cases h1 : placedI rs x
    · rw [h1] at HPX
      have HF := hidB (HNO.out (.inl h1))
      go_enter Tryz.func10, Tryz.ntmps10
      go_wp2_with (first | (go_at_call 26; with_reducible refine (HCK.out _ _).mono ?_; rintro e w1 ⟨rfl, hb1⟩; have x0 := cell_below hb1 (p := ⟨w.heap.size, 0, none⟩) (x := .int .i64 x.rule) (by simp [go_sem]); have x1 := cell_below hb1 (p := ⟨w.heap.size, 1, none⟩) (x := .slice (some ⟨bx, ox, none⟩) x.tags.length cx) (by simp [go_sem]); have y0 := cell_below hb1 (p := ⟨w.heap.size + 1, 0, none⟩) (x := .int .i64 y.rule) (by simp [go_sem]); have y1 := cell_below hb1 (p := ⟨w.heap.size + 1, 1, none⟩) (x := .slice (some ⟨by', oy, none⟩) y.tags.length cy) (by simp [go_sem])) | (go_at_call 27; with_reducible refine (HPX.out _).mono ?_; rintro e w2 ⟨rfl, hb2⟩; have z0 := cell_below hb2 y0; have z1 := cell_below hb2 y1; have z2 := cell_below hb2 x0; have z3 := cell_below hb2 x1))
      go_ret
      exact ⟨ret_bool HF.out.symm, (B2 _ _).trans ((hb1.trans (hb2.mono hb1.size)).mono (by simp; omega))⟩
    · cases h2 : placedI rs y
      · rw [h1] at HPX
        rw [h2] at HPY
        have HF := hidB (HNO.out (.inr (.inl h2)))
        go_enter Tryz.func10, Tryz.ntmps10
        go_wp2_with (first | (go_at_call 26; with_reducible refine (HCK.out _ _).mono ?_; rintro e w1 ⟨rfl, hb1⟩; have x0 := cell_below hb1 (p := ⟨w.heap.size, 0, none⟩) (x := .int .i64 x.rule) (by simp [go_sem]); have x1 := cell_below hb1 (p := ⟨w.heap.size, 1, none⟩) (x := .slice (some ⟨bx, ox, none⟩) x.tags.length cx) (by simp [go_sem]); have y0 := cell_below hb1 (p := ⟨w.heap.size + 1, 0, none⟩) (x := .int .i64 y.rule) (by simp [go_sem]); have y1 := cell_below hb1 (p := ⟨w.heap.size + 1, 1, none⟩) (x := .slice (some ⟨by', oy, none⟩) y.tags.length cy) (by simp [go_sem])) | (go_at_call 27; with_reducible refine (HPX.out _).mono ?_; rintro e w2 ⟨rfl, hb2⟩; have z0 := cell_below hb2 y0; have z1 := cell_below hb2 y1; have z2 := cell_below hb2 x0; have z3 := cell_below hb2 x1) | (go_at_call 27; with_reducible refine (HPY.out _).mono ?_; rintro e w3 ⟨rfl, hb3⟩; have v0 := cell_below hb3 z0; have v1 := cell_below hb3 z1; have v2 := cell_below hb3 z2; have v3 := cell_below hb3 z3))
        go_ret
        exact ⟨ret_bool HF.out.symm, (B2 _ _).trans (((hb1.trans (hb2.mono hb1.size)).trans (hb3.mono (Nat.le_trans hb1.size hb2.size))).mono (by simp; omega))⟩
      · rw [h1] at HPX
        rw [h2] at HPY
        have HF := hidB (bef_yes h1 h2 hp0)
        have HH1 := hidB h1
        have HH2 := hidB h2
        have HV := hidB hv
        have HX := hidB hx
        have HY := hidB hy
        clear hv hx hy h1 h2
        go_enter Tryz.func10, Tryz.ntmps10
        go_wp2_with (first | (go_at_call 26; with_reducible refine (HCK.out _ _).mono ?_; rintro e w1 ⟨rfl, hb1⟩; have x0 := cell_below hb1 (p := ⟨w.heap.size, 0, none⟩) (x := .int .i64 x.rule) (by simp [go_sem]); have x1 := cell_below hb1 (p := ⟨w.heap.size, 1, none⟩) (x := .slice (some ⟨bx, ox, none⟩) x.tags.length cx) (by simp [go_sem]); have y0 := cell_below hb1 (p := ⟨w.heap.size + 1, 0, none⟩) (x := .int .i64 y.rule) (by simp [go_sem]); have y1 := cell_below hb1 (p := ⟨w.heap.size + 1, 1, none⟩) (x := .slice (some ⟨by', oy, none⟩) y.tags.length cy) (by simp [go_sem])) | (go_at_call 27; with_reducible refine (HPX.out _).mono ?_; rintro e w2 ⟨rfl, hb2⟩; have z0 := cell_below hb2 y0; have z1 := cell_below hb2 y1; have z2 := cell_below hb2 x0; have z3 := cell_below hb2 x1) | (go_at_call 27; with_reducible refine (HPY.out _).mono ?_; rintro e w3 ⟨rfl, hb3⟩; have v0 := cell_below hb3 z0; have v1 := cell_below hb3 z1; have v2 := cell_below hb3 z2; have v3 := cell_below hb3 z3))
        have hB3 : Below w.heap.size w w3 := (B2 _ _).trans (((hb1.trans (hb2.mono hb1.size)).trans (hb3.mono (Nat.le_trans hb1.size hb2.size))).mono (by simp; omega))
        have hD : Below w.heap.size w w3.drew := hB3.drew
        have HN1 := hidB (newEntry_any rs a c x bx ox cx w3.drew (HV.out.below hD) (HX.out.below hD) HH1.out hl)
        have HN2 := hidB (fun w4 (h4 : Below w.heap.size w w4) => newEntry_any rs a c y by' oy cy w4 (HV.out.below h4) (HY.out.below h4) HH2.out hl)
        have hsz3 := hB3.size
        clear HCK HPX HPY hb1 hb2 hb3 x0 x1 y0 y1 z0 z1 z2 z3 HNO hfd
        go_region_held3 (fun w' => w'.cell? ⟨w.heap.size, 0, none⟩ = some (.int .i64 x.rule) ∧ w'.cell? ⟨w.heap.size, 1, none⟩ = some (.slice (some ⟨bx, ox, none⟩) x.tags.length cx) ∧ w'.cell? ⟨w.heap.size + 1, 0, none⟩ = some (.int .i64 y.rule) ∧ w'.cell? ⟨w.heap.size + 1, 1, none⟩ = some (.slice (some ⟨by', oy, none⟩) y.tags.length cy)) (first | (go_split_ands; (refine ⟨?_, ?_, ?_, ?_⟩ <;> first | with_reducible assumption | (simp [*]; done) | with_reducible exact cell_below hb4 (by assumption) | with_reducible exact cell_below hb5 (by assumption) | with_reducible exact cell_below hb6 (by assumption)); done) | fail)
          (first
            | (go_at_call 28; with_reducible refine HN1.out.mono ?_; rintro e w4 ⟨⟨a1, c1, a2, c2, rfl, i1, i2⟩, hb4⟩; have hB4 : Below w.heap.size w w4 := hD.trans (hb4.mono hD.size))
            | (go_at_call 28; with_reducible refine (HN2.out w4 hB4).mono ?_; rintro e w5 ⟨⟨b1, d1, b2, d2, rfl, j1, j2⟩, hb5⟩)
            | (go_at_call 29; with_reducible refine (ahead_any rs x y a1 a2 b1 b2 c1 c2 d1 d2 w5 (i1.below hb5) (i2.below hb5) j1 j2 hlx hly).mono ?_; rintro e w6 ⟨rfl, hb6⟩)
            | fail)
        go_wp2_with fail
        go_ret
        exact ⟨ret_bool HF.out.symm, (hB4.trans (hb5.mono hB4.size)).trans (hb6.mono (by have := hB4.size; have := hb5.size; omega))⟩
  · have HF := hidB (HNO.out (.inr (.inr (by rw [hp0]; exact hp))))
    go_enter Tryz.func10, Tryz.ntmps10
    go_wp2_with (first | (go_at_call 26; with_reducible refine (HCK.out _ _).mono ?_; rintro e w1 ⟨rfl, hb1⟩; have x0 := cell_below hb1 (p := ⟨w.heap.size, 0, none⟩) (x := .int .i64 x.rule) (by simp [go_sem]); have x1 := cell_below hb1 (p := ⟨w.heap.size, 1, none⟩) (x := .slice (some ⟨bx, ox, none⟩) x.tags.length cx) (by simp [go_sem]); have y0 := cell_below hb1 (p := ⟨w.heap.size + 1, 0, none⟩) (x := .int .i64 y.rule) (by simp [go_sem]); have y1 := cell_below hb1 (p := ⟨w.heap.size + 1, 1, none⟩) (x := .slice (some ⟨by', oy, none⟩) y.tags.length cy) (by simp [go_sem])))
    go_ret
    exact ⟨ret_bool HF.out.symm, (B2 _ _).trans (hb1.mono (by simp; omega))⟩
end Go.Proofs.YtajgedhmliekoaaGreat
