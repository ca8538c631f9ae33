/-
  OUR OWN TEXT. The law FnExactEvalExpr, out of the contracts (the model's own EvalExpr is handed in as a letter, SEv).
-/
import Derived.Test.YtpiglmkpmlogjaaSzB
import Derived.Test.YtpiglmkpmlogjaaToB
import Derived.Test.YtpiglmkpmlogjaaEqB
import Derived.Test.YtpiglmkpmlogjaaEv7
namespace Go.Proofs.Ytpiglmkpmlogjaa
open Go.RowKit
attribute [local go_sem ↓] Go.wp_at_zero Go.wp_at_succ

/-- What is asked of the model's EvalExpr. -/
def SEv : Prop := ∀ (es : List Ex) (a : Option Addr) (c : Nat) (a2 : Option Addr) (cb : Nat) (bs : List Bd) (i : Int) (q q' : Option Nat) (w : World), ExsAt q w a es → BdsAt q' w a2 bs → es.length ≤ 1048576 → bs.length ≤ 1048576 → OpsOkE es → (∀ e ∈ es, fits e.val.num = true) → (∀ b ∈ bs, fits b.val.num = true) →
  Calls Try.prog 75 #[.slice a es.length c, .slice a2 bs.length cb, .int .i64 i] w fun r w' => r = .returned (evV (evalX es bs i)) ∧ Below w.heap.size w w'

set_option maxHeartbeats 3200000 in
theorem law_ev (SE : SEv) (es : List Ex) (a : Option Addr) (c : Nat) (bs : List Bd) (a2 : Option Addr) (c2 : Nat) (i : Int) (w : World) (hv : ExsAt none w a es) (hv2 : BdsAt none w a2 bs) (hs0 : ListLe Ex.le maxLen es) (hs2 : ListLe Bd.le maxLen bs) (ho : OpsOkE es) (hfe : ∀ e ∈ es, fits e.val.num = true) (hfb : ∀ b ∈ bs, fits b.val.num = true) :
    Calls Try.prog 12 #[.slice a es.length c, .slice a2 bs.length c2, .int .i64 i] w fun e w' => e = .returned (.bool true) ∧ Below w.heap.size w w' := by
  have HO := hidE ho
  have HE := hidE hfe
  have HF := hidE hfb
  have HC := hidE SE
  clear ho hfe hfb SE
  obtain ⟨p, hp⟩ : ∃ p, evalX es bs i = p := ⟨_, rfl⟩
  have HP := hidE hp
  clear hp
  go_enter Try.func12, Try.ntmps12
  go_wp2_with (go_at_call 73; refine (szExprS_any a c es 1048576 _ hv hs0 (by omega) (by omega)).mono ?_; rintro e w1 ⟨⟨r, rfl, hr1⟩, hb1⟩)
  · go_ret
    exact ⟨rfl, hb1⟩
  · have hsz : szL Ex.sz es ≤ 1048576 := by
      rcases hr1 with h | ⟨_, h⟩
      · omega
      · omega
    have hle : ListLe Ex.le 1048576 es := listLe Ex.le_sz hsz
    have hr0 : 0 ≤ r := by omega
    have hr2 : r ≤ 1048576 := by
      rcases hr1 with h | ⟨_, h⟩
      · omega
      · omega
    clear hr1 hs0 hsz
    refine (szBindS_any a2 c2 bs r w1 (hv2.below hb1) hs2 hr0 hr2).mono ?_
    rintro e w2 ⟨⟨r2, rfl, hq2⟩, hb2⟩
    have hB2 : Below w.heap.size w w2 := hb1.trans (hb2.mono hb1.size)
    by_cases hneg : r2 < 0
    · go_wp2_with fail
      go_ret
      exact ⟨rfl, hB2⟩
    have hle2 : ListLe Bd.le 1048576 bs := by
      have hsz : szL Bd.sz bs ≤ 1048576 := by
        rcases hq2 with h | ⟨_, h⟩
        · omega
        · omega
      exact listLe Bd.le_sz hsz
    clear hq2 hs2 hr0 hr2
    go_wp2_with fail
    refine (toExprS_any a c es w2 (hv.below hB2) hle).mono ?_
    rintro e w3 ⟨⟨g3, hg3, rfl, ho3⟩, hb3⟩
    have hB3 : Below w.heap.size w w3 := hB2.trans (hb3.mono hB2.size)
    go_wp2_with fail
    refine (toBindS_any a2 c2 bs w3 (hv2.below hB3) hle2).mono ?_
    rintro e w4 ⟨⟨g4, hg4, rfl, ho4⟩, hb4⟩
    have hB4 : Below w.heap.size w w4 := hB3.trans (hb4.mono hB3.size)
    go_wp2_with fail
    refine (HC.out es (some ⟨g3, 0, none⟩) es.length (some ⟨g4, 0, none⟩) bs.length bs i _ _ w4 (ho3.below hb4) ho4 hle.1 hle2.1 HO.out HE.out HF.out).mono ?_
    rintro e w5 ⟨rfl, hb5⟩
    rw [HP.out]
    unfold evV
    have hB5 : Below w.heap.size w w5 := hB4.trans (hb5.mono hB4.size)
    clear ho3 ho4 hb3 hb4 hb5
    go_wp2_with fail
    have hA5 : ∀ o, Below w.heap.size w (w5.alloc o) := fun o => hB5.alloc hB5.size _
    refine (toExprS_any a c es _ (hv.below (hA5 _)) hle).mono ?_
    rintro e w6 ⟨⟨g6, hg6, rfl, ho6⟩, hb6⟩
    have r0 : w6.cell? ⟨w5.heap.size, 0, none⟩ = some (.int .i64 p.code) := cell_below hb6 (by simp [go_sem])
    have r1 : w6.cell? ⟨w5.heap.size, 1, none⟩ = some (.int .i64 p.val.kind) := cell_below hb6 (by simp [go_sem])
    have r2' : w6.cell? ⟨w5.heap.size, 2, none⟩ = some (.int .i64 p.val.num) := cell_below hb6 (by simp [go_sem])
    have r3 : w6.cell? ⟨w5.heap.size, 3, none⟩ = some (.string p.val.sym) := cell_below hb6 (by simp [go_sem])
    have hB6 : Below w.heap.size w w6 := (hA5 _).trans (hb6.mono (hA5 _).size)
    clear hb6
    go_wp2_with fail
    refine (toBindS_any a2 c2 bs w6 (hv2.below hB6) hle2).mono ?_
    rintro e w7 ⟨⟨g7, hg7, rfl, ho7⟩, hb7⟩
    have hB7 : Below w.heap.size w w7 := hB6.trans (hb7.mono hB6.size)
    have q0 := cell_below hb7 r0
    have q1 := cell_below hb7 r1
    have q2 := cell_below hb7 r2'
    have q3 := cell_below hb7 r3
    have ho6' := ho6.below hb7
    clear r0 r1 r2' r3 hb7 ho6
    go_wp2_with fail
    refine (iEval_any es (some ⟨g6, 0, none⟩) es.length (some ⟨g7, 0, none⟩) bs.length bs i w7 ho6' ho7 hle.1 hle2.1 (Nat.le_refl _) HO.out HE.out HF.out).mono ?_
    rintro e w8 ⟨rfl, hb8⟩
    rw [HP.out]
    unfold evV
    have s0 := cell_below hb8 q0
    have s1 := cell_below hb8 q1
    have s2 := cell_below hb8 q2
    have s3 := cell_below hb8 q3
    have hB8 : Below w.heap.size w w8 := hB7.trans (hb8.mono hB7.size)
    have ho8 := ho6'.below hb8
    have hp8 := ho7.below hb8
    have hs58 : w5.heap.size < w8.heap.size := World.block_lt_of_cell? w8 ⟨w5.heap.size, 0, none⟩ s0
    have hA8 : ∀ o, Below w8.heap.size w8 (w8.alloc o) := fun o => (Below.refl _ _).alloc (Nat.le_refl _) _
    clear q0 q1 q2 q3 ho6' ho7 hb8
    have t0 : ∀ o, (w8.alloc o).cell? ⟨w5.heap.size, 0, none⟩ = some (.int .i64 p.code) := fun o => cell_below (hA8 o) s0
    have t1 : ∀ o, (w8.alloc o).cell? ⟨w5.heap.size, 1, none⟩ = some (.int .i64 p.val.kind) := fun o => cell_below (hA8 o) s1
    have t2 : ∀ o, (w8.alloc o).cell? ⟨w5.heap.size, 2, none⟩ = some (.int .i64 p.val.num) := fun o => cell_below (hA8 o) s2
    have t3 : ∀ o, (w8.alloc o).cell? ⟨w5.heap.size, 3, none⟩ = some (.string p.val.sym) := fun o => cell_below (hA8 o) s3
    clear s0 s1 s2 s3
    go_wp2_with fail
    refine (eqEval_same p _).mono ?_
    rintro e w9 ⟨rfl, hb9⟩
    have hB9 : Below w.heap.size w w9 := (hB8.alloc hB8.size _).trans (hb9.mono (by simp; have := hB8.size; omega))
    have ho9 := (ho8.below (hA8 _)).below hb9
    have hp9 := (hp8.below (hA8 _)).below hb9
    clear ho8 hp8 hb9 t0 t1 t2 t3
    go_wp2_with fail
    refine (toExprS_any a c es w9 (hv.below hB9) hle).mono ?_
    rintro e w10 ⟨⟨g10, hg10, rfl, ho10⟩, hb10⟩
    have hB10 : Below w.heap.size w w10 := hB9.trans (hb10.mono hB9.size)
    go_wp2_with fail
    refine (eqExprS_same (some ⟨g6, 0, none⟩) (some ⟨g10, 0, none⟩) es.length es.length es w10 (ho9.below hb10) ho10 hle).mono ?_
    rintro e w11 ⟨rfl, hb11⟩
    have hB11 : Below w.heap.size w w11 := hB10.trans (hb11.mono hB10.size)
    have hp11 := (hp9.below hb10).below hb11
    clear ho10 ho9 hp9 hb10 hb11
    go_wp2_with fail
    refine (toBindS_any a2 c2 bs w11 (hv2.below hB11) hle2).mono ?_
    rintro e w12 ⟨⟨g12, hg12, rfl, ho12⟩, hb12⟩
    have hB12 : Below w.heap.size w w12 := hB11.trans (hb12.mono hB11.size)
    go_wp2_with fail
    refine (eqBindS_same (some ⟨g7, 0, none⟩) (some ⟨g12, 0, none⟩) bs.length bs.length bs w12 (hp11.below hb12) ho12 hle2).mono ?_
    rintro e w13 ⟨rfl, hb13⟩
    go_wp2
    go_ret
    exact ⟨rfl, hB12.trans (hb13.mono hB12.size)⟩
end Go.Proofs.Ytpiglmkpmlogjaa
