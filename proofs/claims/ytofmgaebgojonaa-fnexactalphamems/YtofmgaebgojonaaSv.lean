/-
  OUR OWN TEXT. The law FnExactStoreValid, out of the contracts.
-/
import Derived.Test.YtofmgaebgojonaaSz
import Derived.Test.YtofmgaebgojonaaTo
import Derived.Test.YtofmgaebgojonaaEq
import Derived.Test.YtofmgaebgojonaaImpl3
namespace Go.Proofs.Ytofmgaebgojonaa
open Go.RowKit
attribute [local go_sem ↓] Go.wp_at_zero Go.wp_at_succ

theorem le_sum {α : Type} (g : α → Nat) (l : List α) (x : α) (h : x ∈ l) : g x ≤ (l.map g).sum := by
  induction l with
  | nil => simp at h
  | cons y r ih =>
    simp only [List.map_cons, List.sum_cons]
    rcases List.mem_cons.1 h with rfl | h
    · omega
    · have := ih h
      omega

theorem szVs_le {vs : List V} {N : Nat} (h : szVs vs ≤ N) : vs.length ≤ N ∧ ∀ v ∈ vs, v.sym.size ≤ N := by
  unfold szVs at h
  refine ⟨by omega, fun v hv => ?_⟩
  have := le_sum szV vs v hv
  have e : szV v = v.sym.size := rfl
  omega

theorem szFs_le {fs : List F} {N : Nat} (h : szFs fs ≤ N) : fs.length ≤ N ∧ ∀ f ∈ fs, f.cls.size ≤ N ∧ f.slots.length ≤ N ∧ ∀ v ∈ f.slots, v.sym.size ≤ N := by
  unfold szFs at h
  refine ⟨by omega, fun f hf => ?_⟩
  have h1 := le_sum szF fs f hf
  have e : szF f = f.cls.size + szVs f.slots := rfl
  exact ⟨by omega, szVs_le (by omega)⟩

/-- What the reading of the argument gives. -/
def Arg (fs : List F) : Prop := fs.length ≤ maxLen ∧ ∀ f ∈ fs, f.cls.size ≤ maxLen ∧ f.slots.length ≤ maxLen ∧ Read f

theorem sized_of {fs : List F} (h : szFs fs ≤ 1048576) : ∀ f ∈ fs, Sized f := fun f hf => by
  obtain ⟨h1, h2, h3⟩ := (szFs_le h).2 f hf
  refine ⟨by unfold maxLen; omega, h2, fun v hv => ?_⟩
  have := h3 v hv
  unfold maxLen
  omega

set_option maxHeartbeats 1600000 in
theorem law_sv (a : Option Addr) (c : Nat) (fs : List F) (nx cp : Int) (sg : Bool) (w : World) (hv : FactsAt w a fs) (ha : Arg fs) :
    Calls Try.prog 3 #[.agg #[.slice a fs.length c, .int .i64 nx, .int .i64 cp, .bool sg]] w fun e w' =>
      e = .returned (.bool true) ∧ Below w.heap.size w w' := by
  have B1 : ∀ o, Below w.heap.size w (w.alloc o) := fun o => (Below.refl _ _).alloc (Nat.le_refl _) _
  obtain ⟨hl0, hs0⟩ := ha
  have hr : ∀ f ∈ fs, Read f := fun f hf => (hs0 f hf).2.2
  have hs1 : ∀ f ∈ fs, f.cls.size ≤ maxLen ∧ f.slots.length ≤ maxLen ∧ ∀ v ∈ f.slots, v.sym.size ≤ maxLen := fun f hf => ⟨(hs0 f hf).1, (hs0 f hf).2.1, fun v hvv => ((hs0 f hf).2.2.2 v hvv).2.2⟩
  go_enter Try.func3, Try.ntmps3
  go_wp2_with (go_at_call 11; refine (szStore_any a c fs nx cp sg 1048576 _ (hv.below (B1 _)) hl0 hs1 (by omega) (by omega)).mono ?_; rintro e w1 ⟨⟨r, rfl, hr1⟩, hb1⟩; obtain ⟨hc1, hf1⟩ := bcell hb1)
  · go_ret
    exact ⟨rfl, (B1 _).trans (hb1.mono (by simp))⟩
  · have hsz : szFs fs ≤ 1048576 := by
      rcases hr1 with h | ⟨_, h⟩
      · omega
      · omega
    have hl := (szFs_le hsz).1
    have hs := sized_of hsz
    have hsl : ∀ f ∈ fs, f.slots.length ≤ 1048576 := fun f hf => (hs f hf).2.1
    have hB1 : Below w.heap.size w w1 := (B1 _).trans (hb1.mono (by simp))
    have q0 : w1.cell? ⟨w.heap.size, 0, none⟩ = some (.slice a fs.length c) := by rw [hc1 _ _ (by simp)]; simp [go_sem]
    have q1 : w1.cell? ⟨w.heap.size, 1, none⟩ = some (.int .i64 nx) := by rw [hc1 _ _ (by simp)]; simp [go_sem]
    have q2 : w1.cell? ⟨w.heap.size, 2, none⟩ = some (.int .i64 cp) := by rw [hc1 _ _ (by simp)]; simp [go_sem]
    have q3 : w1.cell? ⟨w.heap.size, 3, none⟩ = some (.bool sg) := by rw [hc1 _ _ (by simp)]; simp [go_sem]
    clear hc1 hf1 hs0 hs1 hl0 hr1 hb1
    refine (toStore_any a c fs nx cp sg w1 (hv.below hB1) hl hsl).mono ?_
    rintro e w2 ⟨⟨g2, gs2, hg2, rfl, ho2⟩, hb2⟩
    go_wp2_with fail
    refine (sStoreValid_any (some ⟨g2, 0, none⟩) fs.length fs nx cp sg w2 ho2.at (Nat.le_refl _) hl hs).mono ?_
    rintro e w3 ⟨rfl, hb3⟩
    have hB3 : Below w1.heap.size w1 w3 := hb2.trans (hb3.mono hb2.size)
    have hB3w : Below w.heap.size w w3 := hB1.trans (hB3.mono hB1.size)
    have r0 := cell_below hB3 q0
    have r1 := cell_below hB3 q1
    have r2 := cell_below hB3 q2
    have r3 := cell_below hB3 q3
    clear q0 q1 q2 q3 hb2 hb3 ho2
    go_wp2_with fail
    refine (toStore_any a c fs nx cp sg w3 (hv.below hB3w) hl hsl).mono ?_
    rintro e w4 ⟨⟨g4, gs4, hg4, rfl, ho4⟩, hb4⟩
    go_wp2_with fail
    have B4 : ∀ o, Below w4.heap.size w4 (w4.alloc o) := fun o => (Below.refl _ _).alloc (Nat.le_refl _) _
    have hx4 := ho4.at
    refine (storeValid_any (some ⟨g4, 0, none⟩) fs.length fs nx cp sg _ (hx4.below (B4 _)) hl hs hr).mono ?_
    rintro e w5 ⟨rfl, hb5⟩
    have hB5 : Below w4.heap.size w4 w5 := (B4 _).trans (hb5.mono (by simp))
    have hB35 : Below w3.heap.size w3 w5 := hb4.trans (hB5.mono hb4.size)
    have hB5w : Below w.heap.size w w5 := hB3w.trans (hB35.mono hB3w.size)
    have s0 := cell_below hB35 r0
    have s1 := cell_below hB35 r1
    have s2 := cell_below hB35 r2
    have s3 := cell_below hB35 r3
    have x0 : w5.cell? ⟨w4.heap.size, 0, none⟩ = some (.slice (some ⟨g4, 0, none⟩) fs.length fs.length) := cell_below hb5 (by simp [go_sem])
    have x1 : w5.cell? ⟨w4.heap.size, 1, none⟩ = some (.int .i64 nx) := cell_below hb5 (by simp [go_sem])
    have x2 : w5.cell? ⟨w4.heap.size, 2, none⟩ = some (.int .i64 cp) := cell_below hb5 (by simp [go_sem])
    have x3 : w5.cell? ⟨w4.heap.size, 3, none⟩ = some (.bool sg) := cell_below hb5 (by simp [go_sem])
    have hx5 := hx4.below hB5
    have hv5 := hv.below hB5w
    have hne : (sValid fs nx cp sg != sValid fs nx cp sg) = false := by simp
    clear r0 r1 r2 r3 hb5 hb4 hx4 ho4 hB3 hv B4
    go_wp2_with fail
    go_region_held3 (fun w' => w'.cell? ⟨w.heap.size, 0, none⟩ = some (.slice a fs.length c) ∧ w'.cell? ⟨w.heap.size, 1, none⟩ = some (.int .i64 nx) ∧ w'.cell? ⟨w.heap.size, 2, none⟩ = some (.int .i64 cp) ∧ w'.cell? ⟨w.heap.size, 3, none⟩ = some (.bool sg) ∧ w'.cell? ⟨w4.heap.size, 0, none⟩ = some (.slice (some ⟨g4, 0, none⟩) fs.length fs.length) ∧ w'.cell? ⟨w4.heap.size, 1, none⟩ = some (.int .i64 nx) ∧ w'.cell? ⟨w4.heap.size, 2, none⟩ = some (.int .i64 cp) ∧ w'.cell? ⟨w4.heap.size, 3, none⟩ = some (.bool sg))
      ((go_split_ands; refine ⟨?_, ?_, ?_, ?_, ?_, ?_, ?_, ?_⟩ <;> first | assumption | exact cell_below hb6 (by assumption) | exact cell_below hb7 (cell_below hb6 (by assumption))))
      (first | (go_at_call 13; refine (toStore_any a c fs nx cp sg _ (hv5.below ?_) hl hsl).mono ?_; exact (Below.refl _ _).drew; rintro e w6 ⟨⟨g6, gs6, hg6, rfl, ho6⟩, hb6⟩) | (go_at_call 15; refine (eqStore_same (some ⟨g4, 0, none⟩) (some ⟨g6, 0, none⟩) fs.length fs.length fs nx cp sg _ (hx5.below ?_) ho6.at hl hsl).mono ?_; exact (Below.refl _ _).drew.trans hb6; rintro e w7 ⟨rfl, hb7⟩))
    go_wp2
    go_ret
    exact ⟨rfl, (hB5w.drew.trans (hb6.mono hB5w.size)).trans (hb7.mono (Nat.le_trans hB5w.size hb6.size))⟩
end Go.Proofs.Ytofmgaebgojonaa
