/-
  OUR OWN TEXT. The program's Modify, through its table.
-/
import Derived.Test.YtlkfmbpbgnhcjabMo
namespace Go.Proofs.Ytlkfmbpbgnhcjab
open Go.RowKit Go.Maps
attribute [local go_sem ↓] Go.wp_at_zero Go.wp_at_succ

theorem modify_any (a : Option Addr) (c : Nat) (fs : List F) (nx cp : Int) (sg : Bool) (cls : ByteArray) (tag : Int) (sa : Option Addr) (sc : Nat) (vs : List V) (w : World) (hv : FactsAt w a fs) (hsv : ValsAt w sa vs) (hc : fs.length ≤ c) (hl : fs.length ≤ 1048576) (hs : ∀ f ∈ fs, Sized f) (hr : ∀ f ∈ fs, Read f) (hwt : (Lit.int .i64 tag).wf = true) (hvl : vs.length ≤ 1048576) (hvs : ∀ v ∈ vs, VOk v) :
    Calls Try.prog 81 #[.agg #[.slice a fs.length c, .int .i64 nx, .int .i64 cp, .bool sg], .agg #[.string cls, .int .i64 tag, .slice sa vs.length sc]] w fun e w' =>
      (∃ a' c' xs, e = .returned ((mdfy fs nx cp sg tag vs).val a' c') ∧ OFs w' w.heap.size (.slice a' (mdfy fs nx cp sg tag vs).fs.length c') (mdfy fs nx cp sg tag vs).fs.length (mdfy fs nx cp sg tag vs).fs xs) ∧ Below w.heap.size w w' := by
  cases h : (sValid fs nx cp sg && gSlots vs)
  · rw [mdfy_bad h]
    exact modify_bad a c fs nx cp sg cls tag sa sc vs w hv hsv hl hs hr hvl (fun v h => (hvs v h).2.2) h
  · simp only [Bool.and_eq_true] at h
    exact modify_ok a c fs nx cp sg cls tag sa sc vs w hv hsv hc hl hs hr hwt hvl hvs h.1 h.2

set_option maxRecDepth 100000 in
set_option maxHeartbeats 1600000 in
theorem iModify_any (a : Option Addr) (c : Nat) (fs : List F) (nx cp : Int) (sg : Bool) (tag : Int) (sa : Option Addr) (sc : Nat) (vs : List V) (w : World) (hv : FactsAt w a fs) (hsv : ValsAt w sa vs) (hc : fs.length ≤ c) (hl : fs.length ≤ 1048576) (hs : ∀ f ∈ fs, Sized f) (hr : ∀ f ∈ fs, Read f) (hwt : (Lit.int .i64 tag).wf = true) (hvl : vs.length ≤ 1048576) (hvs : ∀ v ∈ vs, VOk v) :
    Calls Try.prog 13 #[.agg #[.slice a fs.length c, .int .i64 nx, .int .i64 cp, .bool sg], .int .i64 tag, .slice sa vs.length sc] w fun e w' =>
      (∃ a' c' xs, e = .returned ((mdfy fs nx cp sg tag vs).val a' c') ∧ OFs w' w.heap.size (.slice a' (mdfy fs nx cp sg tag vs).fs.length c') (mdfy fs nx cp sg tag vs).fs.length (mdfy fs nx cp sg tag vs).fs xs) ∧ Below w.heap.size w w' := by
  have B2 : ∀ o o', Below w.heap.size w ((w.alloc o).alloc o') := fun o o' => ((Below.refl _ _).alloc (Nat.le_refl _) _).alloc (by simp) _
  go_enter Try.func13, Try.ntmps13
  go_wp2_with fail
  go_region_held3 (fun w' => w'.cell? ⟨w.heap.size, 0, none⟩ = some (.slice a fs.length c) ∧ w'.cell? ⟨w.heap.size, 1, none⟩ = some (.int .i64 nx) ∧ w'.cell? ⟨w.heap.size, 2, none⟩ = some (.int .i64 cp) ∧ w'.cell? ⟨w.heap.size, 3, none⟩ = some (.bool sg))
    ((go_split_ands; refine ⟨?_, ?_, ?_, ?_⟩ <;> first | ((with_reducible refine cell_set (cell_set (cell_set (cell_set (cell_set (cell_set ?_ ?_ _) ?_ _) ?_ _) ?_ _) ?_ _) ?_ _) <;> first | with_reducible assumption | (dsimp only; omega)) | with_reducible exact cell_below hb2 (by assumption) | with_reducible exact cell_below hb1 (by assumption) | (simp [go_sem]; done)))
    (first | (go_at_call 43; refine (changeBy_any 3 _ (by omega) rfl _).mono ?_; rintro e w1 ⟨rfl, hb1⟩) | (go_at_call 81; refine (modify_any a c fs nx cp sg ByteArray.empty tag sa sc vs _ (hv.below ?_) (hsv.below ?_) hc hl hs hr hwt hvl hvs).mono ?_; exact (B2 _ _).drew.trans (hb1.mono (by simp; omega)); exact (B2 _ _).drew.trans (hb1.mono (by simp; omega)); rintro e w2 ⟨⟨a2, c2, xs2, rfl, ho2⟩, hb2⟩; dsimp only [C6.val]; obtain ⟨x0, x1, x2, x3, x4, x5, y0, y1, y2, y3, y4, y5, z0, z1, z2, z3, z4, z5⟩ := six (b := w.heap.size + 1) (t := 33) ((hb2.block _ (Nat.lt_of_lt_of_le (by simp) hb1.size)).trans ((hb1.block _ (by simp)).trans (new_blk _ _ _ (by simp)))) rfl) | fail)
  go_wp2
  have hB1 : Below w.heap.size w w1 := (B2 _ _).drew.trans (hb1.mono (by simp; omega))
  have hz : w.heap.size + 1 + 1 ≤ w1.heap.size := by have := hb1.size; simpa using this
  refine bodyPost_ret (v := (mdfy fs nx cp sg tag vs).val a2 c2) (by simp [results, Try.results13, go_sem, C6.val, *]) rfl ⟨⟨a2, c2, xs2, rfl, ?_⟩, ?_⟩
  · exact ((((((ho2.set (by simp; omega) _).set (by simp; omega) _).set (by simp; omega) _).set (by simp; omega) _).set (by simp; omega) _).set (by simp; omega) _).lower hB1.size
  · exact ((((((hB1.trans (hb2.mono hB1.size)).setCell (by simp) _).setCell (by simp) _).setCell (by simp) _).setCell (by simp) _).setCell (by simp) _).setCell (by simp) _
end Go.Proofs.Ytlkfmbpbgnhcjab
