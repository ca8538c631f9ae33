/-
  OUR OWN TEXT. The program's table of changes; Retract through it.
-/
import Derived.Test.YtlkfmbpbgnhcjabRet
namespace Go.Proofs.Ytlkfmbpbgnhcjab
open Go.RowKit Go.Maps
attribute [local go_sem ↓] Go.wp_at_zero Go.wp_at_succ

def chg : List Value := [.nilFunc, .func (.func 79) #[] #[], .func (.func 80) #[] #[], .func (.func 81) #[] #[]]
theorem infoT : (Try.prog.info? 129).map (·.size) = some 4 := by kernel_rfl
theorem chg_one : ∀ v ∈ chg, v.oneCell' = true := by
  intro v hv
  simp only [chg, List.mem_cons, List.not_mem_nil, or_false] at hv
  rcases hv with rfl | rfl | rfl | rfl <;> rfl

theorem changeBy_any (k : Nat) (v : Value) (hk : k < 4) (hv : chg[k]? = some v) (w : World) : Calls Try.prog 43 #[.int .i64 k] w fun e w' => e = .returned v ∧ Below w.heap.size w w' := by
  have h0 : (0 : Int) ≤ (k : Int) := by omega
  have h1 : (k : Int) < 4 := by omega
  go_enter Try.func43, Try.ntmps43
  go_wp2_with (first | (refine wpList_store_blk (by rfl) 129 (.tmp 3) (.tmp 4) (by rfl) w.heap.size chg (by rfl) (by rfl) _ 129 (new_blk _ _ _ rfl) (by rfl) infoT chg_one ?_; intro w1 hb1 ht1; have hcell := range_blk hb1.out k v hv; rw [Nat.zero_add] at hcell) | fail)
  go_ret
  exact ⟨rfl, ((Below.refl _ _).alloc (Nat.le_refl _) _).trans (ht1.out.below (Nat.le_refl _))⟩

set_option maxRecDepth 100000 in
set_option maxHeartbeats 1600000 in
theorem iRetract_any (a : Option Addr) (c : Nat) (fs : List F) (nx cp : Int) (sg : Bool) (tag : Int) (w : World) (hv : FactsAt w a fs) (hc : fs.length ≤ c) (hl : fs.length ≤ 1048576) (hs : ∀ f ∈ fs, Sized f) (hr : ∀ f ∈ fs, Read f) (hw : (Lit.int .i64 tag).wf = true) :
    Calls Try.prog 12 #[.agg #[.slice a fs.length c, .int .i64 nx, .int .i64 cp, .bool sg], .int .i64 tag] w fun e w' =>
      (∃ a' c' xs, e = .returned ((retr fs nx cp sg tag).val a' c') ∧ OFs w' w.heap.size (.slice a' (retr fs nx cp sg tag).fs.length c') (retr fs nx cp sg tag).fs.length (retr fs nx cp sg tag).fs xs) ∧ Below w.heap.size w w' := by
  have B2 : ∀ o o', Below w.heap.size w ((w.alloc o).alloc o') := fun o o' => ((Below.refl _ _).alloc (Nat.le_refl _) _).alloc (by simp) _
  go_enter Try.func12, Try.ntmps12
  go_wp2_with fail
  go_region_held3 (fun w' => w'.cell? ⟨w.heap.size, 0, none⟩ = some (.slice a fs.length c) ∧ w'.cell? ⟨w.heap.size, 1, none⟩ = some (.int .i64 nx) ∧ w'.cell? ⟨w.heap.size, 2, none⟩ = some (.int .i64 cp) ∧ w'.cell? ⟨w.heap.size, 3, none⟩ = some (.bool sg))
    ((go_split_ands; refine ⟨?_, ?_, ?_, ?_⟩ <;> first | ((with_reducible refine cell_set (cell_set (cell_set (cell_set (cell_set (cell_set ?_ ?_ _) ?_ _) ?_ _) ?_ _) ?_ _) ?_ _) <;> first | with_reducible assumption | (dsimp only; omega)) | with_reducible exact cell_below hb2 (by assumption) | with_reducible exact cell_below hb1 (by assumption) | (simp [go_sem]; done)))
    (first | (go_at_call 43; refine (changeBy_any 2 _ (by omega) rfl _).mono ?_; rintro e w1 ⟨rfl, hb1⟩) | (go_at_call 80; refine (retract_any a c fs nx cp sg ByteArray.empty tag none 0 0 _ (hv.below ?_) hc hl hs hr hw).mono ?_; exact (B2 _ _).drew.trans (hb1.mono (by simp; omega)); rintro e w2 ⟨⟨a2, c2, xs2, rfl, ho2⟩, hb2⟩; dsimp only [C6.val]; obtain ⟨x0, x1, x2, x3, x4, x5, y0, y1, y2, y3, y4, y5, z0, z1, z2, z3, z4, z5⟩ := six (b := w.heap.size + 1) (t := 33) ((hb2.block _ (Nat.lt_of_lt_of_le (by simp) hb1.size)).trans ((hb1.block _ (by simp)).trans (new_blk _ _ _ (by simp)))) rfl) | fail)
  go_wp2
  have hB1 : Below w.heap.size w w1 := (B2 _ _).drew.trans (hb1.mono (by simp; omega))
  have hz : w.heap.size + 1 + 1 ≤ w1.heap.size := by have := hb1.size; simpa using this
  refine bodyPost_ret (v := (retr fs nx cp sg tag).val a2 c2) (by simp [results, Try.results12, go_sem, C6.val, *]) rfl ⟨⟨a2, c2, xs2, rfl, ?_⟩, ?_⟩
  · exact ((((((ho2.set (by simp; omega) _).set (by simp; omega) _).set (by simp; omega) _).set (by simp; omega) _).set (by simp; omega) _).set (by simp; omega) _).lower hB1.size
  · exact ((((((hB1.trans (hb2.mono hB1.size)).setCell (by simp) _).setCell (by simp) _).setCell (by simp) _).setCell (by simp) _).setCell (by simp) _).setCell (by simp) _
end Go.Proofs.Ytlkfmbpbgnhcjab
