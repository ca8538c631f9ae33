/-
  OUR OWN TEXT. The laws' own comparisons: Binds and values of exprs (made by lawgen4.py).
-/
import Derived.Test.YtpiglmkpmlogjaaTyB
import Derived.Test.YtpiglmkpmlogjaaEqR
import Derived.Deep.RegionHeld3
import Derived.Deep.DrawnRows
namespace Go.Proofs.Ytpiglmkpmlogjaa
open Go.RowKit
attribute [local go_sem ↓] Go.wp_at_zero Go.wp_at_succ

set_option maxHeartbeats 800000 in
theorem eqBind_same (x : Bd) (w : World) :
    Calls Try.prog 144 #[.agg #[.string x.var, .int .i64 x.val.kind, .int .i64 x.val.num, .string x.val.sym], .agg #[.string x.var, .int .i64 x.val.kind, .int .i64 x.val.num, .string x.val.sym]] w fun e w' =>
      e = .returned (.bool true) ∧ Below w.heap.size w w' := by
  have B0 : ∀ o o', Below w.heap.size w ((w.alloc o).alloc o') := fun o o' => ((Below.refl _ _).alloc (Nat.le_refl _) _).alloc (by simp) _
  go_enter Try.func144, Try.ntmps144
  go_wp2_with (go_at_call 93; refine (eqValue_same x.val _).mono ?_; rintro e w1 ⟨rfl, hb1⟩; have hB1 : Below w.heap.size w w1 := (B0 _ _).trans (hb1.mono (by simp; omega)))
  go_ret
  exact ⟨rfl, hB1⟩

set_option maxHeartbeats 1600000 in
theorem eqBindS_same (a a' : Option Addr) (c c' : Nat) (xs : List Bd) (w : World) {q q' : Option Nat} (hv : BdsAt q w a xs) (hv' : BdsAt q' w a' xs) (hs : ListLe Bd.le 1048576 xs) :
    Calls Try.prog 81 #[.slice a xs.length c, .slice a' xs.length c'] w fun e w' =>
      e = .returned (.bool true) ∧ Below w.heap.size w w' := by
  obtain ⟨hl, hs⟩ := hs
  go_enter Try.func81, Try.ntmps81
  go_wp2
  go_loopw [5] (fun i wr => ∃ (k : Nat), k ≤ xs.length ∧ i = .int .i64 k ∧ Below w.heap.size w wr) (fun i _ => xs.length - (intOf i).toNat)
  case atStart => exact ⟨0, by omega, rfl, Below.refl _ _⟩
  case round =>
    obtain ⟨k, hk, rfl, hb⟩ := hrel
    by_cases hkl : k < xs.length
    · obtain ⟨x, hxk⟩ : ∃ x, xs[k]? = some x := ⟨xs[k], by simp [hkl]⟩
      obtain ⟨b, o, rfl, hq, c0, c1, c2, c3⟩ := (hv.below hb).get hxk
      obtain ⟨b', o', rfl, hq', d0, d1, d2, d3⟩ := (hv'.below hb).get hxk
      have z0 : (0 : Int) ≤ (k : Int) := by omega
      have z1 : (k : Int) < (xs.length : Int) := by omega
      have hsx := hs x (List.mem_of_getElem? hxk)
      have B1 : Below wr.heap.size wr wr.drew := (Below.refl _ _).drew
      go_wp2
      go_region_held3 (fun w' => w'.cell? ⟨b, o + k * 4, none⟩ = some (.string x.var) ∧ w'.cell? ⟨b, o + k * 4 + 1, none⟩ = some (.int .i64 x.val.kind) ∧ w'.cell? ⟨b, o + k * 4 + 2, none⟩ = some (.int .i64 x.val.num) ∧ w'.cell? ⟨b, o + k * 4 + 3, none⟩ = some (.string x.val.sym) ∧ w'.cell? ⟨b', o' + k * 4, none⟩ = some (.string x.var) ∧ w'.cell? ⟨b', o' + k * 4 + 1, none⟩ = some (.int .i64 x.val.kind) ∧ w'.cell? ⟨b', o' + k * 4 + 2, none⟩ = some (.int .i64 x.val.num) ∧ w'.cell? ⟨b', o' + k * 4 + 3, none⟩ = some (.string x.val.sym)) ((go_split_ands; refine ⟨?_, ?_, ?_, ?_, ?_, ?_, ?_, ?_⟩ <;> first | (simp [*]; done) | exact cell_below hb' (by simp [*])))
        (first | (go_at_call 144; refine (eqBind_same x _).mono ?_; rintro e w' ⟨rfl, hb'⟩))
      go_wp2
      go_roundw
      case rel => exact ⟨k + 1, by omega, by go_num, hb.drew.trans (hb'.mono hb.size)⟩
      case measure => simp [intOf]; omega
    · go_wp2
      go_ret
      exact ⟨rfl, hb⟩

set_option maxHeartbeats 800000 in
theorem eqEval_same (x : Ev) (w : World) :
    Calls Try.prog 79 #[.agg #[.int .i64 x.code, .int .i64 x.val.kind, .int .i64 x.val.num, .string x.val.sym], .agg #[.int .i64 x.code, .int .i64 x.val.kind, .int .i64 x.val.num, .string x.val.sym]] w fun e w' =>
      e = .returned (.bool true) ∧ Below w.heap.size w w' := by
  have B0 : ∀ o o', Below w.heap.size w ((w.alloc o).alloc o') := fun o o' => ((Below.refl _ _).alloc (Nat.le_refl _) _).alloc (by simp) _
  go_enter Try.func79, Try.ntmps79
  go_wp2_with (go_at_call 93; refine (eqValue_same x.val _).mono ?_; rintro e w1 ⟨rfl, hb1⟩; have hB1 : Below w.heap.size w w1 := (B0 _ _).trans (hb1.mono (by simp; omega)))
  go_ret
  exact ⟨rfl, hB1⟩

end Go.Proofs.Ytpiglmkpmlogjaa
