/-
  OUR OWN TEXT. EqA, EqAl, one behind the other.
-/
import Derived.Test.YtgamdkokmkagaaaGreatQb
import Derived.Test.YtgamdkokmkagaaaGreatKe
import Derived.Deep.RegionHeld3
import Derived.Deep.DrawnRows
namespace Go.Proofs.YtgamdkokmkagaaaGreat
open Go.RowKit
attribute [local go_sem ↓] Go.wp_at_zero Go.wp_at_succ

set_option maxHeartbeats 800000 in
theorem eqAlphaTest_same (x : Tt) (w : World) :
    Calls Tryz.prog 96 #[.agg #[.int .i64 x.slot, .int .i64 x.op, .int .i64 x.other, .int .i64 x.val.kind, .int .i64 x.val.num, .string x.val.sym], .agg #[.int .i64 x.slot, .int .i64 x.op, .int .i64 x.other, .int .i64 x.val.kind, .int .i64 x.val.num, .string x.val.sym]] w fun e w' =>
      e = .returned (.bool true) ∧ Below w.heap.size w w' := by
  have B0 : ∀ o o', Below w.heap.size w ((w.alloc o).alloc o') := fun o o' => ((Below.refl _ _).alloc (Nat.le_refl _) _).alloc (by simp) _
  go_enter Tryz.func96, Tryz.ntmps96
  go_wp2_with (go_at_call 98; refine (eqValue_same x.val _).mono ?_; rintro e w1 ⟨rfl, hb1⟩; have hB1 : Below w.heap.size w w1 := (B0 _ _).trans (hb1.mono (by simp; omega)))
  go_ret
  exact ⟨rfl, hB1⟩

set_option maxHeartbeats 1600000 in
theorem eqAlphaTestS_same (a a' : Option Addr) (c c' : Nat) (xs : List Tt) (w : World) {q q' : Option Nat} (hv : TtsAt q w a xs) (hv' : TtsAt q' w a' xs) (hs : ListLe Tt.le 1048576 xs) :
    Calls Tryz.prog 72 #[.slice a xs.length c, .slice a' xs.length c'] w fun e w' =>
      e = .returned (.bool true) ∧ Below w.heap.size w w' := by
  obtain ⟨hl, hs⟩ := hs
  go_enter Tryz.func72, Tryz.ntmps72
  go_wp2
  go_loopw [5] (fun i wr => ∃ (k : Nat), k ≤ xs.length ∧ i = .int .i64 k ∧ Below w.heap.size w wr) (fun i _ => xs.length - (intOf i).toNat)
  case atStart => exact ⟨0, by omega, rfl, Below.refl _ _⟩
  case round =>
    obtain ⟨k, hk, rfl, hb⟩ := hrel
    by_cases hkl : k < xs.length
    · obtain ⟨x, hxk⟩ : ∃ x, xs[k]? = some x := ⟨xs[k], by simp [hkl]⟩
      obtain ⟨b, o, rfl, hq, c0, c1, c2, c3, c4, c5⟩ := (hv.below hb).get hxk
      obtain ⟨b', o', rfl, hq', d0, d1, d2, d3, d4, d5⟩ := (hv'.below hb).get hxk
      have z0 : (0 : Int) ≤ (k : Int) := by omega
      have z1 : (k : Int) < (xs.length : Int) := by omega
      have hsx := hs x (List.mem_of_getElem? hxk)
      have B1 : Below wr.heap.size wr wr.drew := (Below.refl _ _).drew
      go_wp2
      go_region_held3 (fun w' => w'.cell? ⟨b, o + k * 6, none⟩ = some (.int .i64 x.slot) ∧ w'.cell? ⟨b, o + k * 6 + 1, none⟩ = some (.int .i64 x.op) ∧ w'.cell? ⟨b, o + k * 6 + 2, none⟩ = some (.int .i64 x.other) ∧ w'.cell? ⟨b, o + k * 6 + 3, none⟩ = some (.int .i64 x.val.kind) ∧ w'.cell? ⟨b, o + k * 6 + 4, none⟩ = some (.int .i64 x.val.num) ∧ w'.cell? ⟨b, o + k * 6 + 5, none⟩ = some (.string x.val.sym) ∧ w'.cell? ⟨b', o' + k * 6, none⟩ = some (.int .i64 x.slot) ∧ w'.cell? ⟨b', o' + k * 6 + 1, none⟩ = some (.int .i64 x.op) ∧ w'.cell? ⟨b', o' + k * 6 + 2, none⟩ = some (.int .i64 x.other) ∧ w'.cell? ⟨b', o' + k * 6 + 3, none⟩ = some (.int .i64 x.val.kind) ∧ w'.cell? ⟨b', o' + k * 6 + 4, none⟩ = some (.int .i64 x.val.num) ∧ w'.cell? ⟨b', o' + k * 6 + 5, none⟩ = some (.string x.val.sym)) ((go_split_ands; refine ⟨?_, ?_, ?_, ?_, ?_, ?_, ?_, ?_, ?_, ?_, ?_, ?_⟩ <;> first | (simp [*]; done) | exact cell_below hb' (by simp [*])))
        (first | (go_at_call 96; refine (eqAlphaTest_same x _).mono ?_; rintro e w' ⟨rfl, hb'⟩))
      go_wp2
      go_roundw
      case rel => exact ⟨k + 1, by omega, by go_num, hb.drew.trans (hb'.mono hb.size)⟩
      case measure => simp [intOf]; omega
    · go_wp2
      go_ret
      exact ⟨rfl, hb⟩

set_option maxHeartbeats 800000 in
theorem eqAlpha_same (x : Al) (a_tests a_tests' : Option Addr) (c_tests c_tests' : Nat) {q q' : Option Nat} (w : World) (h_tests : TtsAt q w a_tests x.tests) (h_tests' : TtsAt q' w a_tests' x.tests) (hs : x.le 1048576) :
    Calls Tryz.prog 44 #[.agg #[.string x.cls, .int .i64 x.arity, .slice a_tests x.tests.length c_tests], .agg #[.string x.cls, .int .i64 x.arity, .slice a_tests' x.tests.length c_tests']] w fun e w' =>
      e = .returned (.bool true) ∧ Below w.heap.size w w' := by
  obtain ⟨s_cls, s_tests⟩ := hs
  have B0 : ∀ o o', Below w.heap.size w ((w.alloc o).alloc o') := fun o o' => ((Below.refl _ _).alloc (Nat.le_refl _) _).alloc (by simp) _
  go_enter Tryz.func44, Tryz.ntmps44
  go_wp2_with (go_at_call 72; refine (eqAlphaTestS_same a_tests a_tests' c_tests c_tests' x.tests _ (h_tests.below (B0 _ _)) (h_tests'.below (B0 _ _)) s_tests).mono ?_; rintro e w1 ⟨rfl, hb1⟩; have hB1 : Below w.heap.size w w1 := (B0 _ _).trans (hb1.mono (by simp; omega)))
  go_ret
  exact ⟨rfl, hB1⟩

end Go.Proofs.YtgamdkokmkagaaaGreat

namespace Go.Proofs.YtgamdkokmkagaaaGreat
open Go.RowKit
attribute [local go_sem ↓] Go.wp_at_zero Go.wp_at_succ

set_option maxHeartbeats 1600000 in
theorem eqAlphaS_same (a a' : Option Addr) (c c' : Nat) (xs : List Al) (w : World) {q q' : Option Nat} (hv : AlsAt q w a xs) (hv' : AlsAt q' w a' xs) (hs : ListLe Al.le 1048576 xs) :
    Calls Tryz.prog 21 #[.slice a xs.length c, .slice a' xs.length c'] w fun e w' =>
      e = .returned (.bool true) ∧ Below w.heap.size w w' := by
  obtain ⟨hl, hs⟩ := hs
  go_enter Tryz.func21, Tryz.ntmps21
  go_wp2
  go_loopw [5] (fun i wr => ∃ (k : Nat), k ≤ xs.length ∧ i = .int .i64 k ∧ Below w.heap.size w wr) (fun i _ => xs.length - (intOf i).toNat)
  case atStart => exact ⟨0, by omega, rfl, Below.refl _ _⟩
  case round =>
    obtain ⟨k, hk, rfl, hb⟩ := hrel
    by_cases hkl : k < xs.length
    · obtain ⟨x, hxk⟩ : ∃ x, xs[k]? = some x := ⟨xs[k], by simp [hkl]⟩
      obtain ⟨b, o, a_tests, c_tests, rfl, hq, c0, c1, c2, h_tests⟩ := (hv.below hb).get hxk
      obtain ⟨b', o', a_tests', c_tests', rfl, hq', d0, d1, d2, h_tests'⟩ := (hv'.below hb).get hxk
      have z0 : (0 : Int) ≤ (k : Int) := by omega
      have z1 : (k : Int) < (xs.length : Int) := by omega
      have hsx := hs x (List.mem_of_getElem? hxk)
      have B1 : Below wr.heap.size wr wr.drew := (Below.refl _ _).drew
      go_wp2
      go_region_held3 (fun w' => w'.cell? ⟨b, o + k * 3, none⟩ = some (.string x.cls) ∧ w'.cell? ⟨b, o + k * 3 + 1, none⟩ = some (.int .i64 x.arity) ∧ w'.cell? ⟨b, o + k * 3 + 2, none⟩ = some (.slice a_tests x.tests.length c_tests) ∧ w'.cell? ⟨b', o' + k * 3, none⟩ = some (.string x.cls) ∧ w'.cell? ⟨b', o' + k * 3 + 1, none⟩ = some (.int .i64 x.arity) ∧ w'.cell? ⟨b', o' + k * 3 + 2, none⟩ = some (.slice a_tests' x.tests.length c_tests')) ((go_split_ands; refine ⟨?_, ?_, ?_, ?_, ?_, ?_⟩ <;> first | (simp [*]; done) | exact cell_below hb' (by simp [*])))
        (first | (go_at_call 44; refine (eqAlpha_same x a_tests a_tests' c_tests c_tests' _ (h_tests.below B1) (h_tests'.below B1) hsx).mono ?_; rintro e w' ⟨rfl, hb'⟩))
      go_wp2
      go_roundw
      case rel => exact ⟨k + 1, by omega, by go_num, hb.drew.trans (hb'.mono hb.size)⟩
      case measure => simp [intOf]; omega
    · go_wp2
      go_ret
      exact ⟨rfl, hb⟩

end Go.Proofs.YtgamdkokmkagaaaGreat
