/-
  OUR OWN TEXT. (EqR, asking less of sizes.) The laws' own comparisons of rules: of two that hold the same they say yes (made by lawgen.py).
-/
import Derived.Test.YtdhpoagjmiligaaGreatDoorKad
import Derived.Test.YtdhpoagjmiligaaGreatDoorKaa
import Derived.Deep.RegionHeld3
import Derived.Deep.DrawnRows
namespace Go.Proofs.YtdhpoagjmiligaaGreatDoor
open Go.RowKit
attribute [local go_sem ↓] Go.wp_at_zero Go.wp_at_succ

def Tm.lq (_ : Nat) (_ : Tm) : Prop := True
def Pt.lq (N : Nat) (x : Pt) : Prop := True ∧ ListLe Tm.lq N x.terms
def Ex.lq (_ : Nat) (_ : Ex) : Prop := True
def Ac.lq (N : Nat) (x : Ac) : Prop := True ∧ x.args.length ≤ N
def Ru.lq (N : Nat) (x : Ru) : Prop := True ∧ ListLe Pt.lq N x.pats ∧ ListLe Ex.lq N x.exprs ∧ ListLe Ac.lq N x.acts
set_option maxHeartbeats 800000 in
theorem eqIntS_sameq (a a' : Option Addr) (c c' : Nat) (xs : List Int) (w : World) {q q' : Option Nat} (hv : IntsAt q w a xs) (hv' : IntsAt q' w a' xs) (hl : xs.length ≤ 1048576) :
    Calls Tryz.prog 120 #[.slice a xs.length c, .slice a' xs.length c'] w fun e w' =>
      e = .returned (.bool true) ∧ Below w.heap.size w w' := by
  go_enter Tryz.func120, Tryz.ntmps120
  go_wp2
  go_loopw [5] (fun i wr => ∃ (k : Nat), k ≤ xs.length ∧ i = .int .i64 k ∧ Below w.heap.size w wr) (fun i _ => xs.length - (intOf i).toNat)
  case atStart => exact ⟨0, by omega, rfl, Below.refl _ _⟩
  case round =>
    obtain ⟨k, hk, rfl, hb⟩ := hrel
    by_cases hkl : k < xs.length
    · obtain ⟨x, hxk⟩ : ∃ x, xs[k]? = some x := ⟨xs[k], by simp [hkl]⟩
      obtain ⟨b, o, rfl, hq, c0⟩ := (hv.below hb).get hxk
      obtain ⟨b', o', rfl, hq', d0⟩ := (hv'.below hb).get hxk
      have z0 : (0 : Int) ≤ (k : Int) := by omega
      have z1 : (k : Int) < (xs.length : Int) := by omega
      go_wp2
      go_region_held3 (fun w' => w'.cell? ⟨b, o + k, none⟩ = some (.int .i64 x) ∧ w'.cell? ⟨b', o' + k, none⟩ = some (.int .i64 x)) (go_keep) (fail)
      go_wp2
      go_roundw
      case rel => exact ⟨k + 1, by omega, by go_num, hb.drew⟩
      case measure => simp [intOf]; omega
    · go_wp2
      go_ret
      exact ⟨rfl, hb⟩

set_option maxHeartbeats 800000 in
theorem eqTerm_sameq (x : Tm) (w : World) :
    Calls Tryz.prog 128 #[.agg #[.int .i64 x.kind, .int .i64 x.op, .string x.var, .int .i64 x.val.kind, .int .i64 x.val.num, .string x.val.sym], .agg #[.int .i64 x.kind, .int .i64 x.op, .string x.var, .int .i64 x.val.kind, .int .i64 x.val.num, .string x.val.sym]] w fun e w' =>
      e = .returned (.bool true) ∧ Below w.heap.size w w' := by
  have B0 : ∀ o o', Below w.heap.size w ((w.alloc o).alloc o') := fun o o' => ((Below.refl _ _).alloc (Nat.le_refl _) _).alloc (by simp) _
  go_enter Tryz.func128, Tryz.ntmps128
  go_wp2_with (go_at_call 113; refine (eqValue_same x.val _).mono ?_; rintro e w1 ⟨rfl, hb1⟩; have hB1 : Below w.heap.size w w1 := (B0 _ _).trans (hb1.mono (by simp; omega)))
  go_ret
  exact ⟨rfl, hB1⟩

set_option maxHeartbeats 1600000 in
theorem eqTermS_sameq (a a' : Option Addr) (c c' : Nat) (xs : List Tm) (w : World) {q q' : Option Nat} (hv : TmsAt q w a xs) (hv' : TmsAt q' w a' xs) (hs : ListLe Tm.lq 1048576 xs) :
    Calls Tryz.prog 119 #[.slice a xs.length c, .slice a' xs.length c'] w fun e w' =>
      e = .returned (.bool true) ∧ Below w.heap.size w w' := by
  obtain ⟨hl, hs⟩ := hs
  go_enter Tryz.func119, Tryz.ntmps119
  go_wp2
  go_loopw [5] (fun i wr => ∃ (k : Nat), k ≤ xs.length ∧ i = .int .i64 k ∧ Below w.heap.size w wr) (fun i _ => xs.length - (intOf i).toNat)
  case atStart => exact ⟨0, by omega, rfl, Below.refl _ _⟩
  case round =>
    obtain ⟨k, hk, rfl, hb⟩ := hrel
    by_cases hkl : k < xs.length
    · obtain ⟨x, hxk⟩ : ∃ x, xs[k]? = some x := ⟨xs[k], by simp [hkl]⟩
      obtain ⟨b, o, rfl, hq, c0, c1, c2, c3, c4, c5⟩ := (hv.below hb).get hxk
      obtain ⟨b', o', rfl, hq', d0, d1, d2, d3, d4, d5⟩ := (hv'.below hb).get hxk
      have z0 : (0 : Int) ≤ (k : Int) := by omega
      have z1 : (k : Int) < (xs.length : Int) := by omega
      have hsx := hs x (List.mem_of_getElem? hxk)
      have B1 : Below wr.heap.size wr wr.drew := (Below.refl _ _).drew
      go_wp2
      go_region_held3 (fun w' => w'.cell? ⟨b, o + k * 6, none⟩ = some (.int .i64 x.kind) ∧ w'.cell? ⟨b, o + k * 6 + 1, none⟩ = some (.int .i64 x.op) ∧ w'.cell? ⟨b, o + k * 6 + 2, none⟩ = some (.string x.var) ∧ w'.cell? ⟨b, o + k * 6 + 3, none⟩ = some (.int .i64 x.val.kind) ∧ w'.cell? ⟨b, o + k * 6 + 4, none⟩ = some (.int .i64 x.val.num) ∧ w'.cell? ⟨b, o + k * 6 + 5, none⟩ = some (.string x.val.sym) ∧ w'.cell? ⟨b', o' + k * 6, none⟩ = some (.int .i64 x.kind) ∧ w'.cell? ⟨b', o' + k * 6 + 1, none⟩ = some (.int .i64 x.op) ∧ w'.cell? ⟨b', o' + k * 6 + 2, none⟩ = some (.string x.var) ∧ w'.cell? ⟨b', o' + k * 6 + 3, none⟩ = some (.int .i64 x.val.kind) ∧ w'.cell? ⟨b', o' + k * 6 + 4, none⟩ = some (.int .i64 x.val.num) ∧ w'.cell? ⟨b', o' + k * 6 + 5, none⟩ = some (.string x.val.sym)) ((go_split_ands; refine ⟨?_, ?_, ?_, ?_, ?_, ?_, ?_, ?_, ?_, ?_, ?_, ?_⟩ <;> first | (simp [*]; done) | exact cell_below hb' (by simp [*])))
        (first | (go_at_call 128; refine (eqTerm_sameq x _).mono ?_; rintro e w' ⟨rfl, hb'⟩))
      go_wp2
      go_roundw
      case rel => exact ⟨k + 1, by omega, by go_num, hb.drew.trans (hb'.mono hb.size)⟩
      case measure => simp [intOf]; omega
    · go_wp2
      go_ret
      exact ⟨rfl, hb⟩

set_option maxHeartbeats 800000 in
theorem eqPattern_sameq (x : Pt) (a_terms a_terms' : Option Addr) (c_terms c_terms' : Nat) {q q' : Option Nat} (w : World) (h_terms : TmsAt q w a_terms x.terms) (h_terms' : TmsAt q' w a_terms' x.terms) (hs : x.lq 1048576) :
    Calls Tryz.prog 110 #[.agg #[.bool x.neg, .string x.cls, .slice a_terms x.terms.length c_terms], .agg #[.bool x.neg, .string x.cls, .slice a_terms' x.terms.length c_terms']] w fun e w' =>
      e = .returned (.bool true) ∧ Below w.heap.size w w' := by
  obtain ⟨s_cls, s_terms⟩ := hs
  have B0 : ∀ o o', Below w.heap.size w ((w.alloc o).alloc o') := fun o o' => ((Below.refl _ _).alloc (Nat.le_refl _) _).alloc (by simp) _
  have t_neg : (x.neg != x.neg) = false := by simp
  go_enter Tryz.func110, Tryz.ntmps110
  go_wp2_with (go_at_call 119; refine (eqTermS_sameq a_terms a_terms' c_terms c_terms' x.terms _ (h_terms.below (B0 _ _)) (h_terms'.below (B0 _ _)) s_terms).mono ?_; rintro e w1 ⟨rfl, hb1⟩; have hB1 : Below w.heap.size w w1 := (B0 _ _).trans (hb1.mono (by simp; omega)))
  go_ret
  exact ⟨rfl, hB1⟩

set_option maxHeartbeats 1600000 in
theorem eqPatternS_sameq (a a' : Option Addr) (c c' : Nat) (xs : List Pt) (w : World) {q q' : Option Nat} (hv : PtsAt q w a xs) (hv' : PtsAt q' w a' xs) (hs : ListLe Pt.lq 1048576 xs) :
    Calls Tryz.prog 89 #[.slice a xs.length c, .slice a' xs.length c'] w fun e w' =>
      e = .returned (.bool true) ∧ Below w.heap.size w w' := by
  obtain ⟨hl, hs⟩ := hs
  go_enter Tryz.func89, Tryz.ntmps89
  go_wp2
  go_loopw [5] (fun i wr => ∃ (k : Nat), k ≤ xs.length ∧ i = .int .i64 k ∧ Below w.heap.size w wr) (fun i _ => xs.length - (intOf i).toNat)
  case atStart => exact ⟨0, by omega, rfl, Below.refl _ _⟩
  case round =>
    obtain ⟨k, hk, rfl, hb⟩ := hrel
    by_cases hkl : k < xs.length
    · obtain ⟨x, hxk⟩ : ∃ x, xs[k]? = some x := ⟨xs[k], by simp [hkl]⟩
      obtain ⟨b, o, a_terms, c_terms, rfl, hq, c0, c1, c2, h_terms⟩ := (hv.below hb).get hxk
      obtain ⟨b', o', a_terms', c_terms', rfl, hq', d0, d1, d2, h_terms'⟩ := (hv'.below hb).get hxk
      have z0 : (0 : Int) ≤ (k : Int) := by omega
      have z1 : (k : Int) < (xs.length : Int) := by omega
      have hsx := hs x (List.mem_of_getElem? hxk)
      have B1 : Below wr.heap.size wr wr.drew := (Below.refl _ _).drew
      go_wp2
      go_region_held3 (fun w' => w'.cell? ⟨b, o + k * 3, none⟩ = some (.bool x.neg) ∧ w'.cell? ⟨b, o + k * 3 + 1, none⟩ = some (.string x.cls) ∧ w'.cell? ⟨b, o + k * 3 + 2, none⟩ = some (.slice a_terms x.terms.length c_terms) ∧ w'.cell? ⟨b', o' + k * 3, none⟩ = some (.bool x.neg) ∧ w'.cell? ⟨b', o' + k * 3 + 1, none⟩ = some (.string x.cls) ∧ w'.cell? ⟨b', o' + k * 3 + 2, none⟩ = some (.slice a_terms' x.terms.length c_terms')) ((go_split_ands; refine ⟨?_, ?_, ?_, ?_, ?_, ?_⟩ <;> first | (simp [*]; done) | exact cell_below hb' (by simp [*])))
        (first | (go_at_call 110; refine (eqPattern_sameq x a_terms a_terms' c_terms c_terms' _ (h_terms.below B1) (h_terms'.below B1) hsx).mono ?_; rintro e w' ⟨rfl, hb'⟩))
      go_wp2
      go_roundw
      case rel => exact ⟨k + 1, by omega, by go_num, hb.drew.trans (hb'.mono hb.size)⟩
      case measure => simp [intOf]; omega
    · go_wp2
      go_ret
      exact ⟨rfl, hb⟩

set_option maxHeartbeats 800000 in
theorem eqExpr_sameq (x : Ex) (w : World) :
    Calls Tryz.prog 111 #[.agg #[.int .i64 x.kind, .int .u8 x.op, .string x.var, .int .i64 x.val.kind, .int .i64 x.val.num, .string x.val.sym, .int .i64 x.a, .int .i64 x.b], .agg #[.int .i64 x.kind, .int .u8 x.op, .string x.var, .int .i64 x.val.kind, .int .i64 x.val.num, .string x.val.sym, .int .i64 x.a, .int .i64 x.b]] w fun e w' =>
      e = .returned (.bool true) ∧ Below w.heap.size w w' := by
  have B0 : ∀ o o', Below w.heap.size w ((w.alloc o).alloc o') := fun o o' => ((Below.refl _ _).alloc (Nat.le_refl _) _).alloc (by simp) _
  go_enter Tryz.func111, Tryz.ntmps111
  go_wp2_with (go_at_call 113; refine (eqValue_same x.val _).mono ?_; rintro e w1 ⟨rfl, hb1⟩; have hB1 : Below w.heap.size w w1 := (B0 _ _).trans (hb1.mono (by simp; omega)); have p1_6 : w1.cell? ⟨w.heap.size, 6, none⟩ = some (.int .i64 x.a) := cell_below hb1 (by simp [go_sem]); have q1_6 : w1.cell? ⟨w.heap.size + 1, 6, none⟩ = some (.int .i64 x.a) := cell_below hb1 (by simp [go_sem]); have p1_7 : w1.cell? ⟨w.heap.size, 7, none⟩ = some (.int .i64 x.b) := cell_below hb1 (by simp [go_sem]); have q1_7 : w1.cell? ⟨w.heap.size + 1, 7, none⟩ = some (.int .i64 x.b) := cell_below hb1 (by simp [go_sem]))
  go_ret
  exact ⟨rfl, hB1⟩

set_option maxHeartbeats 1600000 in
theorem eqExprS_sameq (a a' : Option Addr) (c c' : Nat) (xs : List Ex) (w : World) {q q' : Option Nat} (hv : ExsAt q w a xs) (hv' : ExsAt q' w a' xs) (hs : ListLe Ex.lq 1048576 xs) :
    Calls Tryz.prog 90 #[.slice a xs.length c, .slice a' xs.length c'] w fun e w' =>
      e = .returned (.bool true) ∧ Below w.heap.size w w' := by
  obtain ⟨hl, hs⟩ := hs
  go_enter Tryz.func90, Tryz.ntmps90
  go_wp2
  go_loopw [5] (fun i wr => ∃ (k : Nat), k ≤ xs.length ∧ i = .int .i64 k ∧ Below w.heap.size w wr) (fun i _ => xs.length - (intOf i).toNat)
  case atStart => exact ⟨0, by omega, rfl, Below.refl _ _⟩
  case round =>
    obtain ⟨k, hk, rfl, hb⟩ := hrel
    by_cases hkl : k < xs.length
    · obtain ⟨x, hxk⟩ : ∃ x, xs[k]? = some x := ⟨xs[k], by simp [hkl]⟩
      obtain ⟨b, o, rfl, hq, c0, c1, c2, c3, c4, c5, c6, c7⟩ := (hv.below hb).get hxk
      obtain ⟨b', o', rfl, hq', d0, d1, d2, d3, d4, d5, d6, d7⟩ := (hv'.below hb).get hxk
      have z0 : (0 : Int) ≤ (k : Int) := by omega
      have z1 : (k : Int) < (xs.length : Int) := by omega
      have hsx := hs x (List.mem_of_getElem? hxk)
      have B1 : Below wr.heap.size wr wr.drew := (Below.refl _ _).drew
      go_wp2
      go_region_held3 (fun w' => w'.cell? ⟨b, o + k * 8, none⟩ = some (.int .i64 x.kind) ∧ w'.cell? ⟨b, o + k * 8 + 1, none⟩ = some (.int .u8 x.op) ∧ w'.cell? ⟨b, o + k * 8 + 2, none⟩ = some (.string x.var) ∧ w'.cell? ⟨b, o + k * 8 + 3, none⟩ = some (.int .i64 x.val.kind) ∧ w'.cell? ⟨b, o + k * 8 + 4, none⟩ = some (.int .i64 x.val.num) ∧ w'.cell? ⟨b, o + k * 8 + 5, none⟩ = some (.string x.val.sym) ∧ w'.cell? ⟨b, o + k * 8 + 6, none⟩ = some (.int .i64 x.a) ∧ w'.cell? ⟨b, o + k * 8 + 7, none⟩ = some (.int .i64 x.b) ∧ w'.cell? ⟨b', o' + k * 8, none⟩ = some (.int .i64 x.kind) ∧ w'.cell? ⟨b', o' + k * 8 + 1, none⟩ = some (.int .u8 x.op) ∧ w'.cell? ⟨b', o' + k * 8 + 2, none⟩ = some (.string x.var) ∧ w'.cell? ⟨b', o' + k * 8 + 3, none⟩ = some (.int .i64 x.val.kind) ∧ w'.cell? ⟨b', o' + k * 8 + 4, none⟩ = some (.int .i64 x.val.num) ∧ w'.cell? ⟨b', o' + k * 8 + 5, none⟩ = some (.string x.val.sym) ∧ w'.cell? ⟨b', o' + k * 8 + 6, none⟩ = some (.int .i64 x.a) ∧ w'.cell? ⟨b', o' + k * 8 + 7, none⟩ = some (.int .i64 x.b)) ((go_split_ands; refine ⟨?_, ?_, ?_, ?_, ?_, ?_, ?_, ?_, ?_, ?_, ?_, ?_, ?_, ?_, ?_, ?_⟩ <;> first | (simp [*]; done) | exact cell_below hb' (by simp [*])))
        (first | (go_at_call 111; refine (eqExpr_sameq x _).mono ?_; rintro e w' ⟨rfl, hb'⟩))
      go_wp2
      go_roundw
      case rel => exact ⟨k + 1, by omega, by go_num, hb.drew.trans (hb'.mono hb.size)⟩
      case measure => simp [intOf]; omega
    · go_wp2
      go_ret
      exact ⟨rfl, hb⟩

set_option maxHeartbeats 800000 in
theorem eqAction_sameq (x : Ac) (a_args a_args' : Option Addr) (c_args c_args' : Nat) {q q' : Option Nat} (w : World) (h_args : IntsAt q w a_args x.args) (h_args' : IntsAt q' w a_args' x.args) (hs : x.lq 1048576) :
    Calls Tryz.prog 112 #[.agg #[.int .i64 x.kind, .int .i64 x.k, .string x.cls, .slice a_args x.args.length c_args], .agg #[.int .i64 x.kind, .int .i64 x.k, .string x.cls, .slice a_args' x.args.length c_args']] w fun e w' =>
      e = .returned (.bool true) ∧ Below w.heap.size w w' := by
  obtain ⟨s_cls, s_args⟩ := hs
  have B0 : ∀ o o', Below w.heap.size w ((w.alloc o).alloc o') := fun o o' => ((Below.refl _ _).alloc (Nat.le_refl _) _).alloc (by simp) _
  go_enter Tryz.func112, Tryz.ntmps112
  go_wp2_with (go_at_call 120; refine (eqIntS_sameq a_args a_args' c_args c_args' x.args _ (h_args.below (B0 _ _)) (h_args'.below (B0 _ _)) s_args).mono ?_; rintro e w1 ⟨rfl, hb1⟩; have hB1 : Below w.heap.size w w1 := (B0 _ _).trans (hb1.mono (by simp; omega)))
  go_ret
  exact ⟨rfl, hB1⟩

set_option maxHeartbeats 1600000 in
theorem eqActionS_sameq (a a' : Option Addr) (c c' : Nat) (xs : List Ac) (w : World) {q q' : Option Nat} (hv : AcsAt q w a xs) (hv' : AcsAt q' w a' xs) (hs : ListLe Ac.lq 1048576 xs) :
    Calls Tryz.prog 91 #[.slice a xs.length c, .slice a' xs.length c'] w fun e w' =>
      e = .returned (.bool true) ∧ Below w.heap.size w w' := by
  obtain ⟨hl, hs⟩ := hs
  go_enter Tryz.func91, Tryz.ntmps91
  go_wp2
  go_loopw [5] (fun i wr => ∃ (k : Nat), k ≤ xs.length ∧ i = .int .i64 k ∧ Below w.heap.size w wr) (fun i _ => xs.length - (intOf i).toNat)
  case atStart => exact ⟨0, by omega, rfl, Below.refl _ _⟩
  case round =>
    obtain ⟨k, hk, rfl, hb⟩ := hrel
    by_cases hkl : k < xs.length
    · obtain ⟨x, hxk⟩ : ∃ x, xs[k]? = some x := ⟨xs[k], by simp [hkl]⟩
      obtain ⟨b, o, a_args, c_args, rfl, hq, c0, c1, c2, c3, h_args⟩ := (hv.below hb).get hxk
      obtain ⟨b', o', a_args', c_args', rfl, hq', d0, d1, d2, d3, h_args'⟩ := (hv'.below hb).get hxk
      have z0 : (0 : Int) ≤ (k : Int) := by omega
      have z1 : (k : Int) < (xs.length : Int) := by omega
      have hsx := hs x (List.mem_of_getElem? hxk)
      have B1 : Below wr.heap.size wr wr.drew := (Below.refl _ _).drew
      go_wp2
      go_region_held3 (fun w' => w'.cell? ⟨b, o + k * 4, none⟩ = some (.int .i64 x.kind) ∧ w'.cell? ⟨b, o + k * 4 + 1, none⟩ = some (.int .i64 x.k) ∧ w'.cell? ⟨b, o + k * 4 + 2, none⟩ = some (.string x.cls) ∧ w'.cell? ⟨b, o + k * 4 + 3, none⟩ = some (.slice a_args x.args.length c_args) ∧ w'.cell? ⟨b', o' + k * 4, none⟩ = some (.int .i64 x.kind) ∧ w'.cell? ⟨b', o' + k * 4 + 1, none⟩ = some (.int .i64 x.k) ∧ w'.cell? ⟨b', o' + k * 4 + 2, none⟩ = some (.string x.cls) ∧ w'.cell? ⟨b', o' + k * 4 + 3, none⟩ = some (.slice a_args' x.args.length c_args')) ((go_split_ands; refine ⟨?_, ?_, ?_, ?_, ?_, ?_, ?_, ?_⟩ <;> first | (simp [*]; done) | exact cell_below hb' (by simp [*])))
        (first | (go_at_call 112; refine (eqAction_sameq x a_args a_args' c_args c_args' _ (h_args.below B1) (h_args'.below B1) hsx).mono ?_; rintro e w' ⟨rfl, hb'⟩))
      go_wp2
      go_roundw
      case rel => exact ⟨k + 1, by omega, by go_num, hb.drew.trans (hb'.mono hb.size)⟩
      case measure => simp [intOf]; omega
    · go_wp2
      go_ret
      exact ⟨rfl, hb⟩

set_option maxHeartbeats 800000 in
theorem eqRule_sameq (x : Ru) (a_pats a_pats' : Option Addr) (c_pats c_pats' : Nat) (a_exprs a_exprs' : Option Addr) (c_exprs c_exprs' : Nat) (a_acts a_acts' : Option Addr) (c_acts c_acts' : Nat) {q q' : Option Nat} (w : World) (h_pats : PtsAt q w a_pats x.pats) (h_pats' : PtsAt q' w a_pats' x.pats) (h_exprs : ExsAt q w a_exprs x.exprs) (h_exprs' : ExsAt q' w a_exprs' x.exprs) (h_acts : AcsAt q w a_acts x.acts) (h_acts' : AcsAt q' w a_acts' x.acts) (hs : x.lq 1048576) :
    Calls Tryz.prog 51 #[.agg #[.string x.name, .int .i64 x.sal, .slice a_pats x.pats.length c_pats, .slice a_exprs x.exprs.length c_exprs, .slice a_acts x.acts.length c_acts], .agg #[.string x.name, .int .i64 x.sal, .slice a_pats' x.pats.length c_pats', .slice a_exprs' x.exprs.length c_exprs', .slice a_acts' x.acts.length c_acts']] w fun e w' =>
      e = .returned (.bool true) ∧ Below w.heap.size w w' := by
  obtain ⟨s_name, s_pats, s_exprs, s_acts⟩ := hs
  have B0 : ∀ o o', Below w.heap.size w ((w.alloc o).alloc o') := fun o o' => ((Below.refl _ _).alloc (Nat.le_refl _) _).alloc (by simp) _
  go_enter Tryz.func51, Tryz.ntmps51
  go_wp2_with (first | (go_at_call 89; refine (eqPatternS_sameq a_pats a_pats' c_pats c_pats' x.pats _ (h_pats.below (B0 _ _)) (h_pats'.below (B0 _ _)) s_pats).mono ?_; rintro e w1 ⟨rfl, hb1⟩; have hB1 : Below w.heap.size w w1 := (B0 _ _).trans (hb1.mono (by simp; omega)); have p1_3 : w1.cell? ⟨w.heap.size, 3, none⟩ = some (.slice a_exprs x.exprs.length c_exprs) := cell_below hb1 (by simp [go_sem]); have q1_3 : w1.cell? ⟨w.heap.size + 1, 3, none⟩ = some (.slice a_exprs' x.exprs.length c_exprs') := cell_below hb1 (by simp [go_sem]); have p1_4 : w1.cell? ⟨w.heap.size, 4, none⟩ = some (.slice a_acts x.acts.length c_acts) := cell_below hb1 (by simp [go_sem]); have q1_4 : w1.cell? ⟨w.heap.size + 1, 4, none⟩ = some (.slice a_acts' x.acts.length c_acts') := cell_below hb1 (by simp [go_sem])) | (go_at_call 90; refine (eqExprS_sameq a_exprs a_exprs' c_exprs c_exprs' x.exprs _ (h_exprs.below (hB1)) (h_exprs'.below (hB1)) s_exprs).mono ?_; rintro e w2 ⟨rfl, hb2⟩; have hB2 : Below w.heap.size w w2 := (hB1).trans (hb2.mono (hB1.size)); have p2_4 := cell_below hb2 p1_4; have q2_4 := cell_below hb2 q1_4) | (go_at_call 91; refine (eqActionS_sameq a_acts a_acts' c_acts c_acts' x.acts _ (h_acts.below (hB2)) (h_acts'.below (hB2)) s_acts).mono ?_; rintro e w3 ⟨rfl, hb3⟩; have hB3 : Below w.heap.size w w3 := (hB2).trans (hb3.mono (hB2.size))))
  go_ret
  exact ⟨rfl, hB3⟩

set_option maxHeartbeats 1600000 in
theorem eqRuleS_sameq (a a' : Option Addr) (c c' : Nat) (xs : List Ru) (w : World) {q q' : Option Nat} (hv : RusAt q w a xs) (hv' : RusAt q' w a' xs) (hs : ListLe Ru.lq 1048576 xs) :
    Calls Tryz.prog 25 #[.slice a xs.length c, .slice a' xs.length c'] w fun e w' =>
      e = .returned (.bool true) ∧ Below w.heap.size w w' := by
  obtain ⟨hl, hs⟩ := hs
  go_enter Tryz.func25, Tryz.ntmps25
  go_wp2
  go_loopw [5] (fun i wr => ∃ (k : Nat), k ≤ xs.length ∧ i = .int .i64 k ∧ Below w.heap.size w wr) (fun i _ => xs.length - (intOf i).toNat)
  case atStart => exact ⟨0, by omega, rfl, Below.refl _ _⟩
  case round =>
    obtain ⟨k, hk, rfl, hb⟩ := hrel
    by_cases hkl : k < xs.length
    · obtain ⟨x, hxk⟩ : ∃ x, xs[k]? = some x := ⟨xs[k], by simp [hkl]⟩
      obtain ⟨b, o, a_pats, c_pats, a_exprs, c_exprs, a_acts, c_acts, rfl, hq, c0, c1, c2, c3, c4, h_pats, h_exprs, h_acts, cap_exprs⟩ := (hv.below hb).get hxk
      obtain ⟨b', o', a_pats', c_pats', a_exprs', c_exprs', a_acts', c_acts', rfl, hq', d0, d1, d2, d3, d4, h_pats', h_exprs', h_acts', cap_exprs'⟩ := (hv'.below hb).get hxk
      have z0 : (0 : Int) ≤ (k : Int) := by omega
      have z1 : (k : Int) < (xs.length : Int) := by omega
      have hsx := hs x (List.mem_of_getElem? hxk)
      have B1 : Below wr.heap.size wr wr.drew := (Below.refl _ _).drew
      go_wp2
      go_region_held3 (fun w' => w'.cell? ⟨b, o + k * 5, none⟩ = some (.string x.name) ∧ w'.cell? ⟨b, o + k * 5 + 1, none⟩ = some (.int .i64 x.sal) ∧ w'.cell? ⟨b, o + k * 5 + 2, none⟩ = some (.slice a_pats x.pats.length c_pats) ∧ w'.cell? ⟨b, o + k * 5 + 3, none⟩ = some (.slice a_exprs x.exprs.length c_exprs) ∧ w'.cell? ⟨b, o + k * 5 + 4, none⟩ = some (.slice a_acts x.acts.length c_acts) ∧ w'.cell? ⟨b', o' + k * 5, none⟩ = some (.string x.name) ∧ w'.cell? ⟨b', o' + k * 5 + 1, none⟩ = some (.int .i64 x.sal) ∧ w'.cell? ⟨b', o' + k * 5 + 2, none⟩ = some (.slice a_pats' x.pats.length c_pats') ∧ w'.cell? ⟨b', o' + k * 5 + 3, none⟩ = some (.slice a_exprs' x.exprs.length c_exprs') ∧ w'.cell? ⟨b', o' + k * 5 + 4, none⟩ = some (.slice a_acts' x.acts.length c_acts')) ((go_split_ands; refine ⟨?_, ?_, ?_, ?_, ?_, ?_, ?_, ?_, ?_, ?_⟩ <;> first | (simp [*]; done) | exact cell_below hb' (by simp [*])))
        (first | (go_at_call 51; refine (eqRule_sameq x a_pats a_pats' c_pats c_pats' a_exprs a_exprs' c_exprs c_exprs' a_acts a_acts' c_acts c_acts' _ (h_pats.below B1) (h_pats'.below B1) (h_exprs.below B1) (h_exprs'.below B1) (h_acts.below B1) (h_acts'.below B1) hsx).mono ?_; rintro e w' ⟨rfl, hb'⟩))
      go_wp2
      go_roundw
      case rel => exact ⟨k + 1, by omega, by go_num, hb.drew.trans (hb'.mono hb.size)⟩
      case measure => simp [intOf]; omega
    · go_wp2
      go_ret
      exact ⟨rfl, hb⟩

set_option maxHeartbeats 800000 in
theorem eqParsed_sameq (code pos : Int) (a a' : Option Addr) (c c' : Nat) (l : List Ru) (w : World) {q q' : Option Nat} (hv : RusAt q w a l) (hv' : RusAt q' w a' l) (hs : ListLe Ru.lq 1048576 l) :
    Calls Tryz.prog 8 #[.agg #[.int .i64 code, .int .i64 pos, .slice a l.length c], .agg #[.int .i64 code, .int .i64 pos, .slice a' l.length c']] w fun e w' => e = .returned (.bool true) ∧ Below w.heap.size w w' := by
  have B2 : ∀ o o', Below w.heap.size w ((w.alloc o).alloc o') := fun o o' => ((Below.refl _ _).alloc (Nat.le_refl _) _).alloc (by simp) _
  go_enter Tryz.func8, Tryz.ntmps8
  go_wp2_with (go_at_call 25; refine (eqRuleS_sameq a a' c c' l _ (RusAt.below hv (B2 _ _)) (RusAt.below hv' (B2 _ _)) hs).mono ?_; rintro e w' ⟨rfl, hb'⟩)
  go_ret
  exact ⟨rfl, (B2 _ _).trans (hb'.mono (by simp; omega))⟩
end Go.Proofs.YtdhpoagjmiligaaGreatDoor
