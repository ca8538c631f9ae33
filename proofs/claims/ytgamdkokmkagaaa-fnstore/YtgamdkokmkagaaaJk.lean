/-
  OUR OWN TEXT. Eq0, Eq, one behind the other.
-/
import Derived.Test.YtgamdkokmkagaaaMem
import Derived.Deep.RegionHeld3
import Derived.Deep.DrawnRows
namespace Go.Proofs.Ytgamdkokmkagaaa
open Go.RowKit
attribute [local go_sem ↓] Go.wp_at_zero Go.wp_at_succ

set_option maxHeartbeats 400000 in
theorem eqValue_same (v : V) (w : World) :
    Calls Try.prog 76 #[.agg #[.int .i64 v.kind, .int .i64 v.num, .string v.sym], .agg #[.int .i64 v.kind, .int .i64 v.num, .string v.sym]] w fun e w' =>
      e = .returned (.bool true) ∧ Below w.heap.size w w' := by
  go_enter Try.func76, Try.ntmps76
  go_wp2
  go_ret
  exact ⟨rfl, ((Below.refl _ _).alloc (Nat.le_refl _) _).alloc (by simp) _⟩
end Go.Proofs.Ytgamdkokmkagaaa

namespace Go.Proofs.Ytgamdkokmkagaaa
open Go.RowKit
attribute [local go_sem ↓] Go.wp_at_zero Go.wp_at_succ

set_option maxHeartbeats 800000 in
theorem eqValueS_same (a a' : Option Addr) (c c' : Nat) (vs : List V) (w : World) (hv : ValsAt w a vs) (hv' : ValsAt w a' vs) (hl : vs.length ≤ 1048576) :
    Calls Try.prog 27 #[.slice a vs.length c, .slice a' vs.length c'] w fun e w' =>
      e = .returned (.bool true) ∧ Below w.heap.size w w' := by
  go_enter Try.func27, Try.ntmps27
  go_wp2
  go_loopw [5] (fun i wr => ∃ (k : Nat), k ≤ vs.length ∧ i = .int .i64 k ∧ Below w.heap.size w wr) (fun i _ => vs.length - (intOf i).toNat)
  case atStart => exact ⟨0, by omega, rfl, Below.refl _ _⟩
  case round =>
    obtain ⟨k, hk, rfl, hb⟩ := hrel
    by_cases hkl : k < vs.length
    · obtain ⟨v, hvk⟩ : ∃ v, vs[k]? = some v := ⟨vs[k], by simp [hkl]⟩
      obtain ⟨b, o, rfl, c0, c1, c2⟩ := hv.below hb k v hvk
      obtain ⟨b', o', rfl, d0, d1, d2⟩ := hv'.below hb k v hvk
      have z0 : (0 : Int) ≤ (k : Int) := by omega
      have z1 : (k : Int) < (vs.length : Int) := by omega
      go_wp2
      go_region_held3 (fun w' => w'.cell? ⟨b, o + k * 3, none⟩ = some (.int .i64 v.kind) ∧ w'.cell? ⟨b, o + k * 3 + 1, none⟩ = some (.int .i64 v.num) ∧ w'.cell? ⟨b, o + k * 3 + 2, none⟩ = some (.string v.sym) ∧ w'.cell? ⟨b', o' + k * 3, none⟩ = some (.int .i64 v.kind) ∧ w'.cell? ⟨b', o' + k * 3 + 1, none⟩ = some (.int .i64 v.num) ∧ w'.cell? ⟨b', o' + k * 3 + 2, none⟩ = some (.string v.sym)) ((go_split_ands; refine ⟨?_, ?_, ?_, ?_, ?_, ?_⟩ <;> first | (simp [*]; done) | exact cell_below hb' (by simp [*])))
        (first | (go_at_call 76; refine (eqValue_same v _).mono ?_; rintro e w' ⟨rfl, hb'⟩))
      go_wp2
      go_roundw
      case rel => exact ⟨k + 1, by omega, by go_num, hb.drew.trans (hb'.mono hb.size)⟩
      case measure => simp [intOf]; omega
    · go_wp2
      go_ret
      exact ⟨rfl, hb⟩

set_option maxHeartbeats 400000 in
theorem eqFact_same (f : F) (a a' : Option Addr) (c c' : Nat) (w : World) (hv : ValsAt w a f.slots) (hv' : ValsAt w a' f.slots) (hl : f.slots.length ≤ 1048576) :
    Calls Try.prog 111 #[.agg #[.int .i64 f.tag, .string f.cls, .slice a f.slots.length c], .agg #[.int .i64 f.tag, .string f.cls, .slice a' f.slots.length c']] w fun e w' =>
      e = .returned (.bool true) ∧ Below w.heap.size w w' := by
  have B2 : ∀ o o', Below w.heap.size w ((w.alloc o).alloc o') := fun o o' => ((Below.refl _ _).alloc (Nat.le_refl _) _).alloc (by simp) _
  go_enter Try.func111, Try.ntmps111
  go_wp2_with (go_at_call 27; refine (eqValueS_same a a' c c' f.slots _ (hv.below (B2 _ _)) (hv'.below (B2 _ _)) hl).mono ?_; rintro e w' ⟨rfl, hb'⟩)
  go_ret
  exact ⟨rfl, (B2 _ _).trans (hb'.mono (by simp; omega))⟩

set_option maxHeartbeats 800000 in
theorem eqFactS_same (a a' : Option Addr) (c c' : Nat) (fs : List F) (w : World) (hv : FactsAt w a fs) (hv' : FactsAt w a' fs) (hl : fs.length ≤ 1048576) (hs : ∀ f ∈ fs, f.slots.length ≤ 1048576) :
    Calls Try.prog 57 #[.slice a fs.length c, .slice a' fs.length c'] w fun e w' =>
      e = .returned (.bool true) ∧ Below w.heap.size w w' := by
  go_enter Try.func57, Try.ntmps57
  go_wp2
  go_loopw [5] (fun i wr => ∃ (k : Nat), k ≤ fs.length ∧ i = .int .i64 k ∧ Below w.heap.size w wr) (fun i _ => fs.length - (intOf i).toNat)
  case atStart => exact ⟨0, by omega, rfl, Below.refl _ _⟩
  case round =>
    obtain ⟨k, hk, rfl, hb⟩ := hrel
    by_cases hkl : k < fs.length
    · obtain ⟨f, hfk⟩ : ∃ f, fs[k]? = some f := ⟨fs[k], by simp [hkl]⟩
      obtain ⟨b, o, rfl, c0, c1, s, cs, c2, hsl⟩ := hv.below hb k f hfk
      obtain ⟨b', o', rfl, d0, d1, s', cs', d2, hsl'⟩ := hv'.below hb k f hfk
      have z0 : (0 : Int) ≤ (k : Int) := by omega
      have z1 : (k : Int) < (fs.length : Int) := by omega
      have hsf := hs f (List.mem_of_getElem? hfk)
      have B1 : Below wr.heap.size wr wr.drew := (Below.refl _ _).drew
      go_wp2
      go_region_held3 (fun w' => w'.cell? ⟨b, o + k * 3, none⟩ = some (.int .i64 f.tag) ∧ w'.cell? ⟨b, o + k * 3 + 1, none⟩ = some (.string f.cls) ∧ w'.cell? ⟨b, o + k * 3 + 2, none⟩ = some (.slice s f.slots.length cs) ∧ w'.cell? ⟨b', o' + k * 3, none⟩ = some (.int .i64 f.tag) ∧ w'.cell? ⟨b', o' + k * 3 + 1, none⟩ = some (.string f.cls) ∧ w'.cell? ⟨b', o' + k * 3 + 2, none⟩ = some (.slice s' f.slots.length cs')) ((go_split_ands; refine ⟨?_, ?_, ?_, ?_, ?_, ?_⟩ <;> first | (simp [*]; done) | exact cell_below hb' (by simp [*])))
        (first | (go_at_call 111; refine (eqFact_same f s s' cs cs' _ (hsl.below B1) (hsl'.below B1) hsf).mono ?_; rintro e w' ⟨rfl, hb'⟩))
      go_wp2
      go_roundw
      case rel => exact ⟨k + 1, by omega, by go_num, hb.drew.trans (hb'.mono hb.size)⟩
      case measure => simp [intOf]; omega
    · go_wp2
      go_ret
      exact ⟨rfl, hb⟩

set_option maxHeartbeats 400000 in
theorem eqStore_same (a a' : Option Addr) (c c' : Nat) (fs : List F) (nx cp : Int) (sg : Bool) (w : World) (hv : FactsAt w a fs) (hv' : FactsAt w a' fs) (hl : fs.length ≤ 1048576) (hs : ∀ f ∈ fs, f.slots.length ≤ 1048576) :
    Calls Try.prog 22 #[.agg #[.slice a fs.length c, .int .i64 nx, .int .i64 cp, .bool sg], .agg #[.slice a' fs.length c', .int .i64 nx, .int .i64 cp, .bool sg]] w fun e w' =>
      e = .returned (.bool true) ∧ Below w.heap.size w w' := by
  have B2 : ∀ o o', Below w.heap.size w ((w.alloc o).alloc o') := fun o o' => ((Below.refl _ _).alloc (Nat.le_refl _) _).alloc (by simp) _
  have hsg : (sg != sg) = false := by simp
  go_enter Try.func22, Try.ntmps22
  go_wp2_with (go_at_call 57; refine (eqFactS_same a a' c c' fs _ (hv.below (B2 _ _)) (hv'.below (B2 _ _)) hl hs).mono ?_; rintro e w' ⟨rfl, hb'⟩; obtain ⟨hc, hf⟩ := bcell hb')
  go_ret
  exact ⟨rfl, (B2 _ _).trans (hb'.mono (by simp; omega))⟩
end Go.Proofs.Ytgamdkokmkagaaa
