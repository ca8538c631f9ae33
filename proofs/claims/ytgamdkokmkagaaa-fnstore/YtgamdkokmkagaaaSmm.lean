/-
  OUR OWN TEXT. The laws' own 'same': of two that hold the same they say yes.
-/
import Derived.Test.YtgamdkokmkagaaaMem
import Derived.Test.YtgamdkokmkagaaaJe
import Derived.Deep.RegionHeld3
import Derived.Deep.DrawnRows
namespace Go.Proofs.Ytgamdkokmkagaaa
open Go.RowKit
attribute [local go_sem ↓] Go.wp_at_zero Go.wp_at_succ

set_option maxHeartbeats 1600000 in
theorem sameSlots_same (a a' : Option Addr) (c c' : Nat) (vs : List V) (w : World) (hv : ValsAt w a vs) (hv' : ValsAt w a' vs) (hl : vs.length ≤ 1048576) :
    Calls Try.prog 124 #[.slice a vs.length c, .slice a' vs.length c'] w fun e w' => e = .returned (.bool true) ∧ Below w.heap.size w w' := by
  go_enter Try.func124, Try.ntmps124
  go_wp2
  go_loopw [13] (fun i wr => ∃ (k : Nat), k ≤ vs.length ∧ i = .int .i64 k ∧ Below w.heap.size w wr) (fun i _ => vs.length - (intOf i).toNat)
  case atStart => exact ⟨0, by omega, rfl, Below.refl _ _⟩
  case round =>
    obtain ⟨k, hk, rfl, hb⟩ := hrel
    by_cases hkl : k < vs.length
    · obtain ⟨v, hvk⟩ : ∃ v, vs[k]? = some v := ⟨vs[k], by simp [hkl]⟩
      obtain ⟨b, o, rfl, c0, c1, c2⟩ := (hv.below hb) k v hvk
      obtain ⟨b', o', rfl, d0, d1, d2⟩ := (hv'.below hb) k v hvk
      have z0 : (0 : Int) ≤ (k : Int) := by omega
      have z1 : (k : Int) < (vs.length : Int) := by omega
      go_wp2
      go_region
      go_wp2
      go_roundw
      case rel => exact ⟨k + 1, by omega, by go_num, hb.drew⟩
      case measure => (simp [intOf]; omega)
    · go_wp2
      go_ret
      exact ⟨rfl, hb⟩
set_option maxHeartbeats 3200000 in
theorem sameFacts_same (a a' : Option Addr) (c c' : Nat) (fs : List F) (w : World) (hv : FactsAt w a fs) (hv' : FactsAt w a' fs) (hl : fs.length ≤ 1048576) (hs : ∀ f ∈ fs, f.slots.length ≤ 1048576) :
    Calls Try.prog 66 #[.slice a fs.length c, .slice a' fs.length c'] w fun e w' => e = .returned (.bool true) ∧ Below w.heap.size w w' := by
  go_enter Try.func66, Try.ntmps66
  go_wp2
  go_loopw [13] (fun i wr => ∃ (k : Nat), k ≤ fs.length ∧ i = .int .i64 k ∧ Below w.heap.size w wr) (fun i _ => fs.length - (intOf i).toNat)
  case atStart => exact ⟨0, by omega, rfl, Below.refl _ _⟩
  case round =>
    obtain ⟨k, hk, rfl, hb⟩ := hrel
    by_cases hkl : k < fs.length
    · obtain ⟨f, hfk⟩ : ∃ f, fs[k]? = some f := ⟨fs[k], by simp [hkl]⟩
      obtain ⟨b, o, rfl, c0, c1, sa, sc, c2, hsv⟩ := (hv.below hb) k f hfk
      obtain ⟨b', o', rfl, d0, d1, sa', sc', d2, hsv'⟩ := (hv'.below hb) k f hfk
      have z0 : (0 : Int) ≤ (k : Int) := by omega
      have z1 : (k : Int) < (fs.length : Int) := by omega
      have hsl := hs f (List.mem_of_getElem? hfk)
      have HC : Hid (Calls Try.prog 124 #[.slice sa f.slots.length sc, .slice sa' f.slots.length sc'] wr.drew fun e w' => e = .returned (.bool true) ∧ Below wr.drew.heap.size wr.drew w') := sameSlots_same sa sa' sc sc' f.slots wr.drew (hsv.below (Below.refl _ _).drew) (hsv'.below (Below.refl _ _).drew) hsl
      clear hsv hsv'
      go_wp2
      go_region_held3 (fun w' => w'.cell? ⟨b, o + k * 3, none⟩ = some (.int .i64 f.tag) ∧ w'.cell? ⟨b, o + k * 3 + 1, none⟩ = some (.string f.cls) ∧ w'.cell? ⟨b, o + k * 3 + 2, none⟩ = some (.slice sa f.slots.length sc) ∧ w'.cell? ⟨b', o' + k * 3, none⟩ = some (.int .i64 f.tag) ∧ w'.cell? ⟨b', o' + k * 3 + 1, none⟩ = some (.string f.cls) ∧ w'.cell? ⟨b', o' + k * 3 + 2, none⟩ = some (.slice sa' f.slots.length sc')) ((go_split_ands; refine ⟨?_, ?_, ?_, ?_, ?_, ?_⟩ <;> first | (simp [*]; done) | exact cell_below hb' (by simp [*])))
        (first | (go_at_call 124; refine HC.out.mono ?_; rintro e w' ⟨rfl, hb'⟩))
      go_wp2
      go_roundw
      case rel => exact ⟨k + 1, by omega, by go_num, hb.drew.trans (hb'.mono hb.size)⟩
      case measure => (simp [intOf]; omega)
    · go_wp2
      go_ret
      exact ⟨rfl, hb⟩
/-- A store as it is handed over. -/
def storeV (a : Option Addr) (c : Nat) (fs : List F) (nx cp : Int) (sg : Bool) : Value := .agg #[.slice a fs.length c, .int .i64 nx, .int .i64 cp, .bool sg]
set_option maxHeartbeats 1600000 in
theorem sameStore_same (a a' : Option Addr) (c c' : Nat) (fs : List F) (nx cp : Int) (sg : Bool) (w : World) (hv : FactsAt w a fs) (hv' : FactsAt w a' fs) (hl : fs.length ≤ 1048576) (hs : ∀ f ∈ fs, f.slots.length ≤ 1048576) :
    Calls Try.prog 18 #[storeV a c fs nx cp sg, storeV a' c' fs nx cp sg] w fun e w' => e = .returned (.bool true) ∧ Below w.heap.size w w' := by
  have B2 : ∀ o1 o2, Below w.heap.size w ((w.alloc o1).alloc o2) := fun o1 o2 => ((Below.refl _ _).alloc (Nat.le_refl _) _).alloc (by simp) _
  unfold storeV
  go_enter Try.func18, Try.ntmps18
  go_wp2_with fail
  refine (sameFacts_same a a' c c' fs _ (hv.below (B2 _ _)) (hv'.below (B2 _ _)) hl hs).mono ?_
  rintro e w1 ⟨rfl, hb1⟩
  go_wp2
  go_ret
  exact ⟨rfl, (B2 _ _).trans (hb1.mono (B2 _ _).size)⟩
end Go.Proofs.Ytgamdkokmkagaaa
