/-
  OUR OWN TEXT. Marked slots, read again.
-/
import Derived.Test.YtgamdkokmkagaaaJr
namespace Go.Proofs.Ytgamdkokmkagaaa
open Go.RowKit
attribute [local go_sem ↓] Go.wp_at_zero Go.wp_at_succ

set_option maxHeartbeats 800000 in
theorem heldValueS_any (a : Option Addr) (c n : Nat) (k0 : Int) (w : World) (hv : ValsAt w a (mkVs k0 n)) (hl : n ≤ 1048576) (hk : 0 < k0) (hk' : k0 + 3 * (n : Int) ≤ 100000000) :
    Calls Try.prog 174 #[.slice a n c, .int .i64 k0] w fun e w' =>
      e = .returned (.int .i64 (k0 + 3 * (n : Int))) ∧ Below w.heap.size w w' := by
  go_enter Try.func174, Try.ntmps174
  go_wp2
  go_loopw [1, 5] (fun kv i wr => ∃ (j : Nat), j ≤ n ∧ i = .int .i64 j ∧ kv = .int .i64 (k0 + 3 * (j : Int)) ∧ Below w.heap.size w wr) (fun _ i _ => n - (intOf i).toNat)
  case atStart => exact ⟨0, by omega, rfl, by simp, Below.refl _ _⟩
  case round =>
    obtain ⟨j, hj, rfl, rfl, hb⟩ := hrel
    by_cases hjl : j < n
    · obtain ⟨b, o, rfl, d0, d1, d2⟩ := hv.below hb j _ (mkVs_at k0 n j hjl)
      have c0 : wr.cell? ⟨b, o + j * 3, none⟩ = some (.int .i64 (k0 + 3 * (j : Int))) := d0
      have c1 : wr.cell? ⟨b, o + j * 3 + 1, none⟩ = some (.int .i64 (k0 + 3 * (j : Int) + 1)) := d1
      have c2 : wr.cell? ⟨b, o + j * 3 + 2, none⟩ = some (.string (mText (k0 + 3 * (j : Int) + 2))) := d2
      clear d0 d1 d2
      have hw1 : IntKind.i64.wrap (k0 + 3 * (j : Int) + 1) = k0 + 3 * (j : Int) + 1 := by rw [IntKind.wrap_i64]; omega
      have hw2 : IntKind.i64.wrap (k0 + 3 * (j : Int) + 1 + 1) = k0 + 3 * (j : Int) + 2 := by rw [IntKind.wrap_i64]; omega
      have hw3 : IntKind.i64.wrap (k0 + 3 * (j : Int) + 2 + 1) = k0 + 3 * ((j : Int) + 1) := by rw [IntKind.wrap_i64]; omega
      have hcast : ((j + 1 : Nat) : Int) = (j : Int) + 1 := by omega
      go_wp2_with fail
      go_region_held3 (fun w' => w'.cell? ⟨b, o + j * 3 + 2, none⟩ = some (.string (mText (k0 + 3 * (j : Int) + 2)))) ((first | with_reducible exact cell_below hb1 (by assumption) | exact c2))
        ((go_at_call 77; refine (markText_any (k0 + 3 * (j : Int) + 2) _ (by omega) (by omega)).mono ?_; rintro e w1 ⟨rfl, hb1⟩))
      go_wp2
      go_roundw
      case rel => exact ⟨j + 1, by omega, by go_num, by rw [hcast], hb.drew.trans (hb1.mono hb.size)⟩
      case measure => simp [intOf]; omega
    · go_wp2
      go_ret
      obtain rfl : j = n := by omega
      exact ⟨rfl, hb⟩
end Go.Proofs.Ytgamdkokmkagaaa
