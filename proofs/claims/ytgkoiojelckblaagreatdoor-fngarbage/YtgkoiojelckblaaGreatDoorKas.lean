/-
  OUR OWN TEXT. Ic1, Ic2, Ic5, one behind the other.
-/
import Derived.Test.YtgkoiojelckblaaGreatDoorKag
import Derived.Test.YtgkoiojelckblaaGreatDoorIm10m
import Derived.Test.YtgkoiojelckblaaGreatDoorKah
import Derived.Deep.RegionHeld3
import Derived.Deep.DrawnRows
import Derived.BigQuiet
import Derived.Lib.Bytealg
namespace Go.Proofs.YtgkoiojelckblaaGreatDoor
open Go.RowKit
attribute [local go_sem ↓] Go.wp_at_zero Go.wp_at_succ

end Go.Proofs.YtgkoiojelckblaaGreatDoor

namespace Go.Proofs.YtgkoiojelckblaaGreatDoor
open Go.RowKit Go.Lib
attribute [local go_sem ↓] Go.wp_at_zero Go.wp_at_succ

set_option maxHeartbeats 800000 in
set_option maxRecDepth 100000 in
theorem slIndexByte_any (s : ByteArray) (c : Int) (w : World) :
    Calls Tryz.prog 300 #[.string s, .int .u8 c] w fun e w' => e = .returned (.int .i64 (Lib.indexByte s.data.toList c.toNat.toUInt8)) ∧ w' = w := by
  go_enter Tryz.func300, Tryz.ntmps300
  go_wp2
  rw [run_callFunc_extern Tryz.func326 (by kernel_rfl) (by kernel_rfl) (by kernel_rfl) (e := Extern.BytealgIndexByte.indexByte) (by kernel_rfl), Lib.run_indexByteString]
  simp only [Result.andThen]
  rw [Oper.upon_value]
  go_wp2
  go_ret
  exact ⟨rfl, rfl⟩

set_option maxHeartbeats 800000 in
theorem indexByte_any (s : ByteArray) (c : Int) (w : World) :
    Calls Tryz.prog 261 #[.string s, .int .u8 c] w fun e w' => e = .returned (.int .i64 (Lib.indexByte s.data.toList c.toNat.toUInt8)) ∧ w' = w := by
  go_enter Tryz.func261, Tryz.ntmps261
  go_wp2_with (go_at_call 300; refine (slIndexByte_any s c _).mono ?_; rintro e w' ⟨rfl, rfl⟩)
  go_ret
  exact ⟨rfl, rfl⟩

theorem isAr_index {c : Int} (h0 : 0 ≤ c) (h1 : c < 256) : decide (0 ≤ Lib.indexByte [43, 45, 42, 47, 37] c.toNat.toUInt8) = isAr c := by
  have key : ∀ n : Fin 256, decide (0 ≤ Lib.indexByte [43, 45, 42, 47, 37] ((n.val : Nat) : Int).toNat.toUInt8) = isAr ((n.val : Nat) : Int) := by decide +kernel
  obtain ⟨n, rfl⟩ := Int.eq_ofNat_of_zero_le h0
  exact key ⟨n, by omega⟩

set_option maxHeartbeats 800000 in
theorem isArith_any (c : Int) (h0 : 0 ≤ c) (h1 : c < 256) (w : World) :
    Calls Tryz.prog 219 #[.int .u8 c] w fun e w' => e = .returned (.bool (isAr c)) ∧ w' = w := by
  have H := isAr_index h0 h1
  have HH : Hid (decide (0 ≤ Lib.indexByte [43, 45, 42, 47, 37] c.toNat.toUInt8) = isAr c) := H
  clear H
  go_enter Tryz.func219, Tryz.ntmps219
  go_wp2_with (go_at_call 261; refine (indexByte_any _ c _).mono ?_; rintro e w' ⟨rfl, rfl⟩)
  go_ret
  exact ⟨ret_bool (by rw [← HH.out]), rfl⟩

/-- Spans that lie in memory. -/
def spR (_ : World) (r : List Value) (s : Sp) : Prop := r = [.int .i64 (s.1 : Int), .int .i64 (s.2 : Int)]
theorem spR_any {w w' : World} {r : List Value} {x : Sp} (h : spR w r x) : spR w' r x := h
abbrev SpsAt (q : Option Nat) (w : World) (a : Option Addr) (xs : List Sp) : Prop := RowsAt spR q 306 2 w a xs
theorem SpsAt.below {q : Option Nat} {w w' : World} {a : Option Addr} {xs : List Sp} (h : SpsAt q w a xs) (hb : Below w.heap.size w w') : SpsAt q w' a xs := RowsAt.below h (fun _ _ _ h => spR_any h) hb
theorem below_drewN2 {B n : Nat} {a w : World} (h : Below B a w) : Below B a (w.drewN n) := ⟨h.os, h.tape, h.output, h.size, h.block⟩
end Go.Proofs.YtgkoiojelckblaaGreatDoor

namespace Go.Proofs.YtgkoiojelckblaaGreatDoor
open Go.RowKit
attribute [local go_sem ↓] Go.wp_at_zero Go.wp_at_succ

theorem firstBad_cons {α : Type} (f : α → Bool) (x : α) (r : List α) (k : Nat) : firstBad f (x :: r) k = if f x then firstBad f r (k + 1) else some k := rfl
end Go.Proofs.YtgkoiojelckblaaGreatDoor
