/-
  OUR OWN TEXT. Sc2, Sc1, Sc4h, one behind the other.
-/
import Derived.Test.YtdhpoagjmiligaaGreatDoorKak
import Derived.Test.YtdhpoagjmiligaaGreatDoorKam
import Derived.Deep.RegionHeld3
import Derived.Deep.DrawnRows
import Derived.BigQuiet
import Derived.Laws.BytesArg
namespace Go.Proofs.YtdhpoagjmiligaaGreatDoor
open Go.RowKit
attribute [local go_sem ↓] Go.wp_at_zero Go.wp_at_succ

/-- Strings that lie in memory. -/
def strR (_ : World) (r : List Value) (x : ByteArray) : Prop := r = [.string x]
abbrev StrsAt (q : Option Nat) (w : World) (a : Option Addr) (xs : List ByteArray) : Prop := RowsAt strR q 9 1 w a xs
theorem StrsAt.get {q : Option Nat} {w : World} {a : Option Addr} {xs : List ByteArray} {i : Nat} {x : ByteArray} (h : StrsAt q w a xs) (hi : xs[i]? = some x) : ∃ b o, a = some ⟨b, o, none⟩ ∧ Qb q w 9 b ∧ w.cell? ⟨b, o + i, none⟩ = some (.string x) := by
  obtain ⟨b, o, r, h1, h2, h3, h4, h5⟩ := h i x hi
  unfold strR at h5
  subst h5
  exact ⟨b, o, h1, h2, by simpa using h4 0 _ rfl⟩

set_option maxHeartbeats 800000 in
theorem l2Is_any (s : ByteArray) (a : Option Addr) (c : Nat) (xs : List ByteArray) (w : World) {q : Option Nat} (hv : StrsAt q w a xs) (hl : xs.length ≤ 1048576) :
    Calls Tryz.prog 68 #[.string s, .slice a xs.length c] w fun e w' => e = .returned (.bool (memB s xs)) ∧ w' = w := by
  go_enter Tryz.func68, Tryz.ntmps68
  go_wp2
  go_loopw [9] (fun i wr => ∃ (k : Nat), k ≤ xs.length ∧ i = .int .i64 k ∧ memB s xs = memB s (xs.drop k) ∧ wr = w) (fun i _ => xs.length - (intOf i).toNat)
  case atStart => exact ⟨0, by omega, rfl, rfl, rfl⟩
  case round =>
    obtain ⟨k, hk, rfl, hG, hb⟩ := hrel
    subst hb
    have HG : Hid (memB s xs = memB s (xs.drop k)) := hG
    clear hG
    by_cases hkl : k < xs.length
    · obtain ⟨x, hxk⟩ : ∃ x, xs[k]? = some x := ⟨xs[k], by simp [hkl]⟩
      obtain ⟨b, o, rfl, hq, c0⟩ := hv.get hxk
      have HD : Hid (xs.drop k = x :: xs.drop (k + 1)) := drop_cons hxk
      cases e1 : (s.toList == x.toList)
      all_goals go_wp2
      · go_roundw
        case rel =>
          refine ⟨k + 1, by omega, by go_num, ?_, (by first | rfl | trivial)⟩
          rw [bytes_beq] at e1
          have : x ≠ s := fun h => by subst h; simp at e1
          rw [HG.out, HD.out]
          simp [memB, this]
        case measure => simp [intOf]; omega
      · go_ret
        rw [bytes_beq] at e1
        have e2 : s = x := by simpa using e1
        exact ⟨ret_bool (by rw [HG.out, HD.out]; simp [memB, e2]), rfl⟩
    · go_wp2
      go_ret
      exact ⟨ret_bool (by rw [HG.out, List.drop_eq_nil_of_le (by omega)]; rfl), rfl⟩

end Go.Proofs.YtdhpoagjmiligaaGreatDoor

namespace Go.Proofs.YtdhpoagjmiligaaGreatDoor
open Go.RowKit
attribute [local go_sem ↓] Go.wp_at_zero Go.wp_at_succ

end Go.Proofs.YtdhpoagjmiligaaGreatDoor

namespace Go.Proofs.YtdhpoagjmiligaaGreatDoor
open Go.RowKit
attribute [local go_sem ↓] Go.wp_at_zero Go.wp_at_succ

set_option maxHeartbeats 400000 in
theorem l2Ariths_any (w : World) : Calls Tryz.prog 70 #[] w fun e w' => e = .returned (.slice (some ⟨w.heap.size, 0, none⟩) 5 5) ∧ w' = w.alloc (.cells #[.string ⟨#[43]⟩, .string ⟨#[45]⟩, .string ⟨#[42]⟩, .string ⟨#[47]⟩, .string ⟨#[37]⟩] 9) := by
  go_enter Tryz.func70, Tryz.ntmps70
  go_wp2
  go_ret
  exact ⟨rfl, rfl⟩
end Go.Proofs.YtdhpoagjmiligaaGreatDoor
