/-
  OUR OWN TEXT. EvalExpr: the model's side: an operation of two numbers.
-/
import Derived.Test.YtpiglmkpmlogjaaEw3
namespace Go.Proofs.Ytpiglmkpmlogjaa
open Go.RowKit
attribute [local go_sem ↓] Go.wp_at_zero Go.wp_at_succ

def clV (p : Int × Int) : Value := .tuple #[.int .i64 p.1, .int .i64 p.2]
theorem narrow_y {n : Int} (h : fits n = true) : narrow n = (n, 0) := by unfold narrow; rw [if_pos h]
theorem narrow_n {n : Int} (h : fits n = false) : narrow n = (0, 6) := by unfold narrow; rw [if_neg (by simp [h])]

set_option maxHeartbeats 1600000 in
theorem calcS_43 (a b : Int) (w : World) (ha : fits a = true) (hb : fits b = true) :
    Calls Try.prog 183 #[.int .u8 43, .int .i64 a, .int .i64 b] w fun e w' => e = .returned (clV (calc1 43 a b)) ∧ Below w.heap.size w w' := by
  rw [show calc1 43 a b = narrow (a + b) from rfl]
  rw [fits_iff] at ha hb
  cases hf : fits (a + b)
  · rw [narrow_n hf]
    rw [fits_no] at hf
    by_cases h1 : 0 < b
    · have h2 : 9223372036854775807 - b < a := by omega
      clear hf
      go_enter Try.func183, Try.ntmps183
      go_wp2
      go_ret2
      exact ⟨rfl, Below.refl _ _⟩
    · have h3 : b < 0 := by omega
      have h2 : a < -9223372036854775808 - b := by omega
      clear hf
      go_enter Try.func183, Try.ntmps183
      go_wp2
      go_ret2
      exact ⟨rfl, Below.refl _ _⟩
  · rw [narrow_y hf]
    rw [fits_iff] at hf
    by_cases h1 : 0 < b
    · have h2 : ¬ 9223372036854775807 - b < a := by omega
      have h3 : ¬ b < 0 := by omega
      go_enter Try.func183, Try.ntmps183
      go_wp2
      go_ret2
      exact ⟨rfl, Below.refl _ _⟩
    · by_cases h3 : b < 0
      · have h2 : ¬ a < -9223372036854775808 - b := by omega
        go_enter Try.func183, Try.ntmps183
        go_wp2
        go_ret2
        exact ⟨rfl, Below.refl _ _⟩
      · go_enter Try.func183, Try.ntmps183
        go_wp2
        go_ret2
        exact ⟨rfl, Below.refl _ _⟩

set_option maxHeartbeats 1600000 in
theorem calcS_45 (a b : Int) (w : World) (ha : fits a = true) (hb : fits b = true) :
    Calls Try.prog 183 #[.int .u8 45, .int .i64 a, .int .i64 b] w fun e w' => e = .returned (clV (calc1 45 a b)) ∧ Below w.heap.size w w' := by
  rw [show calc1 45 a b = narrow (a - b) from rfl]
  rw [fits_iff] at ha hb
  cases hf : fits (a - b)
  · rw [narrow_n hf]
    rw [fits_no] at hf
    by_cases h1 : b < 0
    · have h2 : 9223372036854775807 + b < a := by omega
      clear hf
      go_enter Try.func183, Try.ntmps183
      go_wp2
      go_ret2
      exact ⟨rfl, Below.refl _ _⟩
    · have h3 : 0 < b := by omega
      have h2 : a < -9223372036854775808 + b := by omega
      clear hf
      go_enter Try.func183, Try.ntmps183
      go_wp2
      go_ret2
      exact ⟨rfl, Below.refl _ _⟩
  · rw [narrow_y hf]
    rw [fits_iff] at hf
    by_cases h1 : b < 0
    · have h2 : ¬ 9223372036854775807 + b < a := by omega
      have h3 : ¬ 0 < b := by omega
      go_enter Try.func183, Try.ntmps183
      go_wp2
      go_ret2
      exact ⟨rfl, Below.refl _ _⟩
    · by_cases h3 : 0 < b
      · have h2 : ¬ a < -9223372036854775808 + b := by omega
        go_enter Try.func183, Try.ntmps183
        go_wp2
        go_ret2
        exact ⟨rfl, Below.refl _ _⟩
      · go_enter Try.func183, Try.ntmps183
        go_wp2
        go_ret2
        exact ⟨rfl, Below.refl _ _⟩
end Go.Proofs.Ytpiglmkpmlogjaa
