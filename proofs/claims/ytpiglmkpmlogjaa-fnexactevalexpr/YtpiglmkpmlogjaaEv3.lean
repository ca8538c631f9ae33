/-
  OUR OWN TEXT. EvalExpr: the program's own arithmetic.
-/
import Derived.Test.YtpiglmkpmlogjaaEv1
import Derived.BigQuiet
import Derived.Deep.RegionHeld3
import Derived.Deep.DrawnRows
import Derived.Test.YtpiglmkpmlogjaaSym
namespace Go.Proofs.Ytpiglmkpmlogjaa
open Go.RowKit
attribute [local go_sem ↓] Go.wp_at_zero Go.wp_at_succ

theorem narrow_code (n : Int) : (narrow n).2 = if fits n = true then 0 else 6 := by
  unfold narrow
  split <;> rfl
theorem narrow_num {n : Int} (h : (narrow n).2 = 0) : fits n = true ∧ (narrow n).1 = n := by
  unfold narrow at *
  split at h
  · rename_i hf
    rw [if_pos hf]
    exact ⟨hf, rfl⟩
  · cases h
/-- The code of a result that fits, or does not. -/
def ovC (t : Bool) : Int := if t = true then 0 else 6
theorem overUnless_any (t : Bool) (w : World) : Calls Try.prog 247 #[.bool t] w fun e w' => e = .returned (.int .i64 (ovC t)) ∧ w' = w := by
  cases t
  all_goals
    go_enter Try.func247, Try.ntmps247
    go_wp2
    go_ret
    exact ⟨rfl, rfl⟩
def flips (a b : Int) : Bool := decide (a = least) && decide (b = -1)
theorem flipsLeast_any (a b : Int) (w : World) : Calls Try.prog 248 #[.int .i64 a, .int .i64 b] w fun e w' => e = .returned (.bool (flips a b)) ∧ w' = w := by
  by_cases h1 : a = -9223372036854775808 <;> by_cases h2 : b = -1
  all_goals
    have hf : Hid (flips a b = (decide (a = -9223372036854775808) && decide (b = -1))) := rfl
    go_enter Try.func248, Try.ntmps248
    go_wp2
    go_ret
    exact ⟨by rw [hf.out]; simp [h1, h2], rfl⟩
/-- What the program's arithmetic is asked: at code 0 the number is the result. -/
def ArC (K : Nat) (op : Int) : Prop := ∀ (a b : Int) (w : World), fits a = true → fits b = true → Calls Try.prog K #[.int .i64 a, .int .i64 b] w fun e w' =>
  (∃ n, e = .returned (.tuple #[.int .i64 n, .int .i64 (calc1 op a b).2]) ∧ ((calc1 op a b).2 = 0 → n = (calc1 op a b).1)) ∧ Below w.heap.size w w'
theorem hidE {p : Prop} (h : p) : Hid p := h
theorem w64 (x : Int) : Go.RowKit.wrap64 x = IntKind.i64.wrap x := by
  unfold Go.RowKit.wrap64
  exact (IntKind.wrap_i64 x).symm
theorem code_if {n : Int} {t : Bool} (h : t = fits n) : ovC t = (narrow n).2 := by
  rw [narrow_code, h]
  rfl
theorem num_of {n : Int} (h : (narrow n).2 = 0) : Go.RowKit.wrap64 n = (narrow n).1 := by
  obtain ⟨h1, h2⟩ := narrow_num h
  rw [h2, w64, wrap64_fit h1]
theorem ret_two {n m x : Int} (h : m = x) : Ending.returned (.tuple #[.int .i64 n, .int .i64 m]) = .returned (.tuple #[.int .i64 n, .int .i64 x]) := by rw [h]
set_option maxHeartbeats 800000 in
theorem sum_any : ArC 238 43 := by
  intro a b w ha hb
  have HC := hidE (show calc1 43 a b = narrow (a + b) from rfl)
  have HT := hidE (code_if (sum_test ha hb))
  rw [← w64] at HT
  go_enter Try.func238, Try.ntmps238
  go_wp2_with (go_at_call 247; refine (overUnless_any _ _).mono ?_; rintro e w' ⟨rfl, rfl⟩)
  go_ret2
  refine ⟨⟨Go.RowKit.wrap64 (a + b), ?_, ?_⟩, Below.refl _ _⟩
  · rw [HC.out]
    exact ret_two HT.out
  · rw [HC.out]
    exact num_of
set_option maxHeartbeats 800000 in
theorem diff_any : ArC 239 45 := by
  intro a b w ha hb
  have HC := hidE (show calc1 45 a b = narrow (a - b) from rfl)
  have HT := hidE (code_if (diff_test ha hb))
  rw [← w64] at HT
  go_enter Try.func239, Try.ntmps239
  go_wp2_with (go_at_call 247; refine (overUnless_any _ _).mono ?_; rintro e w' ⟨rfl, rfl⟩)
  go_ret2
  refine ⟨⟨Go.RowKit.wrap64 (a - b), ?_, ?_⟩, Below.refl _ _⟩
  · rw [HC.out]
    exact ret_two HT.out
  · rw [HC.out]
    exact num_of
theorem flips_iff {a b : Int} : flips a b = true ↔ (a = least ∧ b = -1) := by simp [flips]
set_option maxHeartbeats 800000 in
theorem prod_any : ArC 240 42 := by
  intro a b w ha hb
  have HC := hidE (show calc1 42 a b = narrow (a * b) from rfl)
  by_cases hb0 : b = 0
  · subst hb0
    have HT := hidE (show (0 : Int) = (narrow (a * 0)).2 from by rw [Int.mul_zero]; rfl)
    have HN := hidE (show (narrow (a * 0)).2 = 0 → (0 : Int) = (narrow (a * 0)).1 from by rw [Int.mul_zero]; intro _; rfl)
    go_enter Try.func240, Try.ntmps240
    go_wp2_with (go_at_call 247; refine (overUnless_any _ _).mono ?_; rintro e w' ⟨rfl, rfl⟩)
    go_ret2
    refine ⟨⟨0, ?_, ?_⟩, Below.refl _ _⟩
    · rw [HC.out]
      exact ret_two HT.out
    · rw [HC.out]
      exact HN.out
  · have hp := prod_ok ha hb hb0
    rw [← w64, ← w64] at hp
    by_cases hq : Go.RowKit.wrap64 ((Go.RowKit.wrap64 (a * b)).tdiv b) = a
    · have hf : (!flips a b) = fits (a * b) := by
        cases h1 : flips a b
        · exact (hp.1 ⟨hq, fun h => by rw [flips_iff.2 h] at h1; cases h1⟩).symm
        · cases h2 : fits (a * b)
          · rfl
          · exact absurd (flips_iff.1 h1) (hp.2 h2).2
      have HT := hidE (code_if hf)
      have hbz : (b == 0) = false := by simpa using hb0
      have HFL := hidE (flipsLeast_any a b)
      generalize flips a b = fl at HT HFL
      clear hp hf
      go_enter Try.func240, Try.ntmps240
      go_wp2_with (first | (go_at_call 248; with_reducible refine (HFL.out _).mono ?_; rintro e w' ⟨rfl, rfl⟩) | (go_at_call 247; refine (overUnless_any _ _).mono ?_; rintro e w' ⟨rfl, rfl⟩))
      go_ret2
      refine ⟨⟨Go.RowKit.wrap64 (a * b), ?_, ?_⟩, Below.refl _ _⟩
      · rw [HC.out]
        exact ret_two HT.out
      · rw [HC.out]
        exact num_of
    · have hf : false = fits (a * b) := by
        cases h2 : fits (a * b)
        · rfl
        · exact absurd (hp.2 h2).1 hq
      have HT := hidE (code_if hf)
      have hb1 : (b == 0) = false := by simpa using hb0
      clear hp hf
      go_enter Try.func240, Try.ntmps240
      go_wp2_with (go_at_call 247; refine (overUnless_any _ _).mono ?_; rintro e w' ⟨rfl, rfl⟩)
      go_ret2
      refine ⟨⟨Go.RowKit.wrap64 (a * b), ?_, ?_⟩, Below.refl _ _⟩
      · rw [HC.out]
        exact ret_two (by rw [← HT.out])
      · rw [HC.out]
        exact num_of
theorem calc_div {a b : Int} (hb0 : b ≠ 0) : calc1 47 a b = narrow (a.tdiv b) := by
  show (if b = 0 then ((0 : Int), (7 : Int)) else narrow (a.tdiv b)) = _
  rw [if_neg hb0]
theorem calc_mod {a b : Int} (hb0 : b ≠ 0) : calc1 37 a b = (a.tmod b, 0) := by
  show (if b = 0 then ((0 : Int), (7 : Int)) else (a.tmod b, (0 : Int))) = _
  rw [if_neg hb0]
set_option maxHeartbeats 800000 in
theorem quo_any : ArC 241 47 := by
  intro a b w ha hb
  by_cases hb0 : b = 0
  · subst hb0
    have HC := hidE (show calc1 47 a 0 = (0, 7) from rfl)
    go_enter Try.func241, Try.ntmps241
    go_wp2_with fail
    go_ret2
    refine ⟨⟨0, ?_, ?_⟩, Below.refl _ _⟩
    · rw [HC.out]
      rfl
    · rw [HC.out]
      intro h
      cases h
  · have HC := hidE (calc_div (a := a) hb0)
    have hf : (!flips a b) = fits (a.tdiv b) := by
      have h := tdiv_fits ha hb hb0
      cases h1 : flips a b
      · exact (h.2 (fun h' => by rw [flips_iff.2 h'] at h1; cases h1)).symm
      · cases h2 : fits (a.tdiv b)
        · rfl
        · exact absurd (flips_iff.1 h1) (h.1 h2)
    have HT := hidE (code_if hf)
    have HFL := hidE (flipsLeast_any a b)
    generalize flips a b = fl at HT HFL
    clear hf
    go_enter Try.func241, Try.ntmps241
    go_wp2_with fail
    go_region_held3 (fun w' => w' = w.drew) (first | (with_reducible assumption) | rfl | fail)
      (first | (go_at_call 248; with_reducible refine (HFL.out _).mono ?_; rintro e w1 ⟨rfl, rfl⟩) | (go_at_call 247; refine (overUnless_any _ _).mono ?_; rintro e w1 ⟨rfl, rfl⟩) | fail)
    go_wp2_with fail
    go_ret2
    refine ⟨⟨IntKind.i64.wrap (a.tdiv b), ?_, ?_⟩, (Below.refl _ _).drew⟩
    · rw [HC.out]
      exact ret_two HT.out
    · rw [HC.out, ← w64]
      exact num_of
set_option maxHeartbeats 800000 in
theorem rest_any : ArC 242 37 := by
  intro a b w ha hb
  by_cases hb0 : b = 0
  · subst hb0
    have HC := hidE (show calc1 37 a 0 = (0, 7) from rfl)
    go_enter Try.func242, Try.ntmps242
    go_wp2_with fail
    go_ret2
    refine ⟨⟨0, ?_, ?_⟩, Below.refl _ _⟩
    · rw [HC.out]
      rfl
    · rw [HC.out]
      intro h
      cases h
  · have HC := hidE (calc_mod (a := a) hb0)
    go_enter Try.func242, Try.ntmps242
    go_wp2_with fail
    go_ret2
    refine ⟨⟨a.tmod b, ?_, ?_⟩, Below.refl _ _⟩
    · rw [HC.out]
      rfl
    · rw [HC.out]
      intro _
      rfl
end Go.Proofs.Ytpiglmkpmlogjaa
