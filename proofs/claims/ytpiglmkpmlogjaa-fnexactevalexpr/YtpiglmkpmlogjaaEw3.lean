/-
  OUR OWN TEXT. EvalExpr: the model's side: digits as a number of 64 bits, if they are one.
-/
import Derived.Test.YtpiglmkpmlogjaaEw2
namespace Go.Proofs.Ytpiglmkpmlogjaa
open Go.RowKit
attribute [local go_sem ↓] Go.wp_at_zero Go.wp_at_succ

def sgn (neg : Bool) (m : Nat) : Int := if neg then -(m : Int) else (m : Int)
theorem dval_split (l : List Nat) (j : Nat) (h : j ≤ l.length) : dval l = dval (l.take j) + 65536 ^ j * dval (l.drop j) := by
  have := dval_append (l.take j) (l.drop j)
  rw [List.take_append_drop, List.length_take, Nat.min_eq_left h] at this
  exact this
theorem big_not {neg : Bool} {m : Nat} (h : 18446744073709551616 ≤ m) : fits (sgn neg m) = false := by
  rw [fits_no]
  unfold sgn
  split <;> omega
theorem dval_big {zs : List Nat} {j u : Nat} (hj : 1 ≤ j) (hl : j ≤ zs.length) (hu : u = dval (zs.drop j)) (h48 : 281474976710656 ≤ u) : 18446744073709551616 ≤ dval zs := by
  rw [dval_split zs j hl, ← hu]
  have h1 : 65536 ^ 1 ≤ 65536 ^ j := Nat.pow_le_pow_right (by omega) hj
  have h2 : 65536 ^ 1 * 281474976710656 ≤ 65536 ^ j * u := Nat.mul_le_mul h1 h48
  omega
theorem neg_num {u : Nat} (h : fits (sgn true u) = true) : Go.RowKit.wrap64 (IntKind.u64.wrap (-(u : Int))) = sgn true u := by
  rw [fits_iff] at h
  rw [w64]
  unfold sgn at *
  simp at h
  simp [IntKind.wrap, IntKind.bits, IntKind.signed]
  omega
theorem ret_nb {n : Int} {a b : Bool} (h : a = b) : Ending.returned (.tuple #[.int .i64 n, .bool a]) = .returned (.tuple #[.int .i64 n, .bool b]) := by rw [h]

set_option maxRecDepth 100000 in
set_option maxHeartbeats 1600000 in
theorem narrowS_any (neg : Bool) (g : Nat) (zs : List Nat) (w : World) (hg : DBlk w g zs) (hl : zs.length = 8) (hs : Small zs) :
    Calls Try.prog 220 #[.agg #[.bool neg, .slice (some ⟨g, 0, none⟩) 8 8]] w fun e w' =>
      (∃ n, e = .returned (.tuple #[.int .i64 n, .bool (fits (sgn neg (dval zs)))]) ∧ (fits (sgn neg (dval zs)) = true → n = sgn neg (dval zs))) ∧ Below w.heap.size w w' := by
  have HL := hidE hl
  have HG := hidE hg
  have hgl : g < w.heap.size := lt_of_block' hg
  clear hl hg
  go_enter Try.func220, Try.ntmps220
  go_wp2
  go_loopw [4, 5] (fun uv iv wr => ∃ (j u : Nat), j ≤ 8 ∧ iv = .int .i64 ((j : Int) - 1) ∧ uv = .int .u64 (u : Int) ∧ u = dval (zs.drop j) ∧ u < 18446744073709551616 ∧ wr = w.alloc (.cells #[.bool neg, .slice (some ⟨g, 0, none⟩) 8 8] 290)) (fun _ iv _ => (intOf iv + 1).toNat)
  case atStart => exact ⟨8, 0, by omega, rfl, rfl, by rw [List.drop_eq_nil_of_le (by have := HL.out; omega)]; rfl, by omega, rfl⟩
  case round =>
    obtain ⟨j, u, hj, rfl, rfl, hu, hu64, hwr⟩ := hrel
    subst hwr
    have HU := hidE hu
    clear hu
    have B0 : Below w.heap.size w (w.alloc (.cells #[.bool neg, .slice (some ⟨g, 0, none⟩) 8 8] 290)) := (Below.refl _ _).alloc (Nat.le_refl _) _
    by_cases hj0 : j = 0
    · subst hj0
      rw [List.drop_zero] at HU
      cases neg
      · have hfit : decide ((u : Int) < 9223372036854775808) = fits (sgn false u) := by
          unfold sgn fits
          by_cases h : (u : Int) < 9223372036854775808 <;> simp [h] <;> omega
        have HF := hidE hfit
        clear hfit
        go_wp2
        go_ret2
        refine ⟨⟨Go.RowKit.wrap64 (u : Int), ?_, ?_⟩, B0⟩
        · rw [← HU.out]
          exact ret_nb HF.out
        · rw [← HU.out]
          intro h
          rw [w64]
          exact wrap64_fit h
      · have hfit : decide ((u : Int) ≤ 9223372036854775808) = fits (sgn true u) := by
          unfold sgn fits
          by_cases h : (u : Int) ≤ 9223372036854775808 <;> simp [h] <;> omega
        have HF := hidE hfit
        clear hfit
        go_wp2
        go_ret2
        refine ⟨⟨Go.RowKit.wrap64 (IntKind.u64.wrap (-(u : Int))), ?_, ?_⟩, B0⟩
        · rw [← HU.out]
          exact ret_nb HF.out
        · rw [← HU.out]
          intro h
          exact neg_num h
    · obtain ⟨j', rfl⟩ : ∃ j', j = j' + 1 := ⟨j - 1, by omega⟩
      obtain ⟨d, hd⟩ : ∃ d, zs[j']? = some d := ⟨zs[j']'(by have := HL.out; omega), by simp⟩
      have hds : d < 65536 := hs d (List.mem_of_getElem? hd)
      have cd := HG.out.cell hd
      have hcast : (((j' + 1 : Nat) : Int) - 1) = (j' : Int) := by omega
      rw [hcast]
      by_cases h48 : 281474976710656 ≤ u
      · have HF := hidE (big_not (neg := neg) (dval_big (j := j' + 1) (by omega) (by have := HL.out; omega) HU.out h48))
        have hq : ((u : Int) / 281474976710656 != 0) = true := by
          simp
          omega
        go_wp2
        go_ret2
        refine ⟨⟨0, ?_, ?_⟩, B0⟩
        · exact ret_nb HF.out.symm
        · intro h
          rw [HF.out] at h
          cases h
      · have hq : ((u : Int) / 281474976710656 != 0) = false := by
          simp
          omega
        have ho := or16 u d (by omega) hds
        rw [Int.natCast_mul] at ho
        have HO := hidE ho
        have HN : Hid (u * 65536 + d = dval (zs.drop j')) := show _ = _ from by
          rw [drop_cons hd, dval, ← HU.out]
          omega
        clear ho
        go_wp2
        go_roundw
        case rel =>
          refine ⟨j', u * 65536 + d, by omega, rfl, ?_, HN.out, by omega, ?_⟩
          · exact congrArg (Value.int .u64) HO.out
          · first | trivial | rfl
        case measure => simp [intOf]
end Go.Proofs.Ytpiglmkpmlogjaa
