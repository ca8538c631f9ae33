/-
  OUR OWN TEXT. The library's own slices.Compare and cmp.Or at numbers.
-/
import Derived.Test.YtajgedhmliekoaaGreatJg
import Derived.Test.YtajgedhmliekoaaGreatShf
import Derived.Deep.RegionHeld3
import Derived.Deep.DrawnRows
namespace Go.Proofs.YtajgedhmliekoaaGreat
open Go.RowKit
attribute [local go_sem ↓] Go.wp_at_zero Go.wp_at_succ

theorem cmpI_any (x y : Int) (w : World) : Calls Tryz.prog 79 #[.int .i64 x, .int .i64 y] w fun e w' => e = .returned (.int .i64 (Lib.compareInt x y)) ∧ w' = w := AnyG.cmp_Compare_int Tryz.cmpI x y w
theorem cmpL_any (x y : Int) (w : World) : Calls Tryz.prog 56 #[.int .i64 x, .int .i64 y] w fun e w' => e = .returned (.int .i64 (Lib.compareInt x y)) ∧ w' = w := AnyG.cmp_Compare_int Tryz.cmpL x y w
theorem retI {a b : Int} (h : b = a) : Ending.returned (.int .i64 a) = .returned (.int .i64 b) := by rw [h]
theorem hidB {p : Prop} (h : p) : Hid p := h
theorem lexC_drop {xs ys : List Int} {k : Nat} {x y : Int} (hx : xs[k]? = some x) (hy : ys[k]? = some y) : lexC (xs.drop k) (ys.drop k) = if Lib.compareInt x y = 0 then lexC (xs.drop (k + 1)) (ys.drop (k + 1)) else Lib.compareInt x y := by
  rw [drop_cons hx, drop_cons hy, lexC]

set_option maxHeartbeats 800000 in
theorem compare_any (a a' : Option Addr) (c c' : Nat) (xs ys : List Int) (w : World) {q q' : Option Nat} (hv : IntsAt q w a xs) (hv' : IntsAt q' w a' ys) (hl : xs.length ≤ 1048576) (hl' : ys.length ≤ 1048576) :
    Calls Tryz.prog 57 #[.slice a xs.length c, .slice a' ys.length c'] w fun e w' => e = .returned (.int .i64 (lexC xs ys)) ∧ w' = w := by
  go_enter Tryz.func57, Tryz.ntmps57
  go_wp2
  go_loopw [11] (fun i wr => ∃ (k : Nat), k ≤ xs.length ∧ k ≤ ys.length ∧ i = .int .i64 k ∧ lexC xs ys = lexC (xs.drop k) (ys.drop k) ∧ wr = w) (fun i _ => xs.length - (intOf i).toNat)
  case atStart => exact ⟨0, by omega, by omega, rfl, rfl, rfl⟩
  case round =>
    obtain ⟨k, hk, hk', rfl, hG, rfl⟩ := hrel
    have HG := hidB hG
    clear hG
    by_cases hkl : k < xs.length
    · obtain ⟨x, hxk⟩ : ∃ x, xs[k]? = some x := ⟨xs[k], by simp [hkl]⟩
      obtain ⟨b, o, rfl, hq, d0⟩ := hv.get hxk
      by_cases hkl' : k < ys.length
      · obtain ⟨y, hyk⟩ : ∃ y, ys[k]? = some y := ⟨ys[k], by simp [hkl']⟩
        obtain ⟨b', o', rfl, hq', d1⟩ := hv'.get hyk
        have HL := hidB (lexC_drop hxk hyk)
        have HC := hidB (cmpI_any x y)
        by_cases hc : Lib.compareInt x y = 0
        · have HZ := hidB hc
          rw [hc] at HC
          clear hc
          go_wp2_with (go_at_call 79; refine (HC.out _).mono ?_; rintro e w' ⟨rfl, rfl⟩)
          go_roundw
          case rel => exact ⟨k + 1, by omega, by omega, by go_num, by rw [HG.out, HL.out, if_pos HZ.out], by first | trivial | rfl⟩
          case measure => simp [intOf]; omega
        · obtain ⟨r, hr⟩ : ∃ r, Lib.compareInt x y = r := ⟨_, rfl⟩
          rw [hr] at HC hc
          have HR := hidB hr
          have HN := hidB hc
          clear hr
          go_wp2_with (go_at_call 79; refine (HC.out _).mono ?_; rintro e w' ⟨rfl, rfl⟩)
          go_ret
          exact ⟨retI (by rw [HG.out, HL.out, HR.out, if_neg HN.out]), rfl⟩
      · have hle : ys.length = k := by omega
        have HE := hidB (show lexC (xs.drop k) (ys.drop k) = 1 from by rw [drop_cons hxk, (List.drop_eq_nil_of_le (by omega) : ys.drop k = [])]; rfl)
        go_wp2_with fail
        go_ret
        exact ⟨retI (by rw [HG.out, HE.out]), rfl⟩
    · by_cases hkl' : k < ys.length
      · obtain ⟨y, hyk⟩ : ∃ y, ys[k]? = some y := ⟨ys[k], by simp [hkl']⟩
        have HE := hidB (show lexC (xs.drop k) (ys.drop k) = -1 from by rw [drop_cons hyk, (List.drop_eq_nil_of_le (by omega) : xs.drop k = [])]; rfl)
        have hlt : (xs.length : Int) < (ys.length : Int) := by omega
        go_wp2_with fail
        go_ret
        exact ⟨retI (by rw [HG.out, HE.out]), rfl⟩
      · have HE := hidB (show lexC (xs.drop k) (ys.drop k) = 0 from by rw [(List.drop_eq_nil_of_le (by omega) : xs.drop k = []), (List.drop_eq_nil_of_le (by omega) : ys.drop k = [])]; rfl)
        have hlt : ¬ (xs.length : Int) < (ys.length : Int) := by omega
        go_wp2_with fail
        go_ret
        exact ⟨retI (by rw [HG.out, HE.out]), rfl⟩

theorem orI_drop {xs : List Int} {k : Nat} {x : Int} (hx : xs[k]? = some x) : orI (xs.drop k) = if x = 0 then orI (xs.drop (k + 1)) else x := by
  rw [drop_cons hx, orI]
set_option maxHeartbeats 800000 in
theorem or_any (a : Option Addr) (c : Nat) (xs : List Int) (w : World) {q : Option Nat} (hv : IntsAt q w a xs) (hl : xs.length ≤ 1048576) :
    Calls Tryz.prog 55 #[.slice a xs.length c] w fun e w' => e = .returned (.int .i64 (orI xs)) ∧ w' = w := by
  go_enter Tryz.func55, Tryz.ntmps55
  go_wp2
  go_loopw [8] (fun i wr => ∃ (k : Nat), k ≤ xs.length ∧ i = .int .i64 k ∧ orI xs = orI (xs.drop k) ∧ wr = w) (fun i _ => xs.length - (intOf i).toNat)
  case atStart => exact ⟨0, by omega, rfl, rfl, rfl⟩
  case round =>
    obtain ⟨k, hk, rfl, hG, rfl⟩ := hrel
    have HG := hidB hG
    clear hG
    by_cases hkl : k < xs.length
    · obtain ⟨x, hxk⟩ : ∃ x, xs[k]? = some x := ⟨xs[k], by simp [hkl]⟩
      obtain ⟨b, o, rfl, hq, d0⟩ := hv.get hxk
      have HL := hidB (orI_drop hxk)
      by_cases hc : x = 0
      · subst hc
        go_wp2_with fail
        go_roundw
        case rel => exact ⟨k + 1, by omega, by go_num, by rw [HG.out, HL.out, if_pos rfl], by first | trivial | rfl⟩
        case measure => simp [intOf]; omega
      · have HN := hidB hc
        go_wp2_with fail
        go_ret
        exact ⟨retI (by rw [HG.out, HL.out, if_neg HN.out]), rfl⟩
    · have HE := hidB (show orI (xs.drop k) = 0 from by rw [List.drop_eq_nil_of_le (by omega)]; rfl)
      go_wp2_with fail
      go_ret
      exact ⟨retI (by rw [HG.out, HE.out]), rfl⟩
end Go.Proofs.YtajgedhmliekoaaGreat
