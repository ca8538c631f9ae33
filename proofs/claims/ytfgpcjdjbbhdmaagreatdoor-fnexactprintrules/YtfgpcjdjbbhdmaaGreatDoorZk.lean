/-
  OUR OWN TEXT. Ic3, Ic3b, one behind the other.
-/
import Derived.Test.YtfgpcjdjbbhdmaaGreatDoorZe
import Derived.Test.YtfgpcjdjbbhdmaaGreatDoorZj
namespace Go.Proofs.YtfgpcjdjbbhdmaaGreatDoor
open Go.RowKit
attribute [local go_sem ↓] Go.wp_at_zero Go.wp_at_succ

theorem fields_fin (y : Ac) (k1 k2 k3 k4 : Bool) (x : Bool) (h1 : (y.kind == 1) = k1) (h2 : (y.kind == 2) = k2) (h3 : (y.kind == 3) = k3) (h4 : (y.kind == 4) = k4) (h : x = (if k1 then gCls y.cls && y.k == 0
    else if k2 then (y.cls.toList.isEmpty && (decide (-1000000 ≤ y.k) && decide (y.k ≤ 1000000))) && ((y.args.length : Int) == 0)
    else if k3 then y.cls.toList.isEmpty && (decide (-1000000 ≤ y.k) && decide (y.k ≤ 1000000))
    else if k4 then y.cls.toList.isEmpty && (y.k == 0 && ((y.args.length : Int) == 0))
    else false)) : x = fieldsOk y := by
  have L : y.args.isEmpty = ((y.args.length : Int) == 0) := by
    cases y.args with
    | nil => rfl
    | cons v r => simp; omega
  rw [h, ← h1, ← h2, ← h3, ← h4, ← L]
  rfl

set_option maxHeartbeats 800000 in
theorem rightFields_any (y : Ac) (a_args : Option Addr) (c_args : Nat) (w : World) (hcl : y.cls.size ≤ maxLen) :
    Calls Tryz.prog 207 #[.agg #[.int .i64 y.kind, .int .i64 y.k, .string y.cls, .slice a_args y.args.length c_args]] w fun e w' =>
      e = .returned (.bool (fieldsOk y)) ∧ Below w.heap.size w w' := by
  have B1 : ∀ o, Below w.heap.size w (w.alloc o) := fun o => (Below.refl _ _).alloc (Nat.le_refl _) _
  cases he : y.cls.toList.isEmpty
  · by_cases k1 : y.kind = 1
    · cases hg : gCls y.cls
      all_goals
        go_enter Tryz.func207, Tryz.ntmps207
        go_wp2_with (go_at_call 204; refine (goodClass_any y.cls _ hcl).mono ?_; rintro e w' ⟨rfl, rfl⟩)
        go_ret
        exact ⟨ret_bool (fields_fin y true false false false _ (by simp [k1]) (by simp [k1]) (by simp [k1]) (by simp [k1]) (by simp [hg])), B1 _⟩
    by_cases k2 : y.kind = 2
    · go_enter Tryz.func207, Tryz.ntmps207
      go_wp2
      go_ret
      exact ⟨ret_bool (fields_fin y false true false false _ (by simp [k2]) (by simp [k2]) (by simp [k2]) (by simp [k2]) (by simp [he])), B1 _⟩
    by_cases k3 : y.kind = 3
    · go_enter Tryz.func207, Tryz.ntmps207
      go_wp2
      go_ret
      exact ⟨ret_bool (fields_fin y false false true false _ (by simp [k3]) (by simp [k3]) (by simp [k3]) (by simp [k3]) (by simp [he])), B1 _⟩
    by_cases k4 : y.kind = 4
    · go_enter Tryz.func207, Tryz.ntmps207
      go_wp2
      go_ret
      exact ⟨ret_bool (fields_fin y false false false true _ (by simp [k4]) (by simp [k4]) (by simp [k4]) (by simp [k4]) (by simp [he])), B1 _⟩
    · go_enter Tryz.func207, Tryz.ntmps207
      go_wp2
      go_ret
      exact ⟨ret_bool (fields_fin y false false false false _ (by simpa using k1) (by simpa using k2) (by simpa using k3) (by simpa using k4) rfl), B1 _⟩
  · have hb : (-1000000 ≤ y.k ∧ y.k ≤ 1000000) ∨ (¬ -1000000 ≤ y.k ∧ y.k ≤ 1000000) ∨ (-1000000 ≤ y.k ∧ ¬ y.k ≤ 1000000) := by omega
    rcases hb with ⟨b1, b2⟩ | ⟨b1, b2⟩ | ⟨b1, b2⟩
    all_goals
      by_cases k1 : y.kind = 1
      · cases hg : gCls y.cls
        all_goals
          go_enter Tryz.func207, Tryz.ntmps207
          go_wp2_with (go_at_call 204; refine (goodClass_any y.cls _ hcl).mono ?_; rintro e w' ⟨rfl, rfl⟩)
          go_ret
          exact ⟨ret_bool (fields_fin y true false false false _ (by simp [k1]) (by simp [k1]) (by simp [k1]) (by simp [k1]) (by simp [hg])), B1 _⟩
      by_cases k2 : y.kind = 2
      · go_enter Tryz.func207, Tryz.ntmps207
        go_wp2
        go_ret
        exact ⟨ret_bool (fields_fin y false true false false _ (by simp [k2]) (by simp [k2]) (by simp [k2]) (by simp [k2]) (by simp [he, b1, b2] <;> intros <;> omega)), B1 _⟩
      by_cases k3 : y.kind = 3
      · go_enter Tryz.func207, Tryz.ntmps207
        go_wp2
        go_ret
        exact ⟨ret_bool (fields_fin y false false true false _ (by simp [k3]) (by simp [k3]) (by simp [k3]) (by simp [k3]) (by simp [he, b1, b2] <;> intros <;> omega)), B1 _⟩
      by_cases k4 : y.kind = 4
      · by_cases z0 : y.k = 0
        · first
          | (exfalso; omega)
          | (go_enter Tryz.func207, Tryz.ntmps207
             go_wp2
             go_ret
             exact ⟨ret_bool (fields_fin y false false false true _ (by simp [k4]) (by simp [k4]) (by simp [k4]) (by simp [k4]) (by simp [he, z0])), (Below.refl _ _).alloc (Nat.le_refl _) _⟩)
        · go_enter Tryz.func207, Tryz.ntmps207
          go_wp2
          go_ret
          exact ⟨ret_bool (fields_fin y false false false true _ (by simp [k4]) (by simp [k4]) (by simp [k4]) (by simp [k4]) (by simp [he, z0])), (Below.refl _ _).alloc (Nat.le_refl _) _⟩
      · go_enter Tryz.func207, Tryz.ntmps207
        go_wp2
        go_ret
        exact ⟨ret_bool (fields_fin y false false false false _ (by simpa using k1) (by simpa using k2) (by simpa using k3) (by simpa using k4) rfl), B1 _⟩
end Go.Proofs.YtfgpcjdjbbhdmaaGreatDoor

namespace Go.Proofs.YtfgpcjdjbbhdmaaGreatDoor
open Go.RowKit
attribute [local go_sem ↓] Go.wp_at_zero Go.wp_at_succ

set_option maxHeartbeats 1600000 in
theorem actRight_any (y : Ac) (a_args : Option Addr) (c_args : Nat) (a_s : Option Addr) (c_s : Nat) (S : List Sp) (nx : Nat) {q q' : Option Nat} (w : World) (h_args : IntsAt q w a_args y.args) (hv : SpsAt q' w a_s S) (hl : S.length ≤ 60) (hcl : y.cls.size ≤ maxLen) (hal : y.args.length ≤ 1048576) (hnx : nx ≤ 60) :
    Calls Tryz.prog 175 #[.agg #[.int .i64 y.kind, .int .i64 y.k, .string y.cls, .slice a_args y.args.length c_args], .slice a_s S.length c_s, .int .i64 (nx : Int)] w fun e w' =>
      (∃ v : Int, e = .returned (.tuple #[.int .i64 v, .bool (gAc S y nx).isSome]) ∧ ∀ n, gAc S y nx = some n → v = (n : Int) ∧ n ≤ 60) ∧ Below w.heap.size w w' := by
  have B0 : ∀ o, Below w.heap.size w (w.alloc o) := fun o => (Below.refl _ _).alloc (Nat.le_refl _) _
  obtain ⟨G⟩ : Nonempty (Hid (gAc S y nx = if fieldsOk y && decide (y.args.length ≤ 6) then argsGo S y.args nx else none)) := ⟨rfl⟩
  cases hfo : fieldsOk y
  · have HN : Hid (gAc S y nx = none) := show gAc S y nx = none from by rw [G.out, hfo]; rfl
    go_enter Tryz.func175, Tryz.ntmps175
    go_wp2_with (go_at_call 207; refine (rightFields_any y a_args c_args _ hcl).mono ?_; rintro e w' ⟨rfl, hb'⟩)
    refine bodyPost_ret (v := .tuple #[.int .i64 (nx : Int), .bool false]) (by simp [results, Tryz.results175, go_sem]) rfl ⟨⟨nx, by rw [HN.out]; rfl, fun n h => (by rw [HN.out] at h; cases h)⟩, (B0 _).trans (hb'.mono (by simp))⟩
  by_cases hn : 6 < y.args.length
  · have hn' : (6 : Int) < (y.args.length : Int) := by omega
    have HN : Hid (gAc S y nx = none) := show gAc S y nx = none from by rw [G.out, hfo, decide_eq_false (by omega)]; rfl
    go_enter Tryz.func175, Tryz.ntmps175
    go_wp2_with (go_at_call 207; refine (rightFields_any y a_args c_args _ hcl).mono ?_; rintro e w' ⟨rfl, hb'⟩; have q3 : w'.cell? ⟨w.heap.size, 3, none⟩ = some (.slice a_args y.args.length c_args) := cell_below hb' (by simp [go_sem]))
    refine bodyPost_ret (v := .tuple #[.int .i64 (nx : Int), .bool false]) (by simp [results, Tryz.results175, go_sem]) rfl ⟨⟨nx, by rw [HN.out]; rfl, fun n h => (by rw [HN.out] at h; cases h)⟩, (B0 _).trans (hb'.mono (by simp))⟩
  · have hn' : ¬ (6 : Int) < (y.args.length : Int) := by omega
    have HG0 : Hid (gAc S y nx = argsGo S y.args nx) := show gAc S y nx = _ from by rw [G.out, hfo, decide_eq_true (by omega)]; rfl
    go_enter Tryz.func175, Tryz.ntmps175
    go_wp2_with (go_at_call 207; refine (rightFields_any y a_args c_args _ hcl).mono ?_; rintro e w' ⟨rfl, hb'⟩; have q3 : w'.cell? ⟨w.heap.size, 3, none⟩ = some (.slice a_args y.args.length c_args) := cell_below hb' (by simp [go_sem]))
    have hB : Below w.heap.size w w' := (B0 _).trans (hb'.mono (by simp))
    clear q3 hb'
    go_loopw [2, 23] (fun n i wr => ∃ (k nk : Nat), k ≤ y.args.length ∧ i = .int .i64 k ∧ n = .int .i64 (nk : Int) ∧ nk ≤ 60 ∧ argsGo S y.args nx = argsGo S (y.args.drop k) nk ∧ Below w.heap.size w wr) (fun _ i _ => y.args.length - (intOf i).toNat)
    case atStart => exact ⟨0, nx, by omega, rfl, rfl, hnx, rfl, hB⟩
    case round =>
      obtain ⟨k, nk, hk, rfl, rfl, hnk, hG, hb⟩ := hrel
      have HG : Hid (gAc S y nx = argsGo S (y.args.drop k) nk) := show gAc S y nx = _ from by rw [HG0.out, hG]
      clear hG
      by_cases hkl : k < y.args.length
      · obtain ⟨v, hvk⟩ : ∃ v, y.args[k]? = some v := ⟨y.args[k], by simp [hkl]⟩
        obtain ⟨b, o, rfl, hq, c0⟩ := (h_args.below hb).get hvk
        have HD : Hid (y.args.drop k = v :: y.args.drop (k + 1)) := drop_cons hvk
        by_cases v0 : v < 0
        · have HN : Hid (gAc S y nx = none) := show gAc S y nx = none from by
            rw [HG.out, HD.out, argsGo_cons, decide_eq_false (by omega)]
            rfl
          go_wp2
          refine bodyPost_ret (v := .tuple #[.int .i64 (nk : Int), .bool false]) (by simp [results, Tryz.results175, go_sem]) rfl ⟨⟨nk, by rw [HN.out]; rfl, fun n h => (by rw [HN.out] at h; cases h)⟩, hb⟩
        · by_cases v1 : (S.length : Int) ≤ v
          · have HN : Hid (gAc S y nx = none) := show gAc S y nx = none from by
              rw [HG.out, HD.out, argsGo_cons, decide_eq_false (p := v < (S.length : Int)) (by omega)]
              simp
            go_wp2
            refine bodyPost_ret (v := .tuple #[.int .i64 (nk : Int), .bool false]) (by simp [results, Tryz.results175, go_sem]) rfl ⟨⟨nk, by rw [HN.out]; rfl, fun n h => (by rw [HN.out] at h; cases h)⟩, hb⟩
          · obtain ⟨vn, rfl⟩ := Int.eq_ofNat_of_zero_le (show 0 ≤ v by omega)
            have hvn : vn < S.length := by omega
            obtain ⟨s, hs⟩ : ∃ s, S[vn]? = some s := ⟨S[vn], by simp⟩
            obtain ⟨b', o', rfl, hbw, d0, d1⟩ := (hv.below hb).get hs
            have z1 : ¬ S.length ≤ vn := by omega
            cases e3 : ((s.1 : Int) != (nk : Int))
            · have HN : Hid (gAc S y nx = argsGo S (y.args.drop (k + 1)) (vn + 1)) := show gAc S y nx = _ from by
                have : s.1 = nk := by (simp at e3; omega)
                rw [HG.out, HD.out, argsGo_cons, decide_eq_true (by omega), decide_eq_true (by omega), Int.toNat_natCast, hs, Option.getD_some, decide_eq_true this]
                rfl
              go_wp2
              go_roundw
              case rel =>
                exact ⟨k + 1, vn + 1, by omega, by go_num, by go_num, by omega, by rw [← HG0.out, HN.out], hb⟩
              case measure => simp [intOf]; omega
            · have HN : Hid (gAc S y nx = none) := show gAc S y nx = none from by
                have : ¬ s.1 = nk := by (simp at e3; omega)
                rw [HG.out, HD.out, argsGo_cons, Int.toNat_natCast, hs, Option.getD_some, decide_eq_false this]
                simp
              go_wp2
              refine bodyPost_ret (v := .tuple #[.int .i64 (nk : Int), .bool false]) (by simp [results, Tryz.results175, go_sem]) rfl ⟨⟨nk, by rw [HN.out]; rfl, fun n h => (by rw [HN.out] at h; cases h)⟩, hb⟩
      · have HN : Hid (gAc S y nx = some nk) := show gAc S y nx = _ from by
          rw [HG.out, List.drop_eq_nil_of_le (by omega)]
          rfl
        go_wp2
        refine bodyPost_ret (v := .tuple #[.int .i64 (nk : Int), .bool true]) (by simp [results, Tryz.results175, go_sem]) rfl ⟨⟨nk, by rw [HN.out]; rfl, fun n h => (by rw [HN.out] at h; injection h with h; subst h; exact ⟨rfl, hnk⟩)⟩, hb⟩
end Go.Proofs.YtfgpcjdjbbhdmaaGreatDoor
