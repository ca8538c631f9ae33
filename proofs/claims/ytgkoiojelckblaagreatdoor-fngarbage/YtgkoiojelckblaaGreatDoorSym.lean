/-
  OUR OWN TEXT. Good symbols: the program's and the model's, each by its contract.
-/
import Derived.Test.YtgkoiojelckblaaGreatDoorRows
import Derived.Test.YtgkoiojelckblaaGreatDoorPlain
import Derived.WalkKit
import Derived.WalkSpells
import Derived.WalkLawsBesides
namespace Go.Proofs.YtgkoiojelckblaaGreatDoor
open Go.RowKit

set_option maxHeartbeats 400000 in
theorem isLetter_any (c : Int) (w : World) :
    Calls Tryz.prog 163 #[.int .u8 c] w fun e w' => e = .returned (.bool (isL c)) ∧ w' = w := by
  go_enter Tryz.func163, Tryz.ntmps163
  go_wp2
  all_goals (go_ret; exact ⟨by simp [isL]; omega, rfl⟩)

set_option maxHeartbeats 400000 in
theorem isDigit_any (c : Int) (w : World) :
    Calls Tryz.prog 164 #[.int .u8 c] w fun e w' => e = .returned (.bool (isD c)) ∧ w' = w := by
  go_enter Tryz.func164, Tryz.ntmps164
  go_wp2
  all_goals (go_ret; exact ⟨by simp [isD]; omega, rfl⟩)

theorem size_data (s : ByteArray) : s.data.toList.length = s.size := by
  obtain ⟨⟨l⟩⟩ := s
  rfl
theorem head_get (s : ByteArray) (h : 0 < s.size) : s.data.toList.headD 0 = s[0] := by
  obtain ⟨⟨l⟩⟩ := s
  cases l with
  | nil => exact absurd h (Nat.lt_irrefl 0)
  | cons a l => rfl
theorem byte_at (s : ByteArray) (k : Nat) (h : k < s.size) : s.data.toList[k]'(by rw [size_data]; exact h) = s[k] := by
  obtain ⟨⟨l⟩⟩ := s
  rfl

theorem gSym_bad' {s : ByteArray} {k : Nat} (hk : k < s.size) (h : isC (s[k].toNat : Int) = false) : gSym s.data.toList = false :=
  gSym_bad (k := k) (by rw [size_data]; exact hk) (by rw [byte_at s k hk]; exact h)
theorem all_take_succ' {s : ByteArray} {k : Nat} (hk : k < s.size) (h : (s.data.toList.take k).all byteC = true) (hc : isC (s[k].toNat : Int) = true) : (s.data.toList.take (k + 1)).all byteC = true :=
  all_take_succ (by rw [size_data]; exact hk) h (by rw [byte_at s k hk]; exact hc)
theorem gSym_good' {s : ByteArray} {k : Nat} (h1 : 0 < s.size) (h2 : s.size ≤ 20) (h3 : isL (s[0].toNat : Int) = true) (hk : s.size ≤ k) (h4 : (s.data.toList.take k).all byteC = true) : gSym s.data.toList = true := by
  refine gSym_good (by rw [size_data]; omega) (by rw [size_data]; omega) (by rw [head_get s h1]; exact h3) ?_
  rwa [List.take_of_length_le (by rw [size_data]; omega)] at h4
theorem isC_eq (c : Int) : isC c = (isL c || isD c || !(c != 45)) := by
  unfold isC
  congr 1
  by_cases h : c = 45 <;> simp [h]
theorem isC_in {c : Int} (h : (97 ≤ c ∧ c ≤ 122) ∨ (48 ≤ c ∧ c ≤ 57) ∨ (44 < c ∧ c < 46)) : isC c = true := by
  simp [isC, isL, isD]; omega
theorem isC_out {c : Int} (h : ¬ ((97 ≤ c ∧ c ≤ 122) ∨ (48 ≤ c ∧ c ≤ 57) ∨ (44 < c ∧ c < 46))) : isC c = false := by
  simp [isC, isL, isD]; omega
theorem ret_bool {a b : Bool} (h : a = b) : Ending.returned (.bool a) = .returned (.bool b) := by rw [h]

set_option maxHeartbeats 800000 in
theorem goodSymbol_any (s : ByteArray) (w : World) (hs : s.size ≤ maxLen) :
    Calls Tryz.prog 112 #[.string s] w fun e w' => e = .returned (.bool (gSym s.data.toList)) ∧ w' = w := by
  unfold maxLen at hs
  by_cases h0 : s.size < 1
  · have G : Hid (gSym s.data.toList = false) := gSym_short (s := s.data.toList) (by rw [size_data]; omega)
    have t1 : (s.size : Int) < 1 := by omega
    go_enter Tryz.func112, Tryz.ntmps112
    go_wp2
    go_ret
    exact ⟨ret_bool G.out.symm, rfl⟩
  · by_cases h1 : 20 < s.size
    · have G : Hid (gSym s.data.toList = false) := gSym_long (s := s.data.toList) (by rw [size_data]; omega)
      have t1 : (20 : Int) < s.size := by omega
      go_enter Tryz.func112, Tryz.ntmps112
      go_wp2
      go_ret
      exact ⟨ret_bool G.out.symm, rfl⟩
    · have hp : 0 < s.size := by omega
      have d1 : decide ((s.size : Int) < 1) = false := by simp; omega
      have d2 : decide ((20 : Int) < s.size) = false := by simp; omega
      by_cases h2 : isL (s[0].toNat : Int) = true
      · have H2 : Hid (isL (s[0].toNat : Int) = true) := h2
        go_enter Tryz.func112, Tryz.ntmps112
        go_wp2_with (go_at_call 163; refine (isLetter_any _ _).mono ?_; rintro e w' ⟨rfl, rfl⟩)
        clear h2
        go_loop [3] (fun i => ∃ k : Nat, 1 ≤ k ∧ k ≤ s.size ∧ i = .int .i64 k ∧ (s.data.toList.take k).all byteC = true) (fun i => s.size - (intOf i).toNat)
        case atStart => exact ⟨1, by omega, by omega, rfl, all_take_succ' (k := 0) hp (by simp) (isC_of_isL H2.out)⟩
        case round =>
          obtain ⟨k, hk1, hk, rfl, hall⟩ := hrel
          have HA : Hid ((s.data.toList.take k).all byteC = true) := hall
          clear hall
          by_cases hlt : k < s.size
          · obtain ⟨hC⟩ : Nonempty (Hid (isC (s[k].toNat : Int) = (isL (s[k].toNat : Int) || isD (s[k].toNat : Int) || !((s[k].toNat : Int) != 45)))) := ⟨isC_eq _⟩
            cases hL : isL (s[k].toNat : Int) <;> cases hD : isD (s[k].toNat : Int) <;> cases hM : ((s[k].toNat : Int) != 45)
            all_goals
              go_wp2_with (first | (go_at_call 163; refine (isLetter_any _ _).mono ?_; rintro e w' ⟨rfl, rfl⟩) | (go_at_call 164; refine (isDigit_any _ _).mono ?_; rintro e w' ⟨rfl, rfl⟩))
              first
              | (go_round
                 case rel => exact ⟨k + 1, by omega, by omega, by go_num, all_take_succ' hlt HA.out (by rw [hC.out, hL, hD, hM]; rfl)⟩
                 case measure => simp [intOf]; omega)
              | (go_ret
                 exact ⟨ret_bool (gSym_bad' hlt (by rw [hC.out, hL, hD, hM]; rfl)).symm, rfl⟩)
          · go_wp2
            go_ret
            exact ⟨ret_bool (gSym_good' hp (by omega) H2.out (by omega) HA.out).symm, rfl⟩
      · have h2' : isL (s[0].toNat : Int) = false := by simpa using h2
        have G : Hid (gSym s.data.toList = false) := gSym_head (by rw [head_get s hp]; exact h2')
        clear h2
        go_enter Tryz.func112, Tryz.ntmps112
        go_wp2_with (go_at_call 163; refine (isLetter_any _ _).mono ?_; rintro e w' ⟨rfl, rfl⟩)
        go_ret
        exact ⟨ret_bool G.out.symm, rfl⟩

set_option maxHeartbeats 800000 in
theorem l1GoodSym_any (s : ByteArray) (w : World) (hs : s.size ≤ maxLen) :
    Calls Tryz.prog 94 #[.string s] w fun e w' => e = .returned (.bool (gSym s.data.toList)) ∧ w' = w := by
  unfold maxLen at hs
  by_cases h0 : s.size < 1
  · have G : Hid (gSym s.data.toList = false) := gSym_short (s := s.data.toList) (by rw [size_data]; omega)
    have t1 : (s.size : Int) < 1 := by omega
    go_enter Tryz.func94, Tryz.ntmps94
    go_wp2
    go_ret
    exact ⟨ret_bool G.out.symm, rfl⟩
  · by_cases h1 : 20 < s.size
    · have G : Hid (gSym s.data.toList = false) := gSym_long (s := s.data.toList) (by rw [size_data]; omega)
      have t1 : (20 : Int) < s.size := by omega
      go_enter Tryz.func94, Tryz.ntmps94
      go_wp2
      go_ret
      exact ⟨ret_bool G.out.symm, rfl⟩
    · have hp : 0 < s.size := by omega
      have d1 : decide ((s.size : Int) < 1) = false := by simp; omega
      have d2 : decide ((20 : Int) < s.size) = false := by simp; omega
      by_cases h2 : isL (s[0].toNat : Int) = true
      · have H2 : Hid (isL (s[0].toNat : Int) = true) := h2
        simp only [isL, Bool.and_eq_true, decide_eq_true_eq] at h2
        obtain ⟨h2a, h2b⟩ := h2
        have d3 : decide ((s[0].toNat : Int) < 97) = false := by simp; omega
        have d4 : decide ((122 : Int) < (s[0].toNat : Int)) = false := by simp; omega
        go_enter Tryz.func94, Tryz.ntmps94
        go_wp2
        clear h2a h2b d3 d4
        go_loop [3] (fun i => ∃ k : Nat, k ≤ s.size ∧ i = .int .i64 k ∧ (s.data.toList.take k).all byteC = true) (fun i => s.size - (intOf i).toNat)
        case atStart => exact ⟨0, by omega, rfl, by simp⟩
        case round =>
          obtain ⟨k, hk, rfl, hall⟩ := hrel
          have HA : Hid ((s.data.toList.take k).all byteC = true) := hall
          clear hall
          by_cases hlt : k < s.size
          · rcases (show (s[k].toNat : Int) < 45 ∨ (44 < (s[k].toNat : Int) ∧ (s[k].toNat : Int) < 46) ∨ (45 < (s[k].toNat : Int) ∧ (s[k].toNat : Int) < 48) ∨ (48 ≤ (s[k].toNat : Int) ∧ (s[k].toNat : Int) ≤ 57) ∨ (57 < (s[k].toNat : Int) ∧ (s[k].toNat : Int) < 97) ∨ (97 ≤ (s[k].toNat : Int) ∧ (s[k].toNat : Int) ≤ 122) ∨ 122 < (s[k].toNat : Int) from by omega) with hr | ⟨hr, hr'⟩ | ⟨hr, hr'⟩ | ⟨hr, hr'⟩ | ⟨hr, hr'⟩ | ⟨hr, hr'⟩ | hr
            all_goals
              first
              | have he : ((s[k].toNat : Int) == 45) = false := (by simp; omega)
              | have he : ((s[k].toNat : Int) == 45) = true := (by simp; omega)
              first
              | have hf : decide ((s[k].toNat : Int) ≤ 57) = false := (by simp; omega)
              | have hf : decide ((s[k].toNat : Int) ≤ 57) = true := (by simp; omega)
              first
              | have hg : decide ((s[k].toNat : Int) ≤ 122) = false := (by simp; omega)
              | have hg : decide ((s[k].toNat : Int) ≤ 122) = true := (by simp; omega)
              go_wp2
              first
              | (go_round
                 case rel => exact ⟨k + 1, by omega, by go_num, all_take_succ' hlt HA.out (isC_in (by omega))⟩
                 case measure => simp [intOf]; omega)
              | (go_ret
                 exact ⟨ret_bool (gSym_bad' hlt (isC_out (by omega))).symm, rfl⟩)
          · go_wp2
            go_ret
            exact ⟨ret_bool (gSym_good' hp (by omega) H2.out (by omega) HA.out).symm, rfl⟩
      · have h2' : isL (s[0].toNat : Int) = false := by simpa using h2
        have G : Hid (gSym s.data.toList = false) := gSym_head (by rw [head_get s hp]; exact h2')
        clear h2
        have h3 : (s[0].toNat : Int) < 97 ∨ (97 ≤ (s[0].toNat : Int) ∧ 122 < (s[0].toNat : Int)) := by
          simp only [isL, Bool.and_eq_false_iff, decide_eq_false_iff_not] at h2'
          omega
        rcases h3 with h3 | ⟨h3, h4⟩
        all_goals
          clear h2'
          go_enter Tryz.func94, Tryz.ntmps94
          go_wp2
          go_ret
          exact ⟨ret_bool G.out.symm, rfl⟩
end Go.Proofs.YtgkoiojelckblaaGreatDoor
