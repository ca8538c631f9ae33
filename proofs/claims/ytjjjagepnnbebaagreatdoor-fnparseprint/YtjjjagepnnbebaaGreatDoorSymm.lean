/-
  OUR OWN TEXT. Good symbols: the program's and the model's, each by its contract.
-/
import Derived.Test.YtjjjagepnnbebaaGreatDoorRows
import Derived.Test.YtjjjagepnnbebaaGreatDoorPlain
import Derived.WalkKit
import Derived.WalkSpells
import Derived.WalkLawsBesides
namespace Go.Proofs.YtjjjagepnnbebaaGreatDoor
open Go.RowKit

set_option maxHeartbeats 400000 in
theorem isLetter_any (c : Int) (w : World) :
    Calls Tryz.prog 139 #[.int .u8 c] w fun e w' => e = .returned (.bool (isL c)) ∧ w' = w := by
  go_enter Tryz.func139, Tryz.ntmps139
  go_wp2
  all_goals (go_ret; exact ⟨by simp [isL]; omega, rfl⟩)

set_option maxHeartbeats 400000 in
theorem isDigit_any (c : Int) (w : World) :
    Calls Tryz.prog 140 #[.int .u8 c] w fun e w' => e = .returned (.bool (isD c)) ∧ w' = w := by
  go_enter Tryz.func140, Tryz.ntmps140
  go_wp2
  all_goals (go_ret; exact ⟨by simp [isD]; omega, rfl⟩)

theorem size_data (s : ByteArray) : s.data.toList.length = s.size := by
  obtain ⟨⟨l⟩⟩ := s
  rfl
theorem head_get (s : ByteArray) (h : 0 < s.size) : s.data.toList.headD 0 = s[0] := by
  obtain ⟨⟨l⟩⟩ := s
  cases l with
  | nil => exact absurd h (Nat.lt_irrefl 0)
  | cons a l => rfl
theorem byte_at (s : ByteArray) (k : Nat) (h : k < s.size) : s.data.toList[k]'(by rw [size_data]; exact h) = s[k] := by
  obtain ⟨⟨l⟩⟩ := s
  rfl

theorem gSym_bad' {s : ByteArray} {k : Nat} (hk : k < s.size) (h : isC (s[k].toNat : Int) = false) : gSym s.data.toList = false :=
  gSym_bad (k := k) (by rw [size_data]; exact hk) (by rw [byte_at s k hk]; exact h)
theorem all_take_succ' {s : ByteArray} {k : Nat} (hk : k < s.size) (h : (s.data.toList.take k).all byteC = true) (hc : isC (s[k].toNat : Int) = true) : (s.data.toList.take (k + 1)).all byteC = true :=
  all_take_succ (by rw [size_data]; exact hk) h (by rw [byte_at s k hk]; exact hc)
theorem gSym_good' {s : ByteArray} {k : Nat} (h1 : 0 < s.size) (h2 : s.size ≤ 20) (h3 : isL (s[0].toNat : Int) = true) (hk : s.size ≤ k) (h4 : (s.data.toList.take k).all byteC = true) : gSym s.data.toList = true := by
  refine gSym_good (by rw [size_data]; omega) (by rw [size_data]; omega) (by rw [head_get s h1]; exact h3) ?_
  rwa [List.take_of_length_le (by rw [size_data]; omega)] at h4
theorem isC_eq (c : Int) : isC c = (isL c || isD c || !(c != 45)) := by
  unfold isC
  congr 1
  by_cases h : c = 45 <;> simp [h]
theorem ret_bool {a b : Bool} (h : a = b) : Ending.returned (.bool a) = .returned (.bool b) := by rw [h]

set_option maxHeartbeats 800000 in
theorem goodSymbol_any (s : ByteArray) (w : World) (hs : s.size ≤ maxLen) :
    Calls Tryz.prog 96 #[.string s] w fun e w' => e = .returned (.bool (gSym s.data.toList)) ∧ w' = w := by
  unfold maxLen at hs
  by_cases h0 : s.size < 1
  · have G : Hid (gSym s.data.toList = false) := gSym_short (s := s.data.toList) (by rw [size_data]; omega)
    have t1 : (s.size : Int) < 1 := by omega
    go_enter Tryz.func96, Tryz.ntmps96
    go_wp2
    go_ret
    exact ⟨ret_bool G.out.symm, rfl⟩
  · by_cases h1 : 20 < s.size
    · have G : Hid (gSym s.data.toList = false) := gSym_long (s := s.data.toList) (by rw [size_data]; omega)
      have t1 : (20 : Int) < s.size := by omega
      go_enter Tryz.func96, Tryz.ntmps96
      go_wp2
      go_ret
      exact ⟨ret_bool G.out.symm, rfl⟩
    · have hp : 0 < s.size := by omega
      have d1 : decide ((s.size : Int) < 1) = false := by simp; omega
      have d2 : decide ((20 : Int) < s.size) = false := by simp; omega
      by_cases h2 : isL (s[0].toNat : Int) = true
      · have H2 : Hid (isL (s[0].toNat : Int) = true) := h2
        go_enter Tryz.func96, Tryz.ntmps96
        go_wp2_with (go_at_call 139; refine (isLetter_any _ _).mono ?_; rintro e w' ⟨rfl, rfl⟩)
        clear h2
        go_loop [3] (fun i => ∃ k : Nat, 1 ≤ k ∧ k ≤ s.size ∧ i = .int .i64 k ∧ (s.data.toList.take k).all byteC = true) (fun i => s.size - (intOf i).toNat)
        case atStart => exact ⟨1, by omega, by omega, rfl, all_take_succ' (k := 0) hp (by simp) (isC_of_isL H2.out)⟩
        case round =>
          obtain ⟨k, hk1, hk, rfl, hall⟩ := hrel
          have HA : Hid ((s.data.toList.take k).all byteC = true) := hall
          clear hall
          by_cases hlt : k < s.size
          · obtain ⟨hC⟩ : Nonempty (Hid (isC (s[k].toNat : Int) = (isL (s[k].toNat : Int) || isD (s[k].toNat : Int) || !((s[k].toNat : Int) != 45)))) := ⟨isC_eq _⟩
            cases hL : isL (s[k].toNat : Int) <;> cases hD : isD (s[k].toNat : Int) <;> cases hM : ((s[k].toNat : Int) != 45)
            all_goals
              go_wp2_with (first | (go_at_call 139; refine (isLetter_any _ _).mono ?_; rintro e w' ⟨rfl, rfl⟩) | (go_at_call 140; refine (isDigit_any _ _).mono ?_; rintro e w' ⟨rfl, rfl⟩))
              first
              | (go_round
                 case rel => exact ⟨k + 1, by omega, by omega, by go_num, all_take_succ' hlt HA.out (by rw [hC.out, hL, hD, hM]; rfl)⟩
                 case measure => simp [intOf]; omega)
              | (go_ret
                 exact ⟨ret_bool (gSym_bad' hlt (by rw [hC.out, hL, hD, hM]; rfl)).symm, rfl⟩)
          · go_wp2
            go_ret
            exact ⟨ret_bool (gSym_good' hp (by omega) H2.out (by omega) HA.out).symm, rfl⟩
      · have h2' : isL (s[0].toNat : Int) = false := by simpa using h2
        have G : Hid (gSym s.data.toList = false) := gSym_head (by rw [head_get s hp]; exact h2')
        clear h2
        go_enter Tryz.func96, Tryz.ntmps96
        go_wp2_with (go_at_call 139; refine (isLetter_any _ _).mono ?_; rintro e w' ⟨rfl, rfl⟩)
        go_ret
        exact ⟨ret_bool G.out.symm, rfl⟩

end Go.Proofs.YtjjjagepnnbebaaGreatDoor
