/-
  OUR OWN TEXT. The model's numbers as texts: l1Dec, l2Val.
-/
import Derived.Test.YtfgpcjdjbbhdmaaGreatDoorXa
import Derived.Test.YtfgpcjdjbbhdmaaGreatDoorZg
import Derived.Test.YtfgpcjdjbbhdmaaGreatDoorZd
import Derived.Test.YtfgpcjdjbbhdmaaGreatDoorBxm
import Derived.Lib.ItoaMem
import Derived.Laws.BytesArg
namespace Go.Proofs.YtfgpcjdjbbhdmaaGreatDoor
open Go.RowKit
attribute [local go_sem ↓] Go.wp_at_zero Go.wp_at_succ

theorem hidX {p : Prop} (h : p) : Hid p := h
theorem run_convT (c : Int) (w : World) (b : Nat) (h : w.cell? ⟨b, 0, none⟩ = some (.int .u8 c)) : (convert 22 9 (.slice (some ⟨b, 0, none⟩) 1 1)).run Tryz.prog w = .ok (.string (mkS [UInt8.ofNat c.toNat])) w :=
  run_convert_bytes_arg (P := Tryz.prog) _ 22 5 Tryz.underlying22 Tryz.underlying5 b 0 1 1 [c] rfl (fun i hi => by
    obtain rfl : i = 0 := by omega
    simpa using h) 9 Tryz.underlying9

/-- What is still to be written of a number. -/
def decRest (m : Nat) (f : Bool) : Bs := if m = 0 ∧ f = false then [] else Lib.decDigits m
theorem decRest_step {m : Nat} {f : Bool} (h : 0 < m ∨ f = true) (acc : Bs) : decRest m f ++ acc = decRest (m / 10) false ++ (UInt8.ofNat (48 + m % 10) :: acc) := by
  have h0 : decRest m f = Lib.decDigits m := by
    unfold decRest
    rw [if_neg]
    rintro ⟨rfl, rfl⟩
    rcases h with h | h
    · omega
    · cases h
  rw [h0]
  by_cases hm : m < 10
  · have h1 : m / 10 = 0 := by omega
    have h2 : m % 10 = m := by omega
    rw [Lib.decDigits, dif_pos hm, h1, h2]
    rfl
  · have h1 : decRest (m / 10) false = Lib.decDigits (m / 10) := by
      unfold decRest
      rw [if_neg]
      rintro ⟨h, _⟩
      omega
    rw [Lib.decDigits, dif_neg hm, h1]
    simp
theorem decRest_done (acc : Bs) : decRest 0 false ++ acc = acc := rfl
theorem decRest_true (m : Nat) : decRest m true = Lib.decDigits m := by
  unfold decRest
  rw [if_neg]
  rintro ⟨_, h⟩
  cases h

theorem ret_txt {a b : Bs} (h : a = b) : Ending.returned (.string (mkS a)) = .returned (.string (mkS b)) := by rw [h]
theorem size_one (s : ByteArray) (acc : Bs) (h1 : s.size ≤ 100000000000) (h : acc.length ≤ 100000000000) : ¬ 9223372036854775807 < s.size + (mkS acc).size := by
  rw [mkS_size]
  omega
theorem size_two (x : UInt8) (acc : Bs) (h : acc.length ≤ 100000000000) : ¬ 9223372036854775807 < (mkS [x]).size + (mkS acc).size := by
  rw [mkS_size, mkS_size]
  simp only [List.length_cons, List.length_nil]
  omega
theorem decRest_short {m n : Nat} {f : Bool} {acc : Bs} (h : decRest m f ++ acc = Lib.decDigits n) (hn : n ≤ 9223372036854775808) : acc.length ≤ 100000000000 := by
  have h1 := congrArg List.length h
  rw [List.length_append, Lib.decDigits_length] at h1
  have h2 := Lib.nDigits_le20 n (by omega)
  omega
theorem byte_add (m : Nat) : (48 : UInt8) + UInt8.ofNat (m % 10) = UInt8.ofNat (48 + m % 10) := by
  rw [UInt8.ofNat_add]
  rfl

set_option maxHeartbeats 1600000 in
theorem l1Dec_pos (n : Nat) (w : World) (hn : n ≤ 9223372036854775807) : Calls Tryz.prog 41 #[.int .i64 (n : Int)] w fun e w' => e = .returned (.string (mkS (Lib.decDigits n))) ∧ Below w.heap.size w w' := by
  have hk0 : ¬ (n : Int) < 0 := by omega
  have HC := hidX run_convT
  go_enter Tryz.func41, Tryz.ntmps41
  go_wp2
  go_loopw [0, 4, 5] (fun nv sv fv wr => ∃ (m : Nat) (acc : Bs) (f : Bool), m ≤ n ∧ nv = .int .i64 (m : Int) ∧ sv = .string (mkS acc) ∧ fv = .bool f ∧ decRest m f ++ acc = Lib.decDigits n ∧ Below w.heap.size w wr) (fun nv _ fv _ => (intOf nv).toNat * 2 + (match fv with | .bool true => 1 | _ => 0))
  case atStart => exact ⟨n, [], true, Nat.le_refl _, rfl, rfl, rfl, by rw [decRest_true, List.append_nil], Below.refl _ _⟩
  case round =>
    obtain ⟨m, acc, f, hm, rfl, rfl, rfl, hd, hb⟩ := hrel
    have HD := hidX hd
    have hs2 : ∀ x : UInt8, ¬ 9223372036854775807 < (mkS [x]).size + (mkS acc).size := fun x => size_two x acc (decRest_short hd (by omega))
    clear hd
    have hcv := HC.out
    have hA : ∀ o, Below w.heap.size w (wr.alloc o) := fun o => hb.alloc hb.size _
    cases f
    · by_cases h0 : 0 < m
      · have h0' : (0 : Int) < (m : Int) := by omega
        go_wp2
        refine ⟨⟨m / 10, UInt8.ofNat (48 + m % 10) :: acc, false, by omega, by go_num, by rw [mkS_app, byte_add]; rfl, rfl, by rw [← decRest_step (.inl h0)]; exact HD.out, hA _⟩, ?_⟩
        simp [intOf]
        omega
      · have h0' : ¬ (0 : Int) < (m : Int) := by omega
        obtain rfl : m = 0 := by omega
        go_wp2
        go_ret
        exact ⟨ret_txt (by rw [← HD.out, decRest_done]), hb⟩
    · go_wp2
      refine ⟨⟨m / 10, UInt8.ofNat (48 + m % 10) :: acc, false, by omega, by go_num, by rw [mkS_app, byte_add]; rfl, rfl, by rw [← decRest_step (.inr rfl)]; exact HD.out, hA _⟩, ?_⟩
      simp [intOf]
      omega

set_option maxHeartbeats 1600000 in
theorem l1Dec_neg (n : Nat) (w : World) (h1 : 1 ≤ n) (hn : n ≤ 9223372036854775808) : Calls Tryz.prog 41 #[.int .i64 (-(n : Int))] w fun e w' => e = .returned (.string (mkS (45 :: Lib.decDigits n))) ∧ Below w.heap.size w w' := by
  have hk0 : -(n : Int) < 0 := by omega
  have HC := hidX run_convT
  go_enter Tryz.func41, Tryz.ntmps41
  go_wp2
  go_loopw [0, 3] (fun nv sv wr => ∃ (m : Nat) (acc : Bs), m ≤ n ∧ nv = .int .i64 (-(m : Int)) ∧ sv = .string (mkS acc) ∧ decRest m false ++ acc = Lib.decDigits n ∧ Below w.heap.size w wr) (fun nv _ _ => (-(intOf nv)).toNat)
  case atStart => exact ⟨n, [], Nat.le_refl _, rfl, rfl, by rw [List.append_nil]; unfold decRest; rw [if_neg (by omega)], Below.refl _ _⟩
  case round =>
    obtain ⟨m, acc, hm, rfl, rfl, hd, hb⟩ := hrel
    have HD := hidX hd
    have hs2 : ∀ x : UInt8, ¬ 9223372036854775807 < (mkS [x]).size + (mkS acc).size := fun x => size_two x acc (decRest_short hd (by omega))
    have hs3 : ¬ 9223372036854775807 < ({ data := #[45] } : ByteArray).size + (mkS acc).size := size_one _ acc (by decide) (decRest_short hd (by omega))
    clear hd
    have hcv := HC.out
    have hA : ∀ o, Below w.heap.size w (wr.alloc o) := fun o => hb.alloc hb.size _
    by_cases h0 : 0 < m
    · have h0' : -(m : Int) < 0 := by omega
      go_wp2
      refine ⟨⟨m / 10, UInt8.ofNat (48 + m % 10) :: acc, by omega, by go_num, by rw [mkS_app, byte_add]; rfl, by rw [← decRest_step (.inl h0)]; exact HD.out, hA _⟩, ?_⟩
      simp [intOf]
      omega
    · have h0' : ¬ -(m : Int) < 0 := by omega
      obtain rfl : m = 0 := by omega
      go_wp2
      go_ret
      refine ⟨?_, hb⟩
      rw [← HD.out, decRest_done]
      exact congrArg (fun x => Ending.returned (.string x)) (mkS_app [45] acc)

theorem l1Dec_num (n : Int) (w : World) (hn : numOk n) : Calls Tryz.prog 41 #[.int .i64 n] w fun e w' => e = .returned (.string (mkS (Lib.itoa n))) ∧ Below w.heap.size w w' := by
  obtain ⟨h0, h1⟩ := hn
  by_cases h : n < 0
  · obtain ⟨u, rfl⟩ : ∃ u : Nat, n = -(u : Int) := ⟨n.natAbs, by omega⟩
    rw [Lib.itoa_neg u (by omega)]
    exact l1Dec_neg u w (by omega) (by omega)
  · obtain ⟨u, rfl⟩ : ∃ u : Nat, n = (u : Int) := ⟨n.natAbs, by omega⟩
    rw [Lib.itoa_nonneg u]
    exact l1Dec_pos u w (by omega)

set_option maxHeartbeats 800000 in
theorem l2Val_txt (v : V) (w : World) (hn : numOk v.num) : Calls Tryz.prog 84 #[.agg #[.int .i64 v.kind, .int .i64 v.num, .string v.sym]] w fun e w' => e = .returned (.string (mkS (txV v))) ∧ Below w.heap.size w w' := by
  have hA : ∀ o, Below w.heap.size w (w.alloc o) := fun o => (Below.refl _ _).alloc (Nat.le_refl _) _
  by_cases hk : v.kind = 1
  · have HX : Hid (v.sym = mkS (txV v)) := show v.sym = mkS (txV v) from by unfold txV; rw [if_pos hk, mkS_bs]
    go_enter Tryz.func84, Tryz.ntmps84
    go_wp2
    go_ret
    refine ⟨?_, hA _⟩
    rw [← HX.out]
    rfl
  · have HX : Hid (Lib.itoa v.num = txV v) := show Lib.itoa v.num = txV v from by unfold txV; rw [if_neg hk]
    go_enter Tryz.func84, Tryz.ntmps84
    go_wp2_with (go_at_call 41; refine (l1Dec_num v.num _ hn).mono ?_; rintro e w1 ⟨rfl, hb1⟩)
    go_ret
    refine ⟨ret_txt HX.out, (hA _).trans (hb1.mono (hA _).size)⟩
end Go.Proofs.YtfgpcjdjbbhdmaaGreatDoor
