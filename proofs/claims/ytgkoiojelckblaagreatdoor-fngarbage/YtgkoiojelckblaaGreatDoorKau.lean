/-
  OUR OWN TEXT. Tx3, Tx12, Sx1, Sx2, Tx2, Tx4, one behind the other.
-/
import Derived.Test.YtgkoiojelckblaaGreatDoorTx1m
import Derived.Test.YtgkoiojelckblaaGreatDoorKag
import Derived.Test.YtgkoiojelckblaaGreatDoorKah
import Derived.Lib.ItoaMem
import Derived.Laws.BytesArg
import Derived.Test.YtgkoiojelckblaaGreatDoorMo0m
import Derived.Lib.ParseIntB
import Derived.Deep.DeepCutAuto
import Derived.Test.YtgkoiojelckblaaGreatDoorMs1m
import Derived.Test.YtgkoiojelckblaaGreatDoorHwm
namespace Go.Proofs.YtgkoiojelckblaaGreatDoor
open Go.RowKit
attribute [local go_sem ↓] Go.wp_at_zero Go.wp_at_succ

theorem hidX {p : Prop} (h : p) : Hid p := h
theorem run_convT (c : Int) (w : World) (b : Nat) (h : w.cell? ⟨b, 0, none⟩ = some (.int .u8 c)) : (convert 22 9 (.slice (some ⟨b, 0, none⟩) 1 1)).run Tryz.prog w = .ok (.string (mkS [UInt8.ofNat c.toNat])) w :=
  run_convert_bytes_arg (P := Tryz.prog) _ 22 5 Tryz.underlying22 Tryz.underlying5 b 0 1 1 [c] rfl (fun i hi => by
    obtain rfl : i = 0 := by omega
    simpa using h) 9 Tryz.underlying9

/-- What is still to be written of a number. -/
def decRest (m : Nat) (f : Bool) : Bs := if m = 0 ∧ f = false then [] else Lib.decDigits m
theorem decRest_step {m : Nat} {f : Bool} (h : 0 < m ∨ f = true) (acc : Bs) : decRest m f ++ acc = decRest (m / 10) false ++ (UInt8.ofNat (48 + m % 10) :: acc) := by
  have h0 : decRest m f = Lib.decDigits m := by
    unfold decRest
    rw [if_neg]
    rintro ⟨rfl, rfl⟩
    rcases h with h | h
    · omega
    · cases h
  rw [h0]
  by_cases hm : m < 10
  · have h1 : m / 10 = 0 := by omega
    have h2 : m % 10 = m := by omega
    rw [Lib.decDigits, dif_pos hm, h1, h2]
    rfl
  · have h1 : decRest (m / 10) false = Lib.decDigits (m / 10) := by
      unfold decRest
      rw [if_neg]
      rintro ⟨h, _⟩
      omega
    rw [Lib.decDigits, dif_neg hm, h1]
    simp
theorem decRest_done (acc : Bs) : decRest 0 false ++ acc = acc := rfl
theorem decRest_true (m : Nat) : decRest m true = Lib.decDigits m := by
  unfold decRest
  rw [if_neg]
  rintro ⟨_, h⟩
  cases h

theorem ret_txt {a b : Bs} (h : a = b) : Ending.returned (.string (mkS a)) = .returned (.string (mkS b)) := by rw [h]
theorem size_one (s : ByteArray) (acc : Bs) (h1 : s.size ≤ 100000000000) (h : acc.length ≤ 100000000000) : ¬ 9223372036854775807 < s.size + (mkS acc).size := by
  rw [mkS_size]
  omega
theorem size_two (x : UInt8) (acc : Bs) (h : acc.length ≤ 100000000000) : ¬ 9223372036854775807 < (mkS [x]).size + (mkS acc).size := by
  rw [mkS_size, mkS_size]
  simp only [List.length_cons, List.length_nil]
  omega
theorem decRest_short {m n : Nat} {f : Bool} {acc : Bs} (h : decRest m f ++ acc = Lib.decDigits n) (hn : n ≤ 9223372036854775808) : acc.length ≤ 100000000000 := by
  have h1 := congrArg List.length h
  rw [List.length_append, Lib.decDigits_length] at h1
  have h2 := Lib.nDigits_le20 n (by omega)
  omega
theorem byte_add (m : Nat) : (48 : UInt8) + UInt8.ofNat (m % 10) = UInt8.ofNat (48 + m % 10) := by
  rw [UInt8.ofNat_add]
  rfl

set_option maxHeartbeats 1600000 in
theorem l1Dec_pos (n : Nat) (w : World) (hn : n ≤ 9223372036854775807) : Calls Tryz.prog 10 #[.int .i64 (n : Int)] w fun e w' => e = .returned (.string (mkS (Lib.decDigits n))) ∧ Below w.heap.size w w' := by
  have hk0 : ¬ (n : Int) < 0 := by omega
  have HC := hidX run_convT
  go_enter Tryz.func10, Tryz.ntmps10
  go_wp2
  go_loopw [0, 4, 5] (fun nv sv fv wr => ∃ (m : Nat) (acc : Bs) (f : Bool), m ≤ n ∧ nv = .int .i64 (m : Int) ∧ sv = .string (mkS acc) ∧ fv = .bool f ∧ decRest m f ++ acc = Lib.decDigits n ∧ Below w.heap.size w wr) (fun nv _ fv _ => (intOf nv).toNat * 2 + (match fv with | .bool true => 1 | _ => 0))
  case atStart => exact ⟨n, [], true, Nat.le_refl _, rfl, rfl, rfl, by rw [decRest_true, List.append_nil], Below.refl _ _⟩
  case round =>
    obtain ⟨m, acc, f, hm, rfl, rfl, rfl, hd, hb⟩ := hrel
    have HD := hidX hd
    have hs2 : ∀ x : UInt8, ¬ 9223372036854775807 < (mkS [x]).size + (mkS acc).size := fun x => size_two x acc (decRest_short hd (by omega))
    clear hd
    have hcv := HC.out
    have hA : ∀ o, Below w.heap.size w (wr.alloc o) := fun o => hb.alloc hb.size _
    cases f
    · by_cases h0 : 0 < m
      · have h0' : (0 : Int) < (m : Int) := by omega
        go_wp2
        refine ⟨⟨m / 10, UInt8.ofNat (48 + m % 10) :: acc, false, by omega, by go_num, by rw [mkS_app, byte_add]; rfl, rfl, by rw [← decRest_step (.inl h0)]; exact HD.out, hA _⟩, ?_⟩
        simp [intOf]
        omega
      · have h0' : ¬ (0 : Int) < (m : Int) := by omega
        obtain rfl : m = 0 := by omega
        go_wp2
        go_ret
        exact ⟨ret_txt (by rw [← HD.out, decRest_done]), hb⟩
    · go_wp2
      refine ⟨⟨m / 10, UInt8.ofNat (48 + m % 10) :: acc, false, by omega, by go_num, by rw [mkS_app, byte_add]; rfl, rfl, by rw [← decRest_step (.inr rfl)]; exact HD.out, hA _⟩, ?_⟩
      simp [intOf]
      omega

set_option maxHeartbeats 1600000 in
theorem l1Dec_neg (n : Nat) (w : World) (h1 : 1 ≤ n) (hn : n ≤ 9223372036854775808) : Calls Tryz.prog 10 #[.int .i64 (-(n : Int))] w fun e w' => e = .returned (.string (mkS (45 :: Lib.decDigits n))) ∧ Below w.heap.size w w' := by
  have hk0 : -(n : Int) < 0 := by omega
  have HC := hidX run_convT
  go_enter Tryz.func10, Tryz.ntmps10
  go_wp2
  go_loopw [0, 3] (fun nv sv wr => ∃ (m : Nat) (acc : Bs), m ≤ n ∧ nv = .int .i64 (-(m : Int)) ∧ sv = .string (mkS acc) ∧ decRest m false ++ acc = Lib.decDigits n ∧ Below w.heap.size w wr) (fun nv _ _ => (-(intOf nv)).toNat)
  case atStart => exact ⟨n, [], Nat.le_refl _, rfl, rfl, by rw [List.append_nil]; unfold decRest; rw [if_neg (by omega)], Below.refl _ _⟩
  case round =>
    obtain ⟨m, acc, hm, rfl, rfl, hd, hb⟩ := hrel
    have HD := hidX hd
    have hs2 : ∀ x : UInt8, ¬ 9223372036854775807 < (mkS [x]).size + (mkS acc).size := fun x => size_two x acc (decRest_short hd (by omega))
    have hs3 : ¬ 9223372036854775807 < ({ data := #[45] } : ByteArray).size + (mkS acc).size := size_one _ acc (by decide) (decRest_short hd (by omega))
    clear hd
    have hcv := HC.out
    have hA : ∀ o, Below w.heap.size w (wr.alloc o) := fun o => hb.alloc hb.size _
    by_cases h0 : 0 < m
    · have h0' : -(m : Int) < 0 := by omega
      go_wp2
      refine ⟨⟨m / 10, UInt8.ofNat (48 + m % 10) :: acc, by omega, by go_num, by rw [mkS_app, byte_add]; rfl, by rw [← decRest_step (.inl h0)]; exact HD.out, hA _⟩, ?_⟩
      simp [intOf]
      omega
    · have h0' : ¬ -(m : Int) < 0 := by omega
      obtain rfl : m = 0 := by omega
      go_wp2
      go_ret
      refine ⟨?_, hb⟩
      rw [← HD.out, decRest_done]
      exact congrArg (fun x => Ending.returned (.string x)) (mkS_app [45] acc)

theorem l1Dec_num (n : Int) (w : World) (hn : numOk n) : Calls Tryz.prog 10 #[.int .i64 n] w fun e w' => e = .returned (.string (mkS (Lib.itoa n))) ∧ Below w.heap.size w w' := by
  obtain ⟨h0, h1⟩ := hn
  by_cases h : n < 0
  · obtain ⟨u, rfl⟩ : ∃ u : Nat, n = -(u : Int) := ⟨n.natAbs, by omega⟩
    rw [Lib.itoa_neg u (by omega)]
    exact l1Dec_neg u w (by omega) (by omega)
  · obtain ⟨u, rfl⟩ : ∃ u : Nat, n = (u : Int) := ⟨n.natAbs, by omega⟩
    rw [Lib.itoa_nonneg u]
    exact l1Dec_pos u w (by omega)

set_option maxHeartbeats 800000 in
theorem l2Val_txt (v : V) (w : World) (hn : numOk v.num) : Calls Tryz.prog 23 #[.agg #[.int .i64 v.kind, .int .i64 v.num, .string v.sym]] w fun e w' => e = .returned (.string (mkS (txV v))) ∧ Below w.heap.size w w' := by
  have hA : ∀ o, Below w.heap.size w (w.alloc o) := fun o => (Below.refl _ _).alloc (Nat.le_refl _) _
  by_cases hk : v.kind = 1
  · have HX : Hid (v.sym = mkS (txV v)) := show v.sym = mkS (txV v) from by unfold txV; rw [if_pos hk, mkS_bs]
    go_enter Tryz.func23, Tryz.ntmps23
    go_wp2
    go_ret
    refine ⟨?_, hA _⟩
    rw [← HX.out]
    rfl
  · have HX : Hid (Lib.itoa v.num = txV v) := show Lib.itoa v.num = txV v from by unfold txV; rw [if_neg hk]
    go_enter Tryz.func23, Tryz.ntmps23
    go_wp2_with (go_at_call 10; refine (l1Dec_num v.num _ hn).mono ?_; rintro e w1 ⟨rfl, hb1⟩)
    go_ret
    refine ⟨ret_txt HX.out, (hA _).trans (hb1.mono (hA _).size)⟩
end Go.Proofs.YtgkoiojelckblaaGreatDoor

namespace Go.Proofs.YtgkoiojelckblaaGreatDoor
open Go.RowKit
attribute [local go_sem ↓] Go.wp_at_zero Go.wp_at_succ

/-- Bytes that lie in memory. -/
def BysAt (w : World) (a : Option Addr) (l : Bs) : Prop := ∀ (j : Nat) x, l[j]? = some x → ∃ b o, a = some ⟨b, o, none⟩ ∧ b < w.heap.size ∧ w.cell? ⟨b, o + j, none⟩ = some (.int .u8 (x.toNat : Int))
theorem BysAt.below {w w' : World} {a : Option Addr} {l : Bs} (h : BysAt w a l) (hb : Below w.heap.size w w') : BysAt w' a l := fun j x hx => by
  obtain ⟨b, o, e, hl, hc⟩ := h j x hx
  exact ⟨b, o, e, Nat.lt_of_lt_of_le hl hb.size, cell_below hb hc⟩
def byV (l : Bs) : List Value := l.map fun x => Value.int .u8 (x.toNat : Int)
theorem byV_len (l : Bs) : (byV l).length = l.length := List.length_map _
theorem BysAt.owns {w : World} {base n : Nat} {a : Option Addr} {c : Nat} {l : Bs} (h : w.ownsRow base 5 1 (.slice a n c) n (byV l)) : BysAt w a l := fun j x hx => by
  obtain ⟨g, hg, _, hc, _⟩ := owns_cell h (j := j) (x := .int .u8 (x.toNat : Int)) (by simp [byV, hx])
  exact ⟨g, 0, hg, World.block_lt_of_cell? _ _ hc, by rw [Nat.zero_add]; exact hc⟩

end Go.Proofs.YtgkoiojelckblaaGreatDoor

namespace Go.Proofs.YtgkoiojelckblaaGreatDoor

def isDg (b : UInt8) : Bool := decide (48 ≤ b.toNat) && decide (b.toNat ≤ 57)
def dFrom (acc : Nat) (l : Bs) : Nat := l.foldl (fun a b => a * 10 + (b.toNat - 48)) acc
def dVal (l : Bs) : Nat := dFrom 0 l
/-- Digits as a number is written: no nought ahead but of nought itself. -/
def canon (l : Bs) : Prop := l ≠ [] ∧ l.all isDg = true ∧ (l.head? ≠ some 48 ∨ l = [48])
theorem dFrom_snoc (acc : Nat) (l : Bs) (b : UInt8) : dFrom acc (l ++ [b]) = dFrom acc l * 10 + (b.toNat - 48) := by simp [dFrom]
theorem dFrom_cons (acc : Nat) (b : UInt8) (l : Bs) : dFrom acc (b :: l) = dFrom (acc * 10 + (b.toNat - 48)) l := by
  unfold dFrom
  rw [List.foldl_cons]
theorem dg_toNat {m : Nat} (h : m < 10) : (UInt8.ofNat (48 + m)).toNat = 48 + m := by
  rw [UInt8.toNat_ofNat']
  exact Nat.mod_eq_of_lt (by omega)
theorem dVal_digits : ∀ u : Nat, dVal (Lib.decDigits u) = u := by
  intro u
  induction u using Nat.strongRecOn with
  | _ u ih =>
    rw [Lib.decDigits]
    by_cases h : u < 10
    · rw [dif_pos h]
      unfold dVal dFrom
      rw [List.foldl_cons, List.foldl_nil, dg_toNat h]
      omega
    · rw [dif_neg h, dVal, dFrom_snoc, dg_toNat (by omega)]
      have := ih (u / 10) (by omega)
      unfold dVal at this
      rw [this]
      omega
theorem isDg_of {m : Nat} (h : m < 10) : isDg (UInt8.ofNat (48 + m)) = true := by
  unfold isDg
  rw [dg_toNat h]
  simp
  omega
theorem digits_all : ∀ u : Nat, (Lib.decDigits u).all isDg = true := by
  intro u
  induction u using Nat.strongRecOn with
  | _ u ih =>
    rw [Lib.decDigits]
    by_cases h : u < 10
    · rw [dif_pos h]
      rw [List.all_cons, isDg_of h]
      rfl
    · rw [dif_neg h, List.all_append, ih (u / 10) (by omega)]
      rw [List.all_cons, isDg_of (by omega)]
      rfl
theorem digits_ne (u : Nat) : Lib.decDigits u ≠ [] := by
  intro h
  have := Lib.decDigits_length u
  rw [h] at this
  have := Lib.nDigits_pos u
  simp at *
  omega
theorem digits_head : ∀ u : Nat, 0 < u → (Lib.decDigits u).head? ≠ some 48 := by
  intro u
  induction u using Nat.strongRecOn with
  | _ u ih =>
    intro h0
    rw [Lib.decDigits]
    by_cases h : u < 10
    · rw [dif_pos h]
      intro e
      have e' : UInt8.ofNat (48 + u) = 48 := by simpa using e
      have := congrArg UInt8.toNat e'
      rw [dg_toNat h] at this
      have h48 : (48 : UInt8).toNat = 48 := rfl
      omega
    · rw [dif_neg h]
      have h1 := ih (u / 10) (by omega) (by omega)
      have h2 := digits_ne (u / 10)
      cases hd : Lib.decDigits (u / 10) with
      | nil => exact absurd hd h2
      | cons x r =>
        rw [hd] at h1
        simpa using h1
theorem dg_back {b : UInt8} (h : isDg b = true) : UInt8.ofNat (48 + (b.toNat - 48)) = b := by
  unfold isDg at h
  simp at h
  rw [show 48 + (b.toNat - 48) = b.toNat by omega]
  simp
theorem dg_lt {b : UInt8} (h : isDg b = true) : b.toNat - 48 < 10 := by
  unfold isDg at h
  simp at h
  omega
theorem dFrom_le : ∀ (l : Bs) (acc : Nat), acc ≤ dFrom acc l
  | [], acc => Nat.le_refl _
  | b :: l, acc => by
    rw [dFrom_cons]
    have := dFrom_le l (acc * 10 + (b.toNat - 48))
    omega
/-- Digits in the right form are what their number is written as. -/
theorem digits_dVal : ∀ (n : Nat) (l : Bs), l.length = n → canon l → Lib.decDigits (dVal l) = l := by
  intro n
  induction n with
  | zero => exact fun l h hc => absurd (List.eq_nil_of_length_eq_zero h) hc.1
  | succ n ih =>
    intro l hl hc
    obtain ⟨hne, hall, hh⟩ := hc
    obtain ⟨r, b, rfl⟩ : ∃ r b, l = r ++ [b] := ⟨l.dropLast, l.getLast hne, (List.dropLast_concat_getLast hne).symm⟩
    have hrl : r.length = n := by simpa using hl
    rw [List.all_append] at hall
    simp at hall
    obtain ⟨hra, hb⟩ := hall
    cases r with
    | nil =>
      simp only [List.nil_append, dVal, dFrom, List.foldl_cons, List.foldl_nil, Nat.zero_mul, Nat.zero_add]
      rw [Lib.decDigits, dif_pos (dg_lt hb)]
      rw [dg_back hb]
    | cons x r =>
      have hx48 : x ≠ 48 := by
        rcases hh with hh | hh
        · simpa using hh
        · simp at hh
      have hcr : canon (x :: r) := ⟨by simp, by simpa using hra, .inl (by simpa using hx48)⟩
      have h1 := ih (x :: r) hrl hcr
      have hpos : 0 < dVal (x :: r) := by
        have hx : isDg x = true := hra x (by simp)
        have h2 : 0 < x.toNat - 48 := by
          unfold isDg at hx
          simp at hx
          have h3 : x.toNat ≠ 48 := fun e => hx48 (UInt8.toNat_inj.1 (by rw [e]; rfl))
          omega
        unfold dVal
        rw [dFrom_cons]
        have := dFrom_le r (0 * 10 + (x.toNat - 48))
        omega
      have hd := dg_lt hb
      have e : dVal (x :: r ++ [b]) = dVal (x :: r) * 10 + (b.toNat - 48) := dFrom_snoc _ _ _
      rw [e, Lib.decDigits, dif_neg (by omega)]
      rw [show (dVal (x :: r) * 10 + (b.toNat - 48)) / 10 = dVal (x :: r) by omega, show (dVal (x :: r) * 10 + (b.toNat - 48)) % 10 = b.toNat - 48 by omega, h1, dg_back hb]

/-- What a word says as a number. -/
def spell (s : Bs) : Int := match s with
  | [] => 0
  | b :: d => if b = 45 then -(dVal d : Int) else (dVal (b :: d) : Int)
def numOf (s : Bs) : Option Int := if decide (-9223372036854775808 ≤ spell s) && (decide (spell s ≤ 9223372036854775807) && decide (Lib.itoa (spell s) = s)) then some (spell s) else none
theorem digit_ne45 {b : UInt8} (h : isDg b = true) : b ≠ 45 := by
  rintro rfl
  exact absurd h (by decide)
theorem spell_digits (u : Nat) : spell (Lib.decDigits u) = (u : Int) := by
  have h1 := digits_ne u
  have h2 := digits_all u
  have h3 := dVal_digits u
  cases hd : Lib.decDigits u with
  | nil => exact absurd hd h1
  | cons b d =>
    rw [hd] at h2 h3
    simp at h2
    unfold spell
    simp only
    rw [if_neg (digit_ne45 h2.1), h3]
theorem spell_itoa (n : Int) : spell (Lib.itoa n) = n := by
  unfold Lib.itoa
  by_cases h : n < 0
  · rw [if_pos h]
    unfold spell
    simp only [if_pos]
    rw [dVal_digits]
    omega
  · rw [if_neg h, spell_digits]
    omega
theorem numOf_itoa {n : Int} (hn : numOk n) : numOf (Lib.itoa n) = some n := by
  have e := spell_itoa n
  unfold numOf
  rw [e]
  simp [hn.1, hn.2]
theorem numOf_some {s : Bs} {n : Int} (h : numOf s = some n) : s = Lib.itoa n ∧ numOk n := by
  unfold numOf at h
  split at h
  · rename_i hc
    simp only [Bool.and_eq_true, decide_eq_true_eq] at hc
    injection h with h
    subst h
    exact ⟨hc.2.2.symm, hc.1, hc.2.1⟩
  · cases h

/-- The program's way. -/
def stripM (s : Bs) : Bs := if s.head? = some 45 then s.tail else s
theorem uintM_ok : ∀ (l : Bs) (acc : Nat), l.all isDg = true → acc ≤ 2 ^ 64 - 1 → Lib.parseUintM (2 ^ 64 - 1) acc l = if dFrom acc l ≤ 2 ^ 64 - 1 then .ok (dFrom acc l) else .range
  | [], acc, _, h => by
    have e : dFrom acc [] = acc := rfl
    rw [e, Lib.parseUintM, if_pos (by omega)]
  | b :: l, acc, ha, h => by
    simp at ha
    have hb := ha.1
    have hd := dg_lt hb
    unfold isDg at hb
    simp at hb
    rw [Lib.parseUintM, if_pos hb, dFrom_cons]
    have hle := dFrom_le l (acc * 10 + (b.toNat - 48))
    by_cases h1 : 1844674407370955162 ≤ acc
    · rw [if_pos h1, if_neg (by omega)]
    · rw [if_neg h1]
      by_cases h2 : 2 ^ 64 - 1 < acc * 10 + (b.toNat - 48)
      · rw [if_pos h2, if_neg (by omega)]
      · rw [if_neg h2]
        exact uintM_ok l _ (by simpa using ha.2) (by omega)
theorem itoa_pos {n : Int} (h : ¬ n < 0) : Lib.itoa n = Lib.decDigits n.toNat := by unfold Lib.itoa; rw [if_neg h]
theorem itoa_neg' {n : Int} (h : n < 0) : Lib.itoa n = 45 :: Lib.decDigits n.natAbs := by unfold Lib.itoa; rw [if_pos h]
theorem digits_not45 (u : Nat) : (Lib.decDigits u).head? ≠ some 45 := by
  have h2 := digits_all u
  cases hd : Lib.decDigits u with
  | nil => simp
  | cons b d =>
    rw [hd] at h2
    simp at h2
    simpa using digit_ne45 h2.1
theorem strip_itoa (n : Int) : stripM (Lib.itoa n) = Lib.decDigits n.natAbs := by
  unfold stripM
  by_cases h : n < 0
  · rw [itoa_neg' h]
    simp
  · rw [itoa_pos h, if_neg (digits_not45 _), show n.toNat = n.natAbs by omega]
theorem numOf_zero : numOf [48] = some 0 := by
  have e : Lib.itoa 0 = [48] := by rw [itoa_pos (by omega), Lib.decDigits]; rfl
  have := numOf_itoa (n := 0) ⟨by omega, by omega⟩
  rw [e] at this
  exact this
theorem numOf_bad1 {s : Bs} (h0 : s ≠ [48]) (h : stripM s = [] ∨ (stripM s).head? = some 48) : numOf s = none := by
  cases hn : numOf s with
  | none => rfl
  | some n =>
    obtain ⟨rfl, _⟩ := numOf_some hn
    rw [strip_itoa] at h
    rcases h with h | h
    · exact absurd h (digits_ne _)
    · by_cases hz : 0 < n.natAbs
      · exact absurd h (digits_head _ hz)
      · obtain rfl : n = 0 := by omega
        exact absurd (by rw [itoa_pos (by omega), Lib.decDigits]; rfl) h0
theorem numOf_bad2 {s : Bs} (h : (stripM s).all isDg = false) : numOf s = none := by
  cases hn : numOf s with
  | none => rfl
  | some n =>
    obtain ⟨rfl, _⟩ := numOf_some hn
    rw [strip_itoa, digits_all] at h
    cases h
theorem itoa_strip {s : Bs} (h1 : stripM s ≠ []) (h2 : (stripM s).head? ≠ some 48) (h3 : (stripM s).all isDg = true) : Lib.itoa (spell s) = s := by
  have hc : canon (stripM s) := ⟨h1, h3, .inl h2⟩
  have hd := digits_dVal _ _ rfl hc
  cases s with
  | nil => exact absurd rfl h1
  | cons b d =>
    by_cases hb : b = 45
    · subst hb
      have e : stripM (45 :: d) = d := rfl
      rw [e] at hd h1 h2 h3
      have hpos : 0 < dVal d := by
        by_cases hz : 0 < dVal d
        · exact hz
        · have : dVal d = 0 := by omega
          rw [this, Lib.decDigits, dif_pos (by omega)] at hd
          rw [← hd] at h2
          exact absurd rfl h2
      have e2 : spell (45 :: d) = -(dVal d : Int) := rfl
      rw [e2, itoa_neg' (by omega), show (-(dVal d : Int)).natAbs = dVal d by omega, hd]
    · have e : stripM (b :: d) = b :: d := by unfold stripM; rw [if_neg (by simpa using hb)]
      rw [e] at hd
      have e2 : spell (b :: d) = (dVal (b :: d) : Int) := by unfold spell; simp only [if_neg hb]
      rw [e2, itoa_pos (by omega), show ((dVal (b :: d) : Int)).toNat = dVal (b :: d) by omega, hd]
theorem pInt_eq {s : Bs} (h1 : stripM s ≠ []) (h3 : (stripM s).all isDg = true) : Lib.parseIntB 64 s = if -9223372036854775808 ≤ spell s ∧ spell s ≤ 9223372036854775807 then .ok (spell s) else .range := by
  cases s with
  | nil => exact absurd rfl h1
  | cons b d =>
    by_cases hb : b = 45
    · subst hb
      have e : stripM (45 :: d) = d := rfl
      rw [e] at h1 h3
      have hu : Lib.parseUintB 64 d = if dVal d ≤ 2 ^ 64 - 1 then .ok (dVal d) else .range := by
        unfold Lib.parseUintB
        rw [if_neg h1]
        exact uintM_ok d 0 h3 (by omega)
      have e2 : spell (45 :: d) = -(dVal d : Int) := rfl
      unfold Lib.parseIntB
      simp only
      have h45 : (45 : UInt8).toNat = 45 := rfl
      rw [if_pos (Or.inr h45), hu, e2]
      by_cases hr : dVal d ≤ 2 ^ 64 - 1
      · rw [if_pos hr]
        simp only
        rw [if_neg (by rw [h45]; omega)]
        by_cases hq : 2 ^ (64 - 1) < dVal d
        · rw [if_pos ⟨h45, hq⟩, if_neg (by omega)]
        · rw [if_neg (by omega), if_pos h45, if_pos (by omega)]
      · rw [if_neg hr]
        simp only
        rw [if_neg (by omega)]
    · have e : stripM (b :: d) = b :: d := by unfold stripM; rw [if_neg (by simpa using hb)]
      rw [e] at h3
      have hbd : isDg b = true := by simp at h3; exact h3.1
      have hb2 : ¬ (b.toNat = 43 ∨ b.toNat = 45) := by
        unfold isDg at hbd
        simp at hbd
        omega
      have hb3 : ¬ b.toNat = 45 := fun h => hb2 (.inr h)
      have hu : Lib.parseUintB 64 (b :: d) = if dVal (b :: d) ≤ 2 ^ 64 - 1 then .ok (dVal (b :: d)) else .range := by
        unfold Lib.parseUintB
        rw [if_neg (by simp)]
        exact uintM_ok (b :: d) 0 h3 (by omega)
      have e2 : spell (b :: d) = (dVal (b :: d) : Int) := by unfold spell; simp only [if_neg hb]
      unfold Lib.parseIntB
      simp only
      rw [if_neg hb2, hu, e2]
      by_cases hr : dVal (b :: d) ≤ 2 ^ 64 - 1
      · rw [if_pos hr]
        simp only
        by_cases hq : 2 ^ (64 - 1) ≤ dVal (b :: d)
        · rw [if_pos ⟨hb3, hq⟩, if_neg (by omega)]
        · rw [if_neg (fun h => hq h.2), if_neg (fun h => hb3 h.1), if_neg hb3, if_pos (by omega)]
      · rw [if_neg hr]
        simp only
        rw [if_neg (by omega)]
theorem numOf_good {s : Bs} (h1 : stripM s ≠ []) (h2 : (stripM s).head? ≠ some 48) (h3 : (stripM s).all isDg = true) : (∃ v, Lib.parseIntB 64 s = .ok v ∧ numOf s = some v) ∨ (Lib.parseIntB 64 s = .range ∧ numOf s = none) := by
  rw [pInt_eq h1 h3]
  have hi := itoa_strip h1 h2 h3
  unfold numOf
  by_cases hr : -9223372036854775808 ≤ spell s ∧ spell s ≤ 9223372036854775807
  · rw [if_pos hr]
    exact .inl ⟨_, rfl, by rw [if_pos (by simp [hr.1, hr.2, hi])]⟩
  · rw [if_neg hr]
    refine .inr ⟨rfl, ?_⟩
    rw [if_neg]
    intro hc
    simp only [Bool.and_eq_true, decide_eq_true_eq] at hc
    exact hr ⟨hc.1, hc.2.1⟩
end Go.Proofs.YtgkoiojelckblaaGreatDoor

namespace Go.Proofs.YtgkoiojelckblaaGreatDoor
open Go.RowKit
attribute [local go_sem ↓] Go.wp_at_zero Go.wp_at_succ

/-- A number that was looked for. -/
def IPost (s : Bs) (w : World) (e : Ending) (w' : World) : Prop := ∃ (n : Int) (b : Bool), e = .returned (.tuple #[.int .i64 n, .bool b]) ∧ numOf s = (if b then some n else none) ∧ Below w.heap.size w w'
theorem IPost.no {s : Bs} {w w' : World} {e : Ending} (n : Int) (he : e = .returned (.tuple #[.int .i64 n, .bool false])) (hn : numOf s = none) (hb : Below w.heap.size w w') : IPost s w e w' := ⟨n, false, he, by rw [hn]; rfl, hb⟩
theorem bs_head (s : ByteArray) (h : 0 < s.size) : (bsOf s).head? = some s[0] := by
  obtain ⟨⟨l⟩⟩ := s
  cases l with
  | nil => exact absurd h (Nat.lt_irrefl 0)
  | cons a l => rfl
theorem all_take_step {l : Bs} {f : UInt8 → Bool} {k : Nat} (hk : k < l.length) (h : (l.take k).all f = true) (hb : f l[k] = true) : (l.take (k + 1)).all f = true := by
  rw [List.take_add_one, List.getElem?_eq_getElem hk, List.all_append, h]
  simp [hb]
end Go.Proofs.YtgkoiojelckblaaGreatDoor

namespace Go.Proofs.YtgkoiojelckblaaGreatDoor

/-- Numbers that a machine has. -/
def RuN (r : Ru) : Prop := numOk r.sal ∧ (∀ p ∈ r.pats, ∀ t ∈ p.terms, numOk t.val.num) ∧ ∀ e ∈ r.exprs, numOk e.val.num
/-- What the texts ask of exprs. -/
def ExT (es : List Ex) (S : List Sp) : Prop := es.length ≤ 60 ∧ Spans es S ∧ S.length = es.length ∧ ∀ e ∈ es, numOk e.val.num
def AcT (es : List Ex) (a : Ac) : Prop := fieldsOk a = true ∧ a.args.length ≤ 6 ∧ ∀ v ∈ a.args, 0 ≤ v ∧ v < (es.length : Int)
def PtT (p : Pt) : Prop := gPt p = true ∧ ∀ t ∈ p.terms, numOk t.val.num
def RuT (r : Ru) : Prop := r.name.size ≤ 20 ∧ numOk r.sal ∧ r.pats.length ≤ 6 ∧ (∀ p ∈ r.pats, PtT p) ∧ r.acts.length ≤ 8 ∧ (∃ S, ExT r.exprs S) ∧ ∀ a ∈ r.acts, AcT r.exprs a

theorem argsGo_in {S : List Sp} : ∀ {l : List Int} {nx n : Nat}, argsGo S l nx = some n → ∀ v ∈ l, 0 ≤ v ∧ v < (S.length : Int)
  | [], _, _, _, v, hv => by simp at hv
  | x :: r, nx, n, h, v, hv => by
    unfold argsGo at h
    split at h
    · rename_i hc
      simp only [Bool.and_eq_true, decide_eq_true_eq] at hc
      rcases List.mem_cons.1 hv with rfl | hm
      · exact ⟨hc.1, hc.2.1⟩
      · exact argsGo_in h v hm
    · cases h
theorem actsGo_in {S : List Sp} : ∀ {l : List Ac} {nx k : Nat}, actsGo S l nx k = none → ∀ y ∈ l, fieldsOk y = true ∧ y.args.length ≤ 6 ∧ ∀ v ∈ y.args, 0 ≤ v ∧ v < (S.length : Int)
  | [], _, _, _, y, hy => by simp at hy
  | a :: r, nx, k, h, y, hy => by
    unfold actsGo at h
    cases hg : gAc S a nx with
    | none => rw [hg] at h; cases h
    | some n' =>
      rw [hg] at h
      rcases List.mem_cons.1 hy with rfl | hm
      · unfold gAc at hg
        split at hg
        · rename_i hc
          simp only [Bool.and_eq_true, decide_eq_true_eq] at hc
          exact ⟨hc.1, hc.2, argsGo_in hg⟩
        · cases hg
      · exact actsGo_in h y hm
theorem RuT.of {r : Ru} (h : shape r = none) (hn : RuN r) : RuT r := by
  obtain ⟨hp6, hpt⟩ := shape_pats h
  unfold shape at h
  split at h
  · rename_i hh
    simp only [headOk, Bool.and_eq_true, decide_eq_true_eq] at hh
    split at h
    · cases h
    · split at h
      · cases h
      · rename_i hlt
        have hS := (spansGo_spans (es := r.exprs) (l := r.exprs) (Spans.nil _) rfl).1
        have hfull : (spansGo [] r.exprs).length = r.exprs.length := by have := hS.1; omega
        have hf := actsGo_in h
        refine ⟨gSym_sz hh.1, hn.1, hp6, fun p hp => ⟨hpt p hp, hn.2.1 p hp⟩, hh.2.2.1, ⟨_, hh.2.2.2, hS, hfull, hn.2.2⟩, fun a ha => ⟨(hf a ha).1, (hf a ha).2.1, fun v hv => ?_⟩⟩
        have := (hf a ha).2.2 v hv
        rw [hfull] at this
        exact this
  · cases h

theorem spanT_leaf {S : List Sp} {e : Ex} {s : Sp} (h : spanOf S e = some s) (hk : e.kind ≠ 2) : (e.kind = 0 ∧ gVal e.val = true) ∨ (e.kind = 1 ∧ gSym e.var.data.toList = true) := by
  unfold spanOf at h
  by_cases k0 : e.kind = 0
  · simp [k0] at h
    exact .inl ⟨k0, h.1.2.2⟩
  by_cases k1 : e.kind = 1
  · simp [k1] at h
    exact .inr ⟨k1, h.1.2.1⟩
  · simp [k0, k1, hk] at h
theorem spanT_op {S : List Sp} {e : Ex} {s : Sp} (h : spanOf S e = some s) (hk : e.kind = 2) : isAr e.op = true := by
  unfold spanOf at h
  simp only [hk] at h
  rw [if_neg (by decide), if_neg (by decide), if_pos (by decide)] at h
  split at h
  · rename_i ho
    simp only [opOk, Bool.and_eq_true] at ho
    exact ho.1
  · cases h
theorem ExT.kind {es : List Ex} {S : List Sp} (h : ExT es S) {i : Nat} {e : Ex} (he : es[i]? = some e) : (e.kind = 0 ∧ gVal e.val = true) ∨ (e.kind = 1 ∧ gSym e.var.data.toList = true) ∨ (e.kind = 2 ∧ isAr e.op = true ∧ ∃ a b : Nat, e.a = (a : Int) ∧ e.b = (b : Int) ∧ a < i ∧ b < i) := by
  have hi : i < S.length := by rw [h.2.2.1]; exact (List.getElem?_eq_some_iff.1 he).1
  obtain ⟨s, hs⟩ : ∃ s, S[i]? = some s := ⟨S[i], by simp [hi]⟩
  by_cases hk : e.kind = 2
  · obtain ⟨a, b, sa, sb, ha, hb, h1, h2, _⟩ := h.2.1.op hs he hk
    exact .inr (.inr ⟨hk, spanT_op (h.2.1.2 i s e hs he) hk, a, b, ha, hb, by omega, by omega⟩)
  · rcases spanT_leaf (h.2.1.2 i s e hs he) hk with h | h
    · exact .inl h
    · exact .inr (.inl h)
theorem txE_le {es : List Ex} {S : List Sp} (h : ExT es S) : ∀ (n i : Nat) (s : Sp), S[i]? = some s → (txE n es i).length + 5 ≤ 40 * 2 ^ s.2
  | 0, i, s, _ => by
    have : 0 < 2 ^ s.2 := Nat.two_pow_pos _
    simp [txE]
    omega
  | n + 1, i, s, hs => by
    have hi : i < es.length := by rw [← h.2.2.1]; exact (List.getElem?_eq_some_iff.1 hs).1
    obtain ⟨e, he⟩ : ∃ e, es[i]? = some e := ⟨es[i], by simp [hi]⟩
    have hp : 0 < 2 ^ s.2 := Nat.two_pow_pos _
    rw [txE_one n es i e he]
    by_cases hk : e.kind = 2
    · obtain ⟨a, b, sa, sb, ha, hb, h1, h2, h3, h4, rfl⟩ := h.2.1.op hs he hk
      rw [if_neg (by omega), if_pos hk, ha, hb]
      have e1 := txE_le h n a sa h3
      have e2 := txE_le h n b sb h4
      have p1 : 2 ^ sa.2 ≤ 2 ^ max sa.2 sb.2 := Nat.pow_le_pow_right (by omega) (by omega)
      have p2 : 2 ^ sb.2 ≤ 2 ^ max sa.2 sb.2 := Nat.pow_le_pow_right (by omega) (by omega)
      have p3 : 2 ^ (1 + max sa.2 sb.2) = 2 * 2 ^ max sa.2 sb.2 := by rw [Nat.add_comm, Nat.pow_succ, Nat.mul_comm]
      simp only [List.length_cons, List.length_append, List.length_nil, Int.toNat_natCast]
      omega
    · rcases h.kind he with ⟨k, hv⟩ | ⟨k, hv⟩ | ⟨k, _⟩
      · rw [if_neg (by omega), if_neg hk]
        have := txV_le hv (h.2.2.2 e (List.mem_of_getElem? he))
        omega
      · rw [if_pos k]
        have := gSym_sz hv
        simp only [List.length_cons, bs_length]
        omega
      · exact absurd k hk
theorem txE_short {es : List Ex} {S : List Sp} (h : ExT es S) (n i : Nat) (hi : i < es.length) : (txE n es i).length ≤ 41943040 := by
  have hi' : i < S.length := by rw [h.2.2.1]; exact hi
  have hs : S[i]? = some S[i] := by simp [hi']
  have h1 := txE_le h n i _ hs
  have h2 := h.2.1.depth_le i _ hs
  have h3 : 2 ^ (S[i]).2 ≤ 2 ^ 20 := Nat.pow_le_pow_right (by omega) h2
  omega

theorem flat_le {α : Type} {f : α → Bs} {N : Nat} : ∀ {l : List α}, (∀ x ∈ l, (f x).length ≤ N) → (l.flatMap f).length ≤ N * l.length
  | [], _ => by simp
  | x :: r, h => by
    have h1 := flat_le (l := r) (fun y hy => h y (by simp [hy]))
    have h2 := h x (by simp)
    rw [List.flatMap_cons, List.length_append, List.length_cons, Nat.mul_succ]
    omega
theorem txArgs_le {es : List Ex} {S : List Sp} (h : ExT es S) {l : List Int} (hl : l.length ≤ 6) (hv : ∀ v ∈ l, 0 ≤ v ∧ v < (es.length : Int)) : (txArgs es l).length ≤ 300000000 := by
  have := flat_le (f := fun x : Int => 32 :: txE 60 es x.toNat) (N := 41943041) (l := l) (fun x hx => by
    have h1 := hv x hx
    have := txE_short h 60 x.toNat (by omega)
    simp only [List.length_cons]
    omega)
  unfold txArgs
  omega
theorem kOk_num {k : Int} (h : kOk k = true) : numOk k := by
  simp only [kOk, Bool.and_eq_true, decide_eq_true_eq] at h
  exact ⟨by omega, by omega⟩
theorem gCls_sz {s : ByteArray} (h : gCls s = true) : s.size ≤ 20 := by
  simp only [gCls, Bool.and_eq_true] at h
  exact gSym_sz h.1
theorem AcT.cases {es : List Ex} {a : Ac} (h : AcT es a) : (a.kind = 1 ∧ a.cls.size ≤ 20) ∨ (a.kind = 2 ∧ numOk a.k ∧ a.args = []) ∨ (a.kind = 3 ∧ numOk a.k) ∨ (a.kind = 4 ∧ a.args = []) := by
  have hf := h.1
  unfold fieldsOk at hf
  by_cases k1 : a.kind = 1
  · simp [k1] at hf
    exact .inl ⟨k1, gCls_sz hf.1⟩
  by_cases k2 : a.kind = 2
  · simp [k2] at hf
    exact .inr (.inl ⟨k2, kOk_num hf.1.2, hf.2⟩)
  by_cases k3 : a.kind = 3
  · simp [k3] at hf
    exact .inr (.inr (.inl ⟨k3, kOk_num hf.2⟩))
  by_cases k4 : a.kind = 4
  · simp [k4] at hf
    exact .inr (.inr (.inr ⟨k4, hf.2.2⟩))
  · simp [k1, k2, k3, k4] at hf
theorem txHead_le {es : List Ex} {a : Ac} (h : AcT es a) : (txHead a).length ≤ 30 := by
  unfold txHead
  rcases h.cases with ⟨k, hs⟩ | ⟨k, hk, _⟩ | ⟨k, hk⟩ | ⟨k, _⟩
  · simp [k, addB, bs_length]
    omega
  · have := Lib.itoa_length_le _ hk.1 hk.2
    simp [k, dropB]
    omega
  · have := Lib.itoa_length_le _ hk.1 hk.2
    simp [k, modB]
    omega
  · simp [k, haltB]
theorem txA_le {es : List Ex} {S : List Sp} (h : ExT es S) {a : Ac} (ha : AcT es a) : (txA es a).length ≤ 300000040 := by
  have h1 := txHead_le ha
  have h2 := txArgs_le h ha.2.1 ha.2.2
  unfold txA
  simp only [List.length_cons, List.length_append, List.length_nil]
  omega
theorem txTs_le {l : List Tm} (hl : l.length ≤ 6) (h : ∀ t ∈ l, gTm t = true ∧ numOk t.val.num) : (txTs l).length ≤ 200 := by
  have := flat_le (f := fun t : Tm => 32 :: txT t) (N := 31) (l := l) (fun x hx => by
    have := txT_le (h x hx).1 (h x hx).2
    simp only [List.length_cons]
    omega)
  unfold txTs
  omega
theorem PtT.get {p : Pt} (h : PtT p) : p.cls.size ≤ 20 ∧ p.terms.length ≤ 6 ∧ ∀ t ∈ p.terms, gTm t = true ∧ numOk t.val.num := by
  have hg := h.1
  simp only [gPt, Bool.and_eq_true, decide_eq_true_eq, List.all_eq_true] at hg
  exact ⟨gCls_sz hg.1, hg.2.1, fun t ht => ⟨hg.2.2 t ht, h.2 t ht⟩⟩
theorem txP_le {p : Pt} (h : PtT p) : (txP p).length ≤ 240 := by
  obtain ⟨h1, h2, h3⟩ := h.get
  have := txTs_le h2 h3
  unfold txP
  simp only [List.length_cons, List.length_append, List.length_nil, bs_length]
  split
  · simp [notX]
    omega
  · simp
    omega
theorem txPs_le {l : List Pt} (hl : l.length ≤ 6) (h : ∀ p ∈ l, PtT p) : (txPs l).length ≤ 2000 := by
  have := flat_le (f := fun p : Pt => lineB ++ txP p) (N := 243) (l := l) (fun x hx => by
    have := txP_le (h x hx)
    simp only [List.length_append, lineB, List.length_cons, List.length_nil]
    omega)
  unfold txPs
  omega
theorem txAs_le {es : List Ex} {S : List Sp} (h : ExT es S) {l : List Ac} (hl : l.length ≤ 8) (ha : ∀ a ∈ l, AcT es a) : (txAs es l).length ≤ 2500000000 := by
  have := flat_le (f := fun a : Ac => lineB ++ txA es a) (N := 300000043) (l := l) (fun x hx => by
    have := txA_le h (ha x hx)
    simp only [List.length_append, lineB, List.length_cons, List.length_nil]
    omega)
  unfold txAs
  omega
theorem txHd_le {r : Ru} (h : RuT r) : (txHd r).length ≤ 60 := by
  have := Lib.itoa_length_le _ h.2.1.1 h.2.1.2
  have := h.1
  unfold txHd
  simp only [List.length_append, List.length_cons, ruleB, List.length_nil, bs_length]
  omega
theorem txR_le {r : Ru} (h : RuT r) : (txR r).length ≤ 2600000000 := by
  have h1 := txHd_le h
  obtain ⟨_, _, h2, h3, h4, ⟨S, h5⟩, h6⟩ := h
  have := txPs_le h2 h3
  have := txAs_le h5 h4 h6
  unfold txR
  simp only [List.length_append, List.length_cons, lineB, thenB, List.length_nil]
  omega
theorem txRs_le {l : List Ru} (hl : l.length ≤ 16) (h : ∀ r ∈ l, RuT r) : (txRs l).length ≤ 42000000000 := by
  have := flat_le (f := txR) (N := 2600000000) (l := l) (fun x hx => txR_le (h x hx))
  unfold txRs
  omega
theorem flat_takeS {α : Type} (f : α → Bs) {l : List α} {k : Nat} {x : α} (h : l[k]? = some x) : (l.take (k + 1)).flatMap f = (l.take k).flatMap f ++ f x := by
  rw [List.take_add_one, h, List.flatMap_append]
  simp
end Go.Proofs.YtgkoiojelckblaaGreatDoor

namespace Go.Proofs.YtgkoiojelckblaaGreatDoor
open Go.RowKit
attribute [local go_sem ↓] Go.wp_at_zero Go.wp_at_succ

/-- Six texts of tests at an address. -/
def TestsAt (w : World) (g o : Nat) : Prop := ∀ k, k < 6 → w.cell? ⟨g, o + k, none⟩ = some (.string (mkS (opTx.getD k [])))
theorem TestsAt.below {w w' : World} {g o : Nat} (h : TestsAt w g o) (hb : Below w.heap.size w w') : TestsAt w' g o := fun k hk => cell_below hb (h k hk)

set_option maxHeartbeats 800000 in
theorem l2Tests_txt (w : World) : Calls Tryz.prog 24 #[] w fun e w' => e = .returned (.slice (some ⟨w.heap.size, 0, none⟩) 6 6) ∧ TestsAt w' w.heap.size 0 ∧ Below w.heap.size w w' := by
  have hA : ∀ o, Below w.heap.size w (w.alloc o) := fun o => (Below.refl _ _).alloc (Nat.le_refl _) _
  go_enter Tryz.func24, Tryz.ntmps24
  go_wp2
  go_ret
  refine ⟨rfl, ?_, hA _⟩
  intro k hk
  rcases (show k = 0 ∨ k = 1 ∨ k = 2 ∨ k = 3 ∨ k = 4 ∨ k = 5 by omega) with rfl | rfl | rfl | rfl | rfl | rfl <;> simp [go_sem] <;> rfl

theorem wrap_small (n : Int) (h0 : 0 ≤ n) (h1 : n < 1000) : IntKind.i64.wrap n = n := by
  rw [IntKind.wrap_i64]
  omega
theorem cat5 (a b : Bs) : ({ data := #[40] } : ByteArray) ++ mkS a ++ { data := #[32] } ++ mkS b ++ { data := #[41] } = mkS (40 :: (a ++ 32 :: (b ++ [41]))) := by
  have e : ∀ x : UInt8, ({ data := #[x] } : ByteArray) = mkS [x] := fun _ => rfl
  rw [e, e, e, mkS_app, mkS_app, mkS_app, mkS_app]
  simp
theorem sz_one (x : UInt8) : ({ data := #[x] } : ByteArray).size = 1 := rfl
set_option maxHeartbeats 1600000 in
theorem l2Term_txt (t : Tm) (w : World) (hg : gTm t = true) (hn : numOk t.val.num) : Calls Tryz.prog 11 #[.agg #[.int .i64 t.kind, .int .i64 t.op, .string t.var, .int .i64 t.val.kind, .int .i64 t.val.num, .string t.val.sym]] w fun e w' => e = .returned (.string (mkS (txT t))) ∧ Below w.heap.size w w' := by
  have hA : ∀ o, Below w.heap.size w (w.alloc o) := fun o => (Below.refl _ _).alloc (Nat.le_refl _) _
  by_cases k1 : t.kind = 1
  · have HX : Hid (txV t.val = txT t) := show txV t.val = txT t from by unfold txT; rw [if_pos k1]
    go_enter Tryz.func11, Tryz.ntmps11
    go_wp2_with (go_at_call 23; refine (l2Val_txt t.val _ hn).mono ?_; rintro e w1 ⟨rfl, hb1⟩)
    go_ret
    exact ⟨ret_txt HX.out, (hA _).trans (hb1.mono (hA _).size)⟩
  by_cases k2 : t.kind = 2
  · have HX : Hid (63 :: bsOf t.var = txT t) := show _ = txT t from by unfold txT; rw [if_neg k1, if_pos k2]
    have hv : t.var.size ≤ 20 := by
      simp [gTm, k2] at hg
      exact gSym_sz hg.2.1
    have hs : ¬ 9223372036854775807 < ({ data := #[63] } : ByteArray).size + t.var.size := by
      have : ({ data := #[63] } : ByteArray).size = 1 := rfl
      omega
    go_enter Tryz.func11, Tryz.ntmps11
    go_wp2
    go_ret
    refine ⟨?_, hA _⟩
    rw [← HX.out]
    exact congrArg (fun x => Ending.returned (.string x)) (mkS_app' t.var [63])
  by_cases k3 : t.kind = 3
  · have hT : 1 ≤ t.op ∧ t.op ≤ 6 ∧ operandOk t = true := by
      simp [gTm, k3] at hg
      exact hg
    obtain ⟨ho1, ho6, hopd⟩ := hT
    obtain ⟨k, hk⟩ : ∃ k : Nat, t.op = (k : Int) + 1 := ⟨(t.op - 1).toNat, by omega⟩
    have hk6 : k < 6 := by omega
    have HX : Hid (40 :: (opTx.getD k [] ++ 32 :: (txO t ++ [41])) = txT t) := show _ = txT t from by unfold txT; rw [if_neg k1, if_neg k2, if_pos k3, hk]; simp
    have hsv := txO_le hopd hn
    have hso := opTx_le k
    have HOP := hidX hk
    obtain ⟨xo, hxo⟩ : ∃ x, x = txO t := ⟨_, rfl⟩
    rw [← hxo] at HX hsv
    cases hv : t.var.toList.isEmpty
    · have hO : mkS xo = ({ data := #[63] } : ByteArray) ++ t.var := by
        have hb : isE t.var = false := hv
        rw [hxo, txO, hb]
        exact (mkS_app' t.var [63]).symm
      have hs : ¬ 9223372036854775807 < ({ data := #[63] } : ByteArray).size + t.var.size := by
        have := congrArg ByteArray.size hO
        rw [mkS_size, ByteArray.size_append] at this
        omega
      have HO := hidX hO
      clear hO hxo
      go_enter Tryz.func11, Tryz.ntmps11
      go_wp2_with (go_at_call 23; refine (l2Val_txt t.val _ hn).mono ?_; rintro e w1 ⟨rfl, hb1⟩; have z1 : w1.cell? ⟨w.heap.size, 1, none⟩ = some (.int .i64 ((k : Int) + 1)) := cell_below hb1 (by simp [go_sem]); have z2 : w1.cell? ⟨w.heap.size, 2, none⟩ = some (.string t.var) := cell_below hb1 (by simp [go_sem]))
      rw [← HO.out]
      clear z2 hs HO hv
      have z3 : ∀ w', Below w1.heap.size w1 w' → w'.cell? ⟨w.heap.size, 1, none⟩ = some (.int .i64 ((k : Int) + 1)) := fun w' h => cell_below h z1
      have ZZ := hidX z3
      obtain ⟨ob, hob⟩ : ∃ o, o = opTx.getD k [] := ⟨_, rfl⟩
      have HOB := hidX hob
      rw [← hob] at hso
      have TA : Hid (∀ w0, w0.heap.size = w1.heap.size → Calls Tryz.prog 24 #[] w0 fun e w' => e = .returned (.slice (some ⟨w1.heap.size, 0, none⟩) 6 6) ∧ w'.cell? ⟨w1.heap.size, k, none⟩ = some (.string (mkS ob)) ∧ Below w0.heap.size w0 w') := fun w0 h0 => (l2Tests_txt w0).mono fun e w' ⟨h1, h2, h3⟩ => ⟨by rw [← h0]; exact h1, by have := h2 k hk6; rw [Nat.zero_add, ← HOB.out, h0] at this; exact this, h3⟩
      clear hob z3
      have i0 : (0 : Int) ≤ (k : Int) := by omega
      have i6 : (k : Int) < 6 := by omega
      have i7 : IntKind.i64.wrap ((k : Int) + 1 - 1) = (k : Int) := by rw [show (k : Int) + 1 - 1 = (k : Int) by omega]; exact wrap_small _ (by omega) (by omega)
      have i8 : IntKind.i64.wrap (k : Int) = (k : Int) := wrap_small _ (by omega) (by omega)
      refine wp_region_noPanic ?_
      refine wp_region_held_drew (S := (fun w' => w'.cell? ⟨w.heap.size, 1, none⟩ = some (.int .i64 ((k : Int) + 1)))) (by kernel_rfl) ?_ (fun hHeld => ?_)
      · (try dsimp only)
        exact z1
      refine tk 1 hHeld ?_
      (try simp only [pA, pZ, pS])
      refine tk 2 hHeld ?_
      (try simp only [pA, pZ, pS])
      refine tk 3 hHeld ?_
      (try simp only [pA, pZ, pS])
      refine tk 8 hHeld ?_
      (try simp only [pA, pZ, pS])
      refine wpAnyH_ready (rs := [0]) (by kernel_rfl) (by simp) ?_
      refine AllReadyH.cons (o := ?o1) ?ho1 (fun K hK => ?step1) AllReadyH.nil
      case ho1 => (simp only [List.getElem?_toArray, List.getElem?_cons_zero]; rfl)
      go_simp
      go_at_call 24; refine (TA.out _ (by simp)).mono ?_; rintro e' w' ⟨rfl, hc', hb'⟩; (try go_wp2_with fail)
      refine hK.out _ _ ?hS1 (fun hHeld' => ?rest1)
      case hS1 => ((try dsimp only); exact cell_below hb' (by assumption))
      clear hK K
      (first | simp only [pA, pZ, pS] | simp only [pN] | skip)
      clear hHeld
      have hHeld := hHeld'
      clear hHeld'
      refine tk 4 hHeld ?_
      (try simp only [pA, pZ, pS])
      refine wpAnyH_ready (rs := [5]) (by kernel_rfl) (by simp) ?_
      refine AllReadyH.cons (o := ?o2) ?ho2 (fun K hK => ?step2) AllReadyH.nil
      case ho2 => (simp only [List.getElem?_toArray, List.getElem?_cons_succ, List.getElem?_cons_zero]; rfl)
      go_simp
      refine hK.out _ _ ?hS2 (fun hHeld' => ?rest2)
      case hS2 => ((try dsimp only); assumption)
      clear hK K
      (first | simp only [pA, pZ, pS] | simp only [pN] | skip)
      clear hHeld
      have hHeld := hHeld'
      clear hHeld'
      refine wpAnyH_ready (rs := [6]) (by kernel_rfl) (by simp) ?_
      refine AllReadyH.cons (o := ?o3) ?ho3 (fun K hK => ?step3) AllReadyH.nil
      case ho3 => (simp only [List.getElem?_toArray, List.getElem?_cons_succ, List.getElem?_cons_zero]; rfl)
      go_simp
      (rw [if_neg (by (repeat (first | rw [ByteArray.size_append] | rw [mkS_size] | rw [sz_one])); omega)]; go_simp)
      refine hK.out _ _ ?hS3 (fun hHeld' => ?rest3)
      case hS3 => ((try dsimp only); assumption)
      clear hK K
      (first | simp only [pA, pZ, pS] | simp only [pN] | skip)
      clear hHeld
      have hHeld := hHeld'
      clear hHeld'
      refine wpAnyH_ready (rs := [7]) (by kernel_rfl) (by simp) ?_
      refine AllReadyH.cons (o := ?o4) ?ho4 (fun K hK => ?step4) AllReadyH.nil
      case ho4 => (simp only [List.getElem?_toArray, List.getElem?_cons_succ, List.getElem?_cons_zero]; rfl)
      go_simp
      (rw [if_neg (by (repeat (first | rw [ByteArray.size_append] | rw [mkS_size] | rw [sz_one])); omega)]; go_simp)
      refine hK.out _ _ ?hS4 (fun hHeld' => ?rest4)
      case hS4 => ((try dsimp only); assumption)
      clear hK K
      (first | simp only [pA, pZ, pS] | simp only [pN] | skip)
      clear hHeld
      have hHeld := hHeld'
      clear hHeld'
      refine wpAnyH_ready (rs := [9]) (by kernel_rfl) (by simp) ?_
      refine AllReadyH.cons (o := ?o5) ?ho5 (fun K hK => ?step5) AllReadyH.nil
      case ho5 => (simp only [List.getElem?_toArray, List.getElem?_cons_succ, List.getElem?_cons_zero]; rfl)
      go_simp
      (rw [if_neg (by (repeat (first | rw [ByteArray.size_append] | rw [mkS_size] | rw [sz_one])); omega)]; go_simp)
      refine hK.out _ _ ?hS5 (fun hHeld' => ?rest5)
      case hS5 => ((try dsimp only); assumption)
      clear hK K
      (first | simp only [pA, pZ, pS] | simp only [pN] | skip)
      clear hHeld
      have hHeld := hHeld'
      clear hHeld'
      refine wpAnyH_ready (rs := [10]) (by kernel_rfl) (by simp) ?_
      refine AllReadyH.cons (o := ?o6) ?ho6 (fun K hK => ?step6) AllReadyH.nil
      case ho6 => (simp only [List.getElem?_toArray, List.getElem?_cons_succ, List.getElem?_cons_zero]; rfl)
      go_simp
      (rw [if_neg (by (repeat (first | rw [ByteArray.size_append] | rw [mkS_size] | rw [sz_one])); omega)]; go_simp)
      refine hK.out _ _ ?hS6 (fun hHeld' => ?rest6)
      case hS6 => ((try dsimp only); assumption)
      clear hK K
      (first | simp only [pA, pZ, pS] | simp only [pN] | skip)
      clear hHeld
      have hHeld := hHeld'
      clear hHeld'
      refine tk 11 hHeld ?_
      (try simp only [pA, pZ, pS])
      refine wpAnyH_done (by kernel_rfl) ?_ _
      refine NoPanic.normal ?_
      go_wp2
      go_ret
      refine ⟨?_, (hA _).trans ((hb1.trans ((Below.refl _ _).drew.trans (hb'.mono (by simp))|>.mono hb1.size)).mono (hA _).size)⟩
      rw [← HX.out, ← HOB.out]
      exact congrArg (fun x => Ending.returned (.string x)) (cat5 ob xo)
    · have hb : isE t.var = true := hv
      have hV : ∀ w0, Calls Tryz.prog 23 #[.agg #[.int .i64 t.val.kind, .int .i64 t.val.num, .string t.val.sym]] w0 fun e w' => e = .returned (.string (mkS xo)) ∧ Below w0.heap.size w0 w' := fun w0 => by
        have e : txO t = txV t.val := by unfold txO; rw [hb]; rfl
        rw [hxo, e]
        exact l2Val_txt t.val w0 hn
      have HV := hidX hV
      clear hV hxo hb
      go_enter Tryz.func11, Tryz.ntmps11
      go_wp2_with (go_at_call 23; refine (HV.out _).mono ?_; rintro e w1 ⟨rfl, hb1⟩; have z1 : w1.cell? ⟨w.heap.size, 1, none⟩ = some (.int .i64 ((k : Int) + 1)) := cell_below hb1 (by simp [go_sem]); have z2 : w1.cell? ⟨w.heap.size, 2, none⟩ = some (.string t.var) := cell_below hb1 (by simp [go_sem]))
      clear z2 hv
      have z3 : ∀ w', Below w1.heap.size w1 w' → w'.cell? ⟨w.heap.size, 1, none⟩ = some (.int .i64 ((k : Int) + 1)) := fun w' h => cell_below h z1
      have ZZ := hidX z3
      obtain ⟨ob, hob⟩ : ∃ o, o = opTx.getD k [] := ⟨_, rfl⟩
      have HOB := hidX hob
      rw [← hob] at hso
      have TA : Hid (∀ w0, w0.heap.size = w1.heap.size → Calls Tryz.prog 24 #[] w0 fun e w' => e = .returned (.slice (some ⟨w1.heap.size, 0, none⟩) 6 6) ∧ w'.cell? ⟨w1.heap.size, k, none⟩ = some (.string (mkS ob)) ∧ Below w0.heap.size w0 w') := fun w0 h0 => (l2Tests_txt w0).mono fun e w' ⟨h1, h2, h3⟩ => ⟨by rw [← h0]; exact h1, by have := h2 k hk6; rw [Nat.zero_add, ← HOB.out, h0] at this; exact this, h3⟩
      clear hob z3
      have i0 : (0 : Int) ≤ (k : Int) := by omega
      have i6 : (k : Int) < 6 := by omega
      have i7 : IntKind.i64.wrap ((k : Int) + 1 - 1) = (k : Int) := by rw [show (k : Int) + 1 - 1 = (k : Int) by omega]; exact wrap_small _ (by omega) (by omega)
      have i8 : IntKind.i64.wrap (k : Int) = (k : Int) := wrap_small _ (by omega) (by omega)
      refine wp_region_noPanic ?_
      refine wp_region_held_drew (S := (fun w' => w'.cell? ⟨w.heap.size, 1, none⟩ = some (.int .i64 ((k : Int) + 1)))) (by kernel_rfl) ?_ (fun hHeld => ?_)
      · (try dsimp only)
        exact z1
      refine tk 1 hHeld ?_
      (try simp only [pA, pZ, pS])
      refine tk 2 hHeld ?_
      (try simp only [pA, pZ, pS])
      refine tk 3 hHeld ?_
      (try simp only [pA, pZ, pS])
      refine tk 8 hHeld ?_
      (try simp only [pA, pZ, pS])
      refine wpAnyH_ready (rs := [0]) (by kernel_rfl) (by simp) ?_
      refine AllReadyH.cons (o := ?o7) ?ho7 (fun K hK => ?step7) AllReadyH.nil
      case ho7 => (simp only [List.getElem?_toArray, List.getElem?_cons_zero]; rfl)
      go_simp
      go_at_call 24; refine (TA.out _ (by simp)).mono ?_; rintro e' w' ⟨rfl, hc', hb'⟩; (try go_wp2_with fail)
      refine hK.out _ _ ?hS7 (fun hHeld' => ?rest7)
      case hS7 => ((try dsimp only); exact cell_below hb' (by assumption))
      clear hK K
      (first | simp only [pA, pZ, pS] | simp only [pN] | skip)
      clear hHeld
      have hHeld := hHeld'
      clear hHeld'
      refine tk 4 hHeld ?_
      (try simp only [pA, pZ, pS])
      refine wpAnyH_ready (rs := [5]) (by kernel_rfl) (by simp) ?_
      refine AllReadyH.cons (o := ?o8) ?ho8 (fun K hK => ?step8) AllReadyH.nil
      case ho8 => (simp only [List.getElem?_toArray, List.getElem?_cons_succ, List.getElem?_cons_zero]; rfl)
      go_simp
      refine hK.out _ _ ?hS8 (fun hHeld' => ?rest8)
      case hS8 => ((try dsimp only); assumption)
      clear hK K
      (first | simp only [pA, pZ, pS] | simp only [pN] | skip)
      clear hHeld
      have hHeld := hHeld'
      clear hHeld'
      refine wpAnyH_ready (rs := [6]) (by kernel_rfl) (by simp) ?_
      refine AllReadyH.cons (o := ?o9) ?ho9 (fun K hK => ?step9) AllReadyH.nil
      case ho9 => (simp only [List.getElem?_toArray, List.getElem?_cons_succ, List.getElem?_cons_zero]; rfl)
      go_simp
      (rw [if_neg (by (repeat (first | rw [ByteArray.size_append] | rw [mkS_size] | rw [sz_one])); omega)]; go_simp)
      refine hK.out _ _ ?hS9 (fun hHeld' => ?rest9)
      case hS9 => ((try dsimp only); assumption)
      clear hK K
      (first | simp only [pA, pZ, pS] | simp only [pN] | skip)
      clear hHeld
      have hHeld := hHeld'
      clear hHeld'
      refine wpAnyH_ready (rs := [7]) (by kernel_rfl) (by simp) ?_
      refine AllReadyH.cons (o := ?o10) ?ho10 (fun K hK => ?step10) AllReadyH.nil
      case ho10 => (simp only [List.getElem?_toArray, List.getElem?_cons_succ, List.getElem?_cons_zero]; rfl)
      go_simp
      (rw [if_neg (by (repeat (first | rw [ByteArray.size_append] | rw [mkS_size] | rw [sz_one])); omega)]; go_simp)
      refine hK.out _ _ ?hS10 (fun hHeld' => ?rest10)
      case hS10 => ((try dsimp only); assumption)
      clear hK K
      (first | simp only [pA, pZ, pS] | simp only [pN] | skip)
      clear hHeld
      have hHeld := hHeld'
      clear hHeld'
      refine wpAnyH_ready (rs := [9]) (by kernel_rfl) (by simp) ?_
      refine AllReadyH.cons (o := ?o11) ?ho11 (fun K hK => ?step11) AllReadyH.nil
      case ho11 => (simp only [List.getElem?_toArray, List.getElem?_cons_succ, List.getElem?_cons_zero]; rfl)
      go_simp
      (rw [if_neg (by (repeat (first | rw [ByteArray.size_append] | rw [mkS_size] | rw [sz_one])); omega)]; go_simp)
      refine hK.out _ _ ?hS11 (fun hHeld' => ?rest11)
      case hS11 => ((try dsimp only); assumption)
      clear hK K
      (first | simp only [pA, pZ, pS] | simp only [pN] | skip)
      clear hHeld
      have hHeld := hHeld'
      clear hHeld'
      refine wpAnyH_ready (rs := [10]) (by kernel_rfl) (by simp) ?_
      refine AllReadyH.cons (o := ?o12) ?ho12 (fun K hK => ?step12) AllReadyH.nil
      case ho12 => (simp only [List.getElem?_toArray, List.getElem?_cons_succ, List.getElem?_cons_zero]; rfl)
      go_simp
      (rw [if_neg (by (repeat (first | rw [ByteArray.size_append] | rw [mkS_size] | rw [sz_one])); omega)]; go_simp)
      refine hK.out _ _ ?hS12 (fun hHeld' => ?rest12)
      case hS12 => ((try dsimp only); assumption)
      clear hK K
      (first | simp only [pA, pZ, pS] | simp only [pN] | skip)
      clear hHeld
      have hHeld := hHeld'
      clear hHeld'
      refine tk 11 hHeld ?_
      (try simp only [pA, pZ, pS])
      refine wpAnyH_done (by kernel_rfl) ?_ _
      refine NoPanic.normal ?_
      go_wp2
      go_ret
      refine ⟨?_, (hA _).trans ((hb1.trans ((Below.refl _ _).drew.trans (hb'.mono (by simp))|>.mono hb1.size)).mono (hA _).size)⟩
      rw [← HX.out, ← HOB.out]
      exact congrArg (fun x => Ending.returned (.string x)) (cat5 ob xo)
  · have HX : Hid ([95] = txT t) := show _ = txT t from by unfold txT; rw [if_neg k1, if_neg k2, if_neg k3]
    go_enter Tryz.func11, Tryz.ntmps11
    go_wp2
    go_ret
    exact ⟨ret_txt HX.out, hA _⟩
end Go.Proofs.YtgkoiojelckblaaGreatDoor
