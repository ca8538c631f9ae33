/-
  OUR OWN TEXT. Tx1, Tx3, Mo0, Tx12, Sx1, Sx2, Ms1, Tx2, Tx4, one behind the other.
-/
import Derived.Test.YtdhpoagjmiligaaGreatDoorKak
import Derived.Lib.Join
import Derived.Lib.ItoaLen
import Derived.Test.YtdhpoagjmiligaaGreatDoorKam
import Derived.Lib.ItoaMem
import Derived.Laws.BytesArg
import Derived.Lib.ParseIntB
import Derived.Deep.DeepCutAuto
import Derived.Laws.Strings
import Derived.Test.YtdhpoagjmiligaaGreatDoorHwm
namespace Go.Proofs.YtdhpoagjmiligaaGreatDoor

abbrev Bs := List UInt8
def bsOf (s : ByteArray) : Bs := s.data.toList
def mkS (l : Bs) : ByteArray := ⟨l.toArray⟩
theorem bs_mkS (l : Bs) : bsOf (mkS l) = l := rfl
theorem mkS_bs (s : ByteArray) : mkS (bsOf s) = s := by
  cases s
  simp [mkS, bsOf]
theorem mkS_app (a b : Bs) : mkS a ++ mkS b = mkS (a ++ b) := by
  apply ByteArray.ext
  simp [mkS, ByteArray.data_append]
theorem mkS_size (l : Bs) : (mkS l).size = l.length := by simp [mkS, ByteArray.size]
theorem bs_length (s : ByteArray) : (bsOf s).length = s.size := Array.length_toList
def opTx : List Bs := [[61], [33, 61], [60], [62], [60, 61], [62, 61]]
def numOk (n : Int) : Prop := -9223372036854775808 ≤ n ∧ n ≤ 9223372036854775807
theorem gSym_le {l : Bs} (h : gSym l = true) : l.length ≤ 20 := by
  unfold gSym at h
  simp only [Bool.and_eq_true, decide_eq_true_eq] at h
  omega
theorem gSym_sz {s : ByteArray} (h : gSym s.data.toList = true) : s.size ≤ 20 := by
  have := gSym_le h
  rw [← bs_length]
  exact this
end Go.Proofs.YtdhpoagjmiligaaGreatDoor

namespace Go.Proofs.YtdhpoagjmiligaaGreatDoor
open Go.RowKit
attribute [local go_sem ↓] Go.wp_at_zero Go.wp_at_succ

theorem hidX {p : Prop} (h : p) : Hid p := h
theorem run_convT (c : Int) (w : World) (b : Nat) (h : w.cell? ⟨b, 0, none⟩ = some (.int .u8 c)) : (convert 22 9 (.slice (some ⟨b, 0, none⟩) 1 1)).run Tryz.prog w = .ok (.string (mkS [UInt8.ofNat c.toNat])) w :=
  run_convert_bytes_arg (P := Tryz.prog) _ 22 5 Tryz.underlying22 Tryz.underlying5 b 0 1 1 [c] rfl (fun i hi => by
    obtain rfl : i = 0 := by omega
    simpa using h) 9 Tryz.underlying9

/-- What is still to be written of a number. -/
def decRest (m : Nat) (f : Bool) : Bs := if m = 0 ∧ f = false then [] else Lib.decDigits m
theorem decRest_step {m : Nat} {f : Bool} (h : 0 < m ∨ f = true) (acc : Bs) : decRest m f ++ acc = decRest (m / 10) false ++ (UInt8.ofNat (48 + m % 10) :: acc) := by
  have h0 : decRest m f = Lib.decDigits m := by
    unfold decRest
    rw [if_neg]
    rintro ⟨rfl, rfl⟩
    rcases h with h | h
    · omega
    · cases h
  rw [h0]
  by_cases hm : m < 10
  · have h1 : m / 10 = 0 := by omega
    have h2 : m % 10 = m := by omega
    rw [Lib.decDigits, dif_pos hm, h1, h2]
    rfl
  · have h1 : decRest (m / 10) false = Lib.decDigits (m / 10) := by
      unfold decRest
      rw [if_neg]
      rintro ⟨h, _⟩
      omega
    rw [Lib.decDigits, dif_neg hm, h1]
    simp
theorem decRest_done (acc : Bs) : decRest 0 false ++ acc = acc := rfl
theorem decRest_true (m : Nat) : decRest m true = Lib.decDigits m := by
  unfold decRest
  rw [if_neg]
  rintro ⟨_, h⟩
  cases h

theorem ret_txt {a b : Bs} (h : a = b) : Ending.returned (.string (mkS a)) = .returned (.string (mkS b)) := by rw [h]
theorem size_one (s : ByteArray) (acc : Bs) (h1 : s.size ≤ 100000000000) (h : acc.length ≤ 100000000000) : ¬ 9223372036854775807 < s.size + (mkS acc).size := by
  rw [mkS_size]
  omega
theorem size_two (x : UInt8) (acc : Bs) (h : acc.length ≤ 100000000000) : ¬ 9223372036854775807 < (mkS [x]).size + (mkS acc).size := by
  rw [mkS_size, mkS_size]
  simp only [List.length_cons, List.length_nil]
  omega
theorem decRest_short {m n : Nat} {f : Bool} {acc : Bs} (h : decRest m f ++ acc = Lib.decDigits n) (hn : n ≤ 9223372036854775808) : acc.length ≤ 100000000000 := by
  have h1 := congrArg List.length h
  rw [List.length_append, Lib.decDigits_length] at h1
  have h2 := Lib.nDigits_le20 n (by omega)
  omega
theorem byte_add (m : Nat) : (48 : UInt8) + UInt8.ofNat (m % 10) = UInt8.ofNat (48 + m % 10) := by
  rw [UInt8.ofNat_add]
  rfl

set_option maxHeartbeats 1600000 in
theorem l1Dec_pos (n : Nat) (w : World) (hn : n ≤ 9223372036854775807) : Calls Tryz.prog 99 #[.int .i64 (n : Int)] w fun e w' => e = .returned (.string (mkS (Lib.decDigits n))) ∧ Below w.heap.size w w' := by
  have hk0 : ¬ (n : Int) < 0 := by omega
  have HC := hidX run_convT
  go_enter Tryz.func99, Tryz.ntmps99
  go_wp2
  go_loopw [0, 4, 5] (fun nv sv fv wr => ∃ (m : Nat) (acc : Bs) (f : Bool), m ≤ n ∧ nv = .int .i64 (m : Int) ∧ sv = .string (mkS acc) ∧ fv = .bool f ∧ decRest m f ++ acc = Lib.decDigits n ∧ Below w.heap.size w wr) (fun nv _ fv _ => (intOf nv).toNat * 2 + (match fv with | .bool true => 1 | _ => 0))
  case atStart => exact ⟨n, [], true, Nat.le_refl _, rfl, rfl, rfl, by rw [decRest_true, List.append_nil], Below.refl _ _⟩
  case round =>
    obtain ⟨m, acc, f, hm, rfl, rfl, rfl, hd, hb⟩ := hrel
    have HD := hidX hd
    have hs2 : ∀ x : UInt8, ¬ 9223372036854775807 < (mkS [x]).size + (mkS acc).size := fun x => size_two x acc (decRest_short hd (by omega))
    clear hd
    have hcv := HC.out
    have hA : ∀ o, Below w.heap.size w (wr.alloc o) := fun o => hb.alloc hb.size _
    cases f
    · by_cases h0 : 0 < m
      · have h0' : (0 : Int) < (m : Int) := by omega
        go_wp2
        refine ⟨⟨m / 10, UInt8.ofNat (48 + m % 10) :: acc, false, by omega, by go_num, by rw [mkS_app, byte_add]; rfl, rfl, by rw [← decRest_step (.inl h0)]; exact HD.out, hA _⟩, ?_⟩
        simp [intOf]
        omega
      · have h0' : ¬ (0 : Int) < (m : Int) := by omega
        obtain rfl : m = 0 := by omega
        go_wp2
        go_ret
        exact ⟨ret_txt (by rw [← HD.out, decRest_done]), hb⟩
    · go_wp2
      refine ⟨⟨m / 10, UInt8.ofNat (48 + m % 10) :: acc, false, by omega, by go_num, by rw [mkS_app, byte_add]; rfl, rfl, by rw [← decRest_step (.inr rfl)]; exact HD.out, hA _⟩, ?_⟩
      simp [intOf]
      omega

set_option maxHeartbeats 1600000 in
theorem l1Dec_neg (n : Nat) (w : World) (h1 : 1 ≤ n) (hn : n ≤ 9223372036854775808) : Calls Tryz.prog 99 #[.int .i64 (-(n : Int))] w fun e w' => e = .returned (.string (mkS (45 :: Lib.decDigits n))) ∧ Below w.heap.size w w' := by
  have hk0 : -(n : Int) < 0 := by omega
  have HC := hidX run_convT
  go_enter Tryz.func99, Tryz.ntmps99
  go_wp2
  go_loopw [0, 3] (fun nv sv wr => ∃ (m : Nat) (acc : Bs), m ≤ n ∧ nv = .int .i64 (-(m : Int)) ∧ sv = .string (mkS acc) ∧ decRest m false ++ acc = Lib.decDigits n ∧ Below w.heap.size w wr) (fun nv _ _ => (-(intOf nv)).toNat)
  case atStart => exact ⟨n, [], Nat.le_refl _, rfl, rfl, by rw [List.append_nil]; unfold decRest; rw [if_neg (by omega)], Below.refl _ _⟩
  case round =>
    obtain ⟨m, acc, hm, rfl, rfl, hd, hb⟩ := hrel
    have HD := hidX hd
    have hs2 : ∀ x : UInt8, ¬ 9223372036854775807 < (mkS [x]).size + (mkS acc).size := fun x => size_two x acc (decRest_short hd (by omega))
    have hs3 : ¬ 9223372036854775807 < ({ data := #[45] } : ByteArray).size + (mkS acc).size := size_one _ acc (by decide) (decRest_short hd (by omega))
    clear hd
    have hcv := HC.out
    have hA : ∀ o, Below w.heap.size w (wr.alloc o) := fun o => hb.alloc hb.size _
    by_cases h0 : 0 < m
    · have h0' : -(m : Int) < 0 := by omega
      go_wp2
      refine ⟨⟨m / 10, UInt8.ofNat (48 + m % 10) :: acc, by omega, by go_num, by rw [mkS_app, byte_add]; rfl, by rw [← decRest_step (.inl h0)]; exact HD.out, hA _⟩, ?_⟩
      simp [intOf]
      omega
    · have h0' : ¬ -(m : Int) < 0 := by omega
      obtain rfl : m = 0 := by omega
      go_wp2
      go_ret
      refine ⟨?_, hb⟩
      rw [← HD.out, decRest_done]
      exact congrArg (fun x => Ending.returned (.string x)) (mkS_app [45] acc)

theorem l1Dec_num (n : Int) (w : World) (hn : numOk n) : Calls Tryz.prog 99 #[.int .i64 n] w fun e w' => e = .returned (.string (mkS (Lib.itoa n))) ∧ Below w.heap.size w w' := by
  obtain ⟨h0, h1⟩ := hn
  by_cases h : n < 0
  · obtain ⟨u, rfl⟩ : ∃ u : Nat, n = -(u : Int) := ⟨n.natAbs, by omega⟩
    rw [Lib.itoa_neg u (by omega)]
    exact l1Dec_neg u w (by omega) (by omega)
  · obtain ⟨u, rfl⟩ : ∃ u : Nat, n = (u : Int) := ⟨n.natAbs, by omega⟩
    rw [Lib.itoa_nonneg u]
    exact l1Dec_pos u w (by omega)

end Go.Proofs.YtdhpoagjmiligaaGreatDoor

namespace Go.Proofs.YtdhpoagjmiligaaGreatDoor
open Go.RowKit

/-- w' is w but for block b and new ones. -/
structure MkO (b : Option Nat) (w w' : World) : Prop where
  rest : Below 0 w w'
  block : ∀ g, g < w.heap.size → b ≠ some g → w'.heap[g]? = w.heap[g]?
theorem MkO.refl (b : Option Nat) (w : World) : MkO b w w := ⟨Below.refl _ _, fun _ _ _ => rfl⟩
theorem MkO.trans {b : Option Nat} {u v w : World} (h : MkO b u v) (k : MkO b v w) : MkO b u w :=
  ⟨h.rest.trans k.rest, fun g hg hs => (k.block g (Nat.lt_of_lt_of_le hg h.rest.size) hs).trans (h.block g hg hs)⟩
theorem MkO.of_below {b : Option Nat} {u v : World} (h : Below u.heap.size u v) : MkO b u v := ⟨h.mono (Nat.zero_le _), fun g hg _ => h.block g hg⟩
theorem MkO.set {w : World} {g o : Nat} (x : Value) : MkO (some g) w (w.setCell ⟨g, o, none⟩ x) :=
  ⟨(Below.refl _ _).setCell (Nat.zero_le _) _, fun h _ hs => Below.heap_setCell _ _ _ _ (fun e => hs (by rw [e]))⟩
theorem MkO.below {b : Option Nat} {w w' : World} {B : Nat} (h : MkO b w w') (hB : B ≤ w.heap.size) (hs : ∀ g, b = some g → B ≤ g) : Below B w w' :=
  ⟨h.rest.os, h.rest.tape, h.rest.output, h.rest.size, fun k hk => h.block k (by omega) (fun e => by have := hs k e; omega)⟩
end Go.Proofs.YtdhpoagjmiligaaGreatDoor

namespace Go.Proofs.YtdhpoagjmiligaaGreatDoor
open Go.RowKit
attribute [local go_sem ↓] Go.wp_at_zero Go.wp_at_succ

/-- Bytes that lie in memory. -/
def BysAt (w : World) (a : Option Addr) (l : Bs) : Prop := ∀ (j : Nat) x, l[j]? = some x → ∃ b o, a = some ⟨b, o, none⟩ ∧ b < w.heap.size ∧ w.cell? ⟨b, o + j, none⟩ = some (.int .u8 (x.toNat : Int))
theorem BysAt.below {w w' : World} {a : Option Addr} {l : Bs} (h : BysAt w a l) (hb : Below w.heap.size w w') : BysAt w' a l := fun j x hx => by
  obtain ⟨b, o, e, hl, hc⟩ := h j x hx
  exact ⟨b, o, e, Nat.lt_of_lt_of_le hl hb.size, cell_below hb hc⟩
def byV (l : Bs) : List Value := l.map fun x => Value.int .u8 (x.toNat : Int)
theorem byV_len (l : Bs) : (byV l).length = l.length := List.length_map _
theorem BysAt.owns {w : World} {base n : Nat} {a : Option Addr} {c : Nat} {l : Bs} (h : w.ownsRow base 5 1 (.slice a n c) n (byV l)) : BysAt w a l := fun j x hx => by
  obtain ⟨g, hg, _, hc, _⟩ := owns_cell h (j := j) (x := .int .u8 (x.toNat : Int)) (by simp [byV, hx])
  exact ⟨g, 0, hg, World.block_lt_of_cell? _ _ hc, by rw [Nat.zero_add]; exact hc⟩

set_option maxHeartbeats 800000 in
theorem eqByteS_same (a a' : Option Addr) (c c' : Nat) (l : Bs) (w : World) (hv : BysAt w a l) (hv' : BysAt w a' l) (hl : l.length ≤ 1000000000000) :
    Calls Tryz.prog 9 #[.slice a l.length c, .slice a' l.length c'] w fun e w' => e = .returned (.bool true) ∧ Below w.heap.size w w' := by
  go_enter Tryz.func9, Tryz.ntmps9
  go_wp2
  go_loopw [5] (fun i wr => ∃ (j : Nat), j ≤ l.length ∧ i = .int .i64 (j : Int) ∧ Below w.heap.size w wr) (fun i _ => l.length - (intOf i).toNat)
  case atStart => exact ⟨0, by omega, rfl, Below.refl _ _⟩
  case round =>
    obtain ⟨j, hj, rfl, hb⟩ := hrel
    by_cases hjl : j < l.length
    · obtain ⟨x, hx⟩ : ∃ x, l[j]? = some x := ⟨l[j], by simp [hjl]⟩
      obtain ⟨b, o, rfl, _, d0⟩ := (hv.below hb) j x hx
      obtain ⟨b', o', rfl, _, d0'⟩ := (hv'.below hb) j x hx
      have i0 : (0 : Int) ≤ (j : Int) := by omega
      have i1 : (j : Int) < (l.length : Int) := by omega
      have hB := hb.drew
      clear hv hv' hx
      go_wp2
      first
      | (go_region)
      | fail
      all_goals go_wp2
      all_goals go_roundw
      all_goals first
        | exact ⟨j + 1, by omega, by go_num, hB⟩
        | (simp [intOf]; omega)
    · have i1 : ¬ (j : Int) < (l.length : Int) := by omega
      go_wp2
      go_ret
      exact ⟨rfl, hb⟩
/-- What marks are. -/
def mkBy (k : Int) (n : Nat) : List Value := (List.range n).map fun (j : Nat) => Value.int .u8 ((k + (j : Int)) % 256)
theorem mkBy_len (k : Int) (n : Nat) : (mkBy k n).length = n := by simp [mkBy]
theorem mkBy_succ (k : Int) (n : Nat) : mkBy k (n + 1) = mkBy k n ++ [.int .u8 ((k + (n : Int)) % 256)] := by simp [mkBy, List.range_succ]
end Go.Proofs.YtdhpoagjmiligaaGreatDoor

namespace Go.Proofs.YtdhpoagjmiligaaGreatDoor

def isDg (b : UInt8) : Bool := decide (48 ≤ b.toNat) && decide (b.toNat ≤ 57)
def dFrom (acc : Nat) (l : Bs) : Nat := l.foldl (fun a b => a * 10 + (b.toNat - 48)) acc
def dVal (l : Bs) : Nat := dFrom 0 l
/-- Digits as a number is written: no nought ahead but of nought itself. -/
def canon (l : Bs) : Prop := l ≠ [] ∧ l.all isDg = true ∧ (l.head? ≠ some 48 ∨ l = [48])
theorem dFrom_snoc (acc : Nat) (l : Bs) (b : UInt8) : dFrom acc (l ++ [b]) = dFrom acc l * 10 + (b.toNat - 48) := by simp [dFrom]
theorem dFrom_cons (acc : Nat) (b : UInt8) (l : Bs) : dFrom acc (b :: l) = dFrom (acc * 10 + (b.toNat - 48)) l := by
  unfold dFrom
  rw [List.foldl_cons]
theorem dg_toNat {m : Nat} (h : m < 10) : (UInt8.ofNat (48 + m)).toNat = 48 + m := by
  rw [UInt8.toNat_ofNat']
  exact Nat.mod_eq_of_lt (by omega)
theorem dVal_digits : ∀ u : Nat, dVal (Lib.decDigits u) = u := by
  intro u
  induction u using Nat.strongRecOn with
  | _ u ih =>
    rw [Lib.decDigits]
    by_cases h : u < 10
    · rw [dif_pos h]
      unfold dVal dFrom
      rw [List.foldl_cons, List.foldl_nil, dg_toNat h]
      omega
    · rw [dif_neg h, dVal, dFrom_snoc, dg_toNat (by omega)]
      have := ih (u / 10) (by omega)
      unfold dVal at this
      rw [this]
      omega
theorem isDg_of {m : Nat} (h : m < 10) : isDg (UInt8.ofNat (48 + m)) = true := by
  unfold isDg
  rw [dg_toNat h]
  simp
  omega
theorem digits_all : ∀ u : Nat, (Lib.decDigits u).all isDg = true := by
  intro u
  induction u using Nat.strongRecOn with
  | _ u ih =>
    rw [Lib.decDigits]
    by_cases h : u < 10
    · rw [dif_pos h]
      rw [List.all_cons, isDg_of h]
      rfl
    · rw [dif_neg h, List.all_append, ih (u / 10) (by omega)]
      rw [List.all_cons, isDg_of (by omega)]
      rfl
theorem digits_ne (u : Nat) : Lib.decDigits u ≠ [] := by
  intro h
  have := Lib.decDigits_length u
  rw [h] at this
  have := Lib.nDigits_pos u
  simp at *
  omega
theorem digits_head : ∀ u : Nat, 0 < u → (Lib.decDigits u).head? ≠ some 48 := by
  intro u
  induction u using Nat.strongRecOn with
  | _ u ih =>
    intro h0
    rw [Lib.decDigits]
    by_cases h : u < 10
    · rw [dif_pos h]
      intro e
      have e' : UInt8.ofNat (48 + u) = 48 := by simpa using e
      have := congrArg UInt8.toNat e'
      rw [dg_toNat h] at this
      have h48 : (48 : UInt8).toNat = 48 := rfl
      omega
    · rw [dif_neg h]
      have h1 := ih (u / 10) (by omega) (by omega)
      have h2 := digits_ne (u / 10)
      cases hd : Lib.decDigits (u / 10) with
      | nil => exact absurd hd h2
      | cons x r =>
        rw [hd] at h1
        simpa using h1
theorem dg_back {b : UInt8} (h : isDg b = true) : UInt8.ofNat (48 + (b.toNat - 48)) = b := by
  unfold isDg at h
  simp at h
  rw [show 48 + (b.toNat - 48) = b.toNat by omega]
  simp
theorem dg_lt {b : UInt8} (h : isDg b = true) : b.toNat - 48 < 10 := by
  unfold isDg at h
  simp at h
  omega
theorem dFrom_le : ∀ (l : Bs) (acc : Nat), acc ≤ dFrom acc l
  | [], acc => Nat.le_refl _
  | b :: l, acc => by
    rw [dFrom_cons]
    have := dFrom_le l (acc * 10 + (b.toNat - 48))
    omega
/-- Digits in the right form are what their number is written as. -/
theorem digits_dVal : ∀ (n : Nat) (l : Bs), l.length = n → canon l → Lib.decDigits (dVal l) = l := by
  intro n
  induction n with
  | zero => exact fun l h hc => absurd (List.eq_nil_of_length_eq_zero h) hc.1
  | succ n ih =>
    intro l hl hc
    obtain ⟨hne, hall, hh⟩ := hc
    obtain ⟨r, b, rfl⟩ : ∃ r b, l = r ++ [b] := ⟨l.dropLast, l.getLast hne, (List.dropLast_concat_getLast hne).symm⟩
    have hrl : r.length = n := by simpa using hl
    rw [List.all_append] at hall
    simp at hall
    obtain ⟨hra, hb⟩ := hall
    cases r with
    | nil =>
      simp only [List.nil_append, dVal, dFrom, List.foldl_cons, List.foldl_nil, Nat.zero_mul, Nat.zero_add]
      rw [Lib.decDigits, dif_pos (dg_lt hb)]
      rw [dg_back hb]
    | cons x r =>
      have hx48 : x ≠ 48 := by
        rcases hh with hh | hh
        · simpa using hh
        · simp at hh
      have hcr : canon (x :: r) := ⟨by simp, by simpa using hra, .inl (by simpa using hx48)⟩
      have h1 := ih (x :: r) hrl hcr
      have hpos : 0 < dVal (x :: r) := by
        have hx : isDg x = true := hra x (by simp)
        have h2 : 0 < x.toNat - 48 := by
          unfold isDg at hx
          simp at hx
          have h3 : x.toNat ≠ 48 := fun e => hx48 (UInt8.toNat_inj.1 (by rw [e]; rfl))
          omega
        unfold dVal
        rw [dFrom_cons]
        have := dFrom_le r (0 * 10 + (x.toNat - 48))
        omega
      have hd := dg_lt hb
      have e : dVal (x :: r ++ [b]) = dVal (x :: r) * 10 + (b.toNat - 48) := dFrom_snoc _ _ _
      rw [e, Lib.decDigits, dif_neg (by omega)]
      rw [show (dVal (x :: r) * 10 + (b.toNat - 48)) / 10 = dVal (x :: r) by omega, show (dVal (x :: r) * 10 + (b.toNat - 48)) % 10 = b.toNat - 48 by omega, h1, dg_back hb]

/-- What a word says as a number. -/
def spell (s : Bs) : Int := match s with
  | [] => 0
  | b :: d => if b = 45 then -(dVal d : Int) else (dVal (b :: d) : Int)
def numOf (s : Bs) : Option Int := if decide (-9223372036854775808 ≤ spell s) && (decide (spell s ≤ 9223372036854775807) && decide (Lib.itoa (spell s) = s)) then some (spell s) else none
theorem digit_ne45 {b : UInt8} (h : isDg b = true) : b ≠ 45 := by
  rintro rfl
  exact absurd h (by decide)
theorem spell_digits (u : Nat) : spell (Lib.decDigits u) = (u : Int) := by
  have h1 := digits_ne u
  have h2 := digits_all u
  have h3 := dVal_digits u
  cases hd : Lib.decDigits u with
  | nil => exact absurd hd h1
  | cons b d =>
    rw [hd] at h2 h3
    simp at h2
    unfold spell
    simp only
    rw [if_neg (digit_ne45 h2.1), h3]
theorem spell_itoa (n : Int) : spell (Lib.itoa n) = n := by
  unfold Lib.itoa
  by_cases h : n < 0
  · rw [if_pos h]
    unfold spell
    simp only [if_pos]
    rw [dVal_digits]
    omega
  · rw [if_neg h, spell_digits]
    omega
theorem numOf_itoa {n : Int} (hn : numOk n) : numOf (Lib.itoa n) = some n := by
  have e := spell_itoa n
  unfold numOf
  rw [e]
  simp [hn.1, hn.2]
theorem numOf_some {s : Bs} {n : Int} (h : numOf s = some n) : s = Lib.itoa n ∧ numOk n := by
  unfold numOf at h
  split at h
  · rename_i hc
    simp only [Bool.and_eq_true, decide_eq_true_eq] at hc
    injection h with h
    subst h
    exact ⟨hc.2.2.symm, hc.1, hc.2.1⟩
  · cases h

/-- The program's way. -/
def stripM (s : Bs) : Bs := if s.head? = some 45 then s.tail else s
theorem uintM_ok : ∀ (l : Bs) (acc : Nat), l.all isDg = true → acc ≤ 2 ^ 64 - 1 → Lib.parseUintM (2 ^ 64 - 1) acc l = if dFrom acc l ≤ 2 ^ 64 - 1 then .ok (dFrom acc l) else .range
  | [], acc, _, h => by
    have e : dFrom acc [] = acc := rfl
    rw [e, Lib.parseUintM, if_pos (by omega)]
  | b :: l, acc, ha, h => by
    simp at ha
    have hb := ha.1
    have hd := dg_lt hb
    unfold isDg at hb
    simp at hb
    rw [Lib.parseUintM, if_pos hb, dFrom_cons]
    have hle := dFrom_le l (acc * 10 + (b.toNat - 48))
    by_cases h1 : 1844674407370955162 ≤ acc
    · rw [if_pos h1, if_neg (by omega)]
    · rw [if_neg h1]
      by_cases h2 : 2 ^ 64 - 1 < acc * 10 + (b.toNat - 48)
      · rw [if_pos h2, if_neg (by omega)]
      · rw [if_neg h2]
        exact uintM_ok l _ (by simpa using ha.2) (by omega)
theorem itoa_pos {n : Int} (h : ¬ n < 0) : Lib.itoa n = Lib.decDigits n.toNat := by unfold Lib.itoa; rw [if_neg h]
theorem itoa_neg' {n : Int} (h : n < 0) : Lib.itoa n = 45 :: Lib.decDigits n.natAbs := by unfold Lib.itoa; rw [if_pos h]
theorem digits_not45 (u : Nat) : (Lib.decDigits u).head? ≠ some 45 := by
  have h2 := digits_all u
  cases hd : Lib.decDigits u with
  | nil => simp
  | cons b d =>
    rw [hd] at h2
    simp at h2
    simpa using digit_ne45 h2.1
theorem strip_itoa (n : Int) : stripM (Lib.itoa n) = Lib.decDigits n.natAbs := by
  unfold stripM
  by_cases h : n < 0
  · rw [itoa_neg' h]
    simp
  · rw [itoa_pos h, if_neg (digits_not45 _), show n.toNat = n.natAbs by omega]
theorem numOf_zero : numOf [48] = some 0 := by
  have e : Lib.itoa 0 = [48] := by rw [itoa_pos (by omega), Lib.decDigits]; rfl
  have := numOf_itoa (n := 0) ⟨by omega, by omega⟩
  rw [e] at this
  exact this
theorem numOf_bad1 {s : Bs} (h0 : s ≠ [48]) (h : stripM s = [] ∨ (stripM s).head? = some 48) : numOf s = none := by
  cases hn : numOf s with
  | none => rfl
  | some n =>
    obtain ⟨rfl, _⟩ := numOf_some hn
    rw [strip_itoa] at h
    rcases h with h | h
    · exact absurd h (digits_ne _)
    · by_cases hz : 0 < n.natAbs
      · exact absurd h (digits_head _ hz)
      · obtain rfl : n = 0 := by omega
        exact absurd (by rw [itoa_pos (by omega), Lib.decDigits]; rfl) h0
theorem numOf_bad2 {s : Bs} (h : (stripM s).all isDg = false) : numOf s = none := by
  cases hn : numOf s with
  | none => rfl
  | some n =>
    obtain ⟨rfl, _⟩ := numOf_some hn
    rw [strip_itoa, digits_all] at h
    cases h
theorem itoa_strip {s : Bs} (h1 : stripM s ≠ []) (h2 : (stripM s).head? ≠ some 48) (h3 : (stripM s).all isDg = true) : Lib.itoa (spell s) = s := by
  have hc : canon (stripM s) := ⟨h1, h3, .inl h2⟩
  have hd := digits_dVal _ _ rfl hc
  cases s with
  | nil => exact absurd rfl h1
  | cons b d =>
    by_cases hb : b = 45
    · subst hb
      have e : stripM (45 :: d) = d := rfl
      rw [e] at hd h1 h2 h3
      have hpos : 0 < dVal d := by
        by_cases hz : 0 < dVal d
        · exact hz
        · have : dVal d = 0 := by omega
          rw [this, Lib.decDigits, dif_pos (by omega)] at hd
          rw [← hd] at h2
          exact absurd rfl h2
      have e2 : spell (45 :: d) = -(dVal d : Int) := rfl
      rw [e2, itoa_neg' (by omega), show (-(dVal d : Int)).natAbs = dVal d by omega, hd]
    · have e : stripM (b :: d) = b :: d := by unfold stripM; rw [if_neg (by simpa using hb)]
      rw [e] at hd
      have e2 : spell (b :: d) = (dVal (b :: d) : Int) := by unfold spell; simp only [if_neg hb]
      rw [e2, itoa_pos (by omega), show ((dVal (b :: d) : Int)).toNat = dVal (b :: d) by omega, hd]
theorem pInt_eq {s : Bs} (h1 : stripM s ≠ []) (h3 : (stripM s).all isDg = true) : Lib.parseIntB 64 s = if -9223372036854775808 ≤ spell s ∧ spell s ≤ 9223372036854775807 then .ok (spell s) else .range := by
  cases s with
  | nil => exact absurd rfl h1
  | cons b d =>
    by_cases hb : b = 45
    · subst hb
      have e : stripM (45 :: d) = d := rfl
      rw [e] at h1 h3
      have hu : Lib.parseUintB 64 d = if dVal d ≤ 2 ^ 64 - 1 then .ok (dVal d) else .range := by
        unfold Lib.parseUintB
        rw [if_neg h1]
        exact uintM_ok d 0 h3 (by omega)
      have e2 : spell (45 :: d) = -(dVal d : Int) := rfl
      unfold Lib.parseIntB
      simp only
      have h45 : (45 : UInt8).toNat = 45 := rfl
      rw [if_pos (Or.inr h45), hu, e2]
      by_cases hr : dVal d ≤ 2 ^ 64 - 1
      · rw [if_pos hr]
        simp only
        rw [if_neg (by rw [h45]; omega)]
        by_cases hq : 2 ^ (64 - 1) < dVal d
        · rw [if_pos ⟨h45, hq⟩, if_neg (by omega)]
        · rw [if_neg (by omega), if_pos h45, if_pos (by omega)]
      · rw [if_neg hr]
        simp only
        rw [if_neg (by omega)]
    · have e : stripM (b :: d) = b :: d := by unfold stripM; rw [if_neg (by simpa using hb)]
      rw [e] at h3
      have hbd : isDg b = true := by simp at h3; exact h3.1
      have hb2 : ¬ (b.toNat = 43 ∨ b.toNat = 45) := by
        unfold isDg at hbd
        simp at hbd
        omega
      have hb3 : ¬ b.toNat = 45 := fun h => hb2 (.inr h)
      have hu : Lib.parseUintB 64 (b :: d) = if dVal (b :: d) ≤ 2 ^ 64 - 1 then .ok (dVal (b :: d)) else .range := by
        unfold Lib.parseUintB
        rw [if_neg (by simp)]
        exact uintM_ok (b :: d) 0 h3 (by omega)
      have e2 : spell (b :: d) = (dVal (b :: d) : Int) := by unfold spell; simp only [if_neg hb]
      unfold Lib.parseIntB
      simp only
      rw [if_neg hb2, hu, e2]
      by_cases hr : dVal (b :: d) ≤ 2 ^ 64 - 1
      · rw [if_pos hr]
        simp only
        by_cases hq : 2 ^ (64 - 1) ≤ dVal (b :: d)
        · rw [if_pos ⟨hb3, hq⟩, if_neg (by omega)]
        · rw [if_neg (fun h => hq h.2), if_neg (fun h => hb3 h.1), if_neg hb3, if_pos (by omega)]
      · rw [if_neg hr]
        simp only
        rw [if_neg (by omega)]
theorem numOf_good {s : Bs} (h1 : stripM s ≠ []) (h2 : (stripM s).head? ≠ some 48) (h3 : (stripM s).all isDg = true) : (∃ v, Lib.parseIntB 64 s = .ok v ∧ numOf s = some v) ∨ (Lib.parseIntB 64 s = .range ∧ numOf s = none) := by
  rw [pInt_eq h1 h3]
  have hi := itoa_strip h1 h2 h3
  unfold numOf
  by_cases hr : -9223372036854775808 ≤ spell s ∧ spell s ≤ 9223372036854775807
  · rw [if_pos hr]
    exact .inl ⟨_, rfl, by rw [if_pos (by simp [hr.1, hr.2, hi])]⟩
  · rw [if_neg hr]
    refine .inr ⟨rfl, ?_⟩
    rw [if_neg]
    intro hc
    simp only [Bool.and_eq_true, decide_eq_true_eq] at hc
    exact hr ⟨hc.1, hc.2.1⟩
theorem nDigits_low (u : Nat) (h : 19 < Lib.nDigits u) : 10 ^ 19 ≤ u := by
  by_cases hk : 10 ^ 19 ≤ u
  · exact hk
  · have hlt : u < 10 ^ 19 := by omega
    have key : ∀ (k v : Nat), v < 10 ^ (k + 1) → Lib.nDigits v ≤ k + 1 := by
      intro k
      induction k with
      | zero => intro v hv; rw [Lib.nDigits_small (by omega)]; omega
      | succ k ih =>
        intro v hv
        by_cases h10 : v < 10
        · rw [Lib.nDigits_small h10]; omega
        · rw [Lib.nDigits_big h10]
          have := ih (v / 10) (by rw [Nat.pow_succ] at hv; omega)
          omega
    have := key 18 u hlt
    omega
theorem numOf_len {s : Bs} {n : Int} (h : numOf s = some n) : (stripM s).length ≤ 19 ∧ 1 ≤ (stripM s).length ∧ (stripM s).all isDg = true := by
  obtain ⟨rfl, h0, h1⟩ := numOf_some h
  rw [strip_itoa]
  refine ⟨?_, ?_, digits_all _⟩
  · rw [Lib.decDigits_length]
    have h2 := Lib.lt_pow_nDigits n.natAbs
    by_cases hk : Lib.nDigits n.natAbs ≤ 19
    · exact hk
    · have h3 : (Lib.decDigits n.natAbs).length = Lib.nDigits n.natAbs := Lib.decDigits_length _
      have h4 := nDigits_low (n.natAbs) (by omega)
      omega
  · rw [Lib.decDigits_length]
    exact Lib.nDigits_pos _
end Go.Proofs.YtdhpoagjmiligaaGreatDoor

namespace Go.Proofs.YtdhpoagjmiligaaGreatDoor
open Go.RowKit
attribute [local go_sem ↓] Go.wp_at_zero Go.wp_at_succ

/-- A number that was looked for. -/
def IPost (s : Bs) (w : World) (e : Ending) (w' : World) : Prop := ∃ (n : Int) (b : Bool), e = .returned (.tuple #[.int .i64 n, .bool b]) ∧ numOf s = (if b then some n else none) ∧ Below w.heap.size w w'
theorem IPost.no {s : Bs} {w w' : World} {e : Ending} (n : Int) (he : e = .returned (.tuple #[.int .i64 n, .bool false])) (hn : numOf s = none) (hb : Below w.heap.size w w') : IPost s w e w' := ⟨n, false, he, by rw [hn]; rfl, hb⟩
theorem bs_extract (s : ByteArray) (h : 0 < s.size) : bsOf (s.extract 1 s.size) = (bsOf s).tail := by
  obtain ⟨⟨l⟩⟩ := s
  cases l with
  | nil => exact absurd h (Nat.lt_irrefl 0)
  | cons a l => simp [bsOf, ByteArray.extract, ByteArray.size, ByteArray.copySlice]
theorem bs_head (s : ByteArray) (h : 0 < s.size) : (bsOf s).head? = some s[0] := by
  obtain ⟨⟨l⟩⟩ := s
  cases l with
  | nil => exact absurd h (Nat.lt_irrefl 0)
  | cons a l => rfl
theorem byte45 {b : UInt8} : ((b.toNat : Int) = 45) ↔ b = 45 := by
  constructor
  · intro h
    exact UInt8.toNat_inj.1 (by have : (45 : UInt8).toNat = 45 := rfl; omega)
  · rintro rfl
    rfl
theorem all_take_step {l : Bs} {f : UInt8 → Bool} {k : Nat} (hk : k < l.length) (h : (l.take k).all f = true) (hb : f l[k] = true) : (l.take (k + 1)).all f = true := by
  rw [List.take_add_one, List.getElem?_eq_getElem hk, List.all_append, h]
  simp [hb]
theorem dFrom_takeS {l : Bs} {k : Nat} (hk : k < l.length) : dFrom 0 (l.take (k + 1)) = dFrom 0 (l.take k) * 10 + (l[k].toNat - 48) := by
  rw [List.take_add_one, List.getElem?_eq_getElem hk, Option.toList_some, dFrom_snoc]

theorem numOk_wrap (x : Int) : numOk (wrap64 x) := by
  unfold numOk wrap64
  omega
theorem wrap64_id {x : Int} (h0 : -9223372036854775808 ≤ x) (h1 : x ≤ 9223372036854775807) : wrap64 x = x := by
  unfold wrap64
  omega
theorem dFrom_app (acc : Nat) (a b : Bs) : dFrom acc (a ++ b) = dFrom (dFrom acc a) b := by
  unfold dFrom
  rw [List.foldl_append]
theorem dFrom_take_le (l : Bs) (k : Nat) : dFrom 0 (l.take k) ≤ dFrom 0 l := by
  have h : dFrom 0 l = dFrom (dFrom 0 (l.take k)) (l.drop k) := by rw [← dFrom_app, List.take_append_drop]
  rw [h]
  exact dFrom_le _ _
theorem spell_strip {s : Bs} (h : s.head? = some 45) : spell s = -(dVal (stripM s) : Int) := by
  cases s with
  | nil => cases h
  | cons b d =>
    have hb : b = 45 := by simpa using h
    subst hb
    rfl
theorem spell_nostrip {s : Bs} (h : s.head? ≠ some 45) : spell s = (dVal s : Int) := by
  cases s with
  | nil => rfl
  | cons b d =>
    have hb : b ≠ 45 := by simpa using h
    unfold spell
    simp only [if_neg hb]

set_option maxHeartbeats 3200000 in
theorem l2Int_any (s : ByteArray) (w : World) (hs : s.size ≤ 20000) : Calls Tryz.prog 66 #[.string s] w (IPost (bsOf s) w) := by
  by_cases h0 : 0 < s.size
  · have i0 : (0 : Int) < (s.size : Int) := by omega
    have i1 : (1 : Int) ≤ (s.size : Int) := by omega
    by_cases hm : (s[0].toNat : Int) = 45
    · have HDB : Hid (bsOf (s.extract 1 s.size) = stripM (bsOf s)) := show _ = _ from by
        rw [bs_extract s h0]
        unfold stripM
        rw [if_pos (by rw [bs_head s h0, byte45.1 hm])]
      have hDs : (s.extract 1 s.size).size + 1 = s.size := by simp; omega
      go_enter Tryz.func66, Tryz.ntmps66
      go_upto_region 4 with fail
      obtain ⟨D, hD⟩ : ∃ D : ByteArray, D = s.extract 1 s.size := ⟨_, rfl⟩
      rw [← hD] at HDB hDs ⊢
      have hDn : ¬ (D.size : Int) = (s.size : Int) := by omega
      clear hD
      by_cases hl1 : D.size < 1
      · have j1 : (D.size : Int) < 1 := by omega
        have HN : Hid (numOf (bsOf s) = none) := show _ = _ from by
          cases hn : numOf (bsOf s) with
          | none => rfl
          | some n => have h1 := (numOf_len hn).2.1; rw [← HDB.out, bs_length] at h1; omega
        go_wp2
        go_ret2
        exact IPost.no 0 rfl HN.out (Below.refl _ _)
      by_cases hl19 : 19 < D.size
      · have j1 : ¬ (D.size : Int) < 1 := by omega
        have j2 : (19 : Int) < (D.size : Int) := by omega
        have HN : Hid (numOf (bsOf s) = none) := show _ = _ from by
          cases hn : numOf (bsOf s) with
          | none => rfl
          | some n => have h1 := (numOf_len hn).1; rw [← HDB.out, bs_length] at h1; omega
        go_wp2
        go_ret2
        exact IPost.no 0 rfl HN.out (Below.refl _ _)
      have j1 : ¬ (D.size : Int) < 1 := by omega
      have j2 : ¬ (19 : Int) < (D.size : Int) := by omega
      go_wp2
      go_loop [5, 6] (fun nv iv => ∃ (k : Nat) (n : Int), k ≤ D.size ∧ iv = .int .i64 (k : Int) ∧ nv = .int .i64 n ∧ numOk n ∧ ((bsOf D).take k).all isDg = true ∧ (dVal (bsOf D) ≤ 9223372036854775808 → n = -(dFrom 0 ((bsOf D).take k) : Int))) (fun _ iv => D.size - (intOf iv).toNat)
      case atStart => exact ⟨0, 0, by omega, rfl, rfl, ⟨by omega, by omega⟩, by simp, fun _ => by simp [dFrom]⟩
      case round =>
        obtain ⟨k, n, hk, rfl, rfl, hnk, hall, hval⟩ := hrel
        have HALL := hidX hall
        have HVAL := hidX hval
        have HNK := hidX hnk
        clear hall hval hnk
        by_cases hkl : k < D.size
        · have k0 : (0 : Int) ≤ (k : Int) := by omega
          have k1 : (k : Int) < (D.size : Int) := by omega
          have hkb : k < (bsOf D).length := by rw [bs_length]; exact hkl
          have eb : (bsOf D)[k] = D[k] := byte_at D k hkl
          by_cases hd : isDg D[k] = true
          · have hd' := hd
            unfold isDg at hd'
            simp at hd'
            have b0 : ¬ (D[k].toNat : Int) < 48 := by omega
            have b1 : ¬ (57 : Int) < (D[k].toNat : Int) := by omega
            go_wp2
            refine ⟨⟨k + 1, _, by omega, by go_num, rfl, numOk_wrap _, all_take_step hkb HALL.out (by rw [eb]; exact hd), fun h => ?_⟩, ?_⟩
            · have h1 := dFrom_takeS hkb
              have h2 := dFrom_take_le (bsOf D) (k + 1)
              rw [eb] at h1
              have h3 := HVAL.out h
              have h4 : dFrom 0 (bsOf D) = dVal (bsOf D) := rfl
              have e1 : wrap64 (n * 10) = n * 10 := wrap64_id (by omega) (by omega)
              rw [e1, wrap64_id (by omega) (by omega), h1]
              omega
            · simp [intOf]
              omega
          · have HN : Hid (numOf (bsOf s) = none) := show _ = _ from by
              cases hn : numOf (bsOf s) with
              | none => rfl
              | some n =>
                have h1 := (numOf_len hn).2.2
                rw [← HDB.out] at h1
                have h2 := (List.all_eq_true.1 h1) _ (List.getElem_mem hkb)
                rw [eb] at h2
                exact absurd h2 hd
            have hd' : (D[k].toNat : Int) < 48 ∨ (57 : Int) < (D[k].toNat : Int) := by
              unfold isDg at hd
              simp at hd
              omega
            rcases hd' with b0 | b1
            · go_wp2
              go_ret2
              exact IPost.no 0 rfl HN.out (Below.refl _ _)
            · have b0 : ¬ (D[k].toNat : Int) < 48 := by omega
              go_wp2
              go_ret2
              exact IPost.no 0 rfl HN.out (Below.refl _ _)
        · have k1 : ¬ (k : Int) < (D.size : Int) := by omega
          obtain rfl : k = D.size := by omega
          have HV : Hid (∀ v, numOf (bsOf s) = some v → v = n) := fun v hv => by
            have h1 := (numOf_some hv).2
            have h2 : v = spell (bsOf s) := by
              obtain ⟨e, _⟩ := numOf_some hv
              rw [e, spell_itoa]
            have h3 : spell (bsOf s) = -(dVal (bsOf D) : Int) := by rw [HDB.out]; exact spell_strip (by rw [bs_head s h0, byte45.1 hm])
            have h4 := HVAL.out (by have := h1.1; omega)
            rw [List.take_of_length_le (by rw [bs_length]; exact Nat.le_refl _)] at h4
            rw [h2, h3, h4]
            rfl
          have HLD := hidX (l1Dec_num n w HNK.out)
          by_cases he : Lib.itoa n = bsOf s
          · have HS : Hid (mkS (Lib.itoa n) = s) := show _ = _ from by rw [he, mkS_bs]
            have HN : Hid (numOf (bsOf s) = some n) := show _ = _ from by rw [← he]; exact numOf_itoa HNK.out
            clear he
            go_wp2_with (go_at_call 99; refine HLD.out.mono ?_; rintro e w1 ⟨rfl, hb1⟩; rw [HS.out])
            go_ret2
            exact ⟨n, true, by simp, HN.out, hb1⟩
          · have hse : ((mkS (Lib.itoa n)).toList == s.toList) = false := by
              rw [bytes_beq]
              simp
              intro e
              exact he (by rw [← e]; rfl)
            have HN : Hid (numOf (bsOf s) = none) := show _ = _ from by
              cases hn : numOf (bsOf s) with
              | none => rfl
              | some v =>
                have := HV.out v hn
                subst this
                exact absurd (numOf_some hn).1.symm he
            clear he
            go_wp2_with (go_at_call 99; refine HLD.out.mono ?_; rintro e w1 ⟨rfl, hb1⟩)
            go_ret2
            exact IPost.no n rfl HN.out hb1
    · have HDB : Hid (bsOf s = stripM (bsOf s)) := show _ = _ from by
        unfold stripM
        rw [if_neg (by rw [bs_head s h0]; intro e; injection e with e; exact hm (byte45.2 e))]
      go_enter Tryz.func66, Tryz.ntmps66
      go_upto_region 4 with fail
      by_cases hl1 : s.size < 1
      · have j1 : (s.size : Int) < 1 := by omega
        have HN : Hid (numOf (bsOf s) = none) := show _ = _ from by
          cases hn : numOf (bsOf s) with
          | none => rfl
          | some n => have h1 := (numOf_len hn).2.1; rw [← HDB.out, bs_length] at h1; omega
        go_wp2
        go_ret2
        exact IPost.no 0 rfl HN.out (Below.refl _ _)
      by_cases hl19 : 19 < s.size
      · have j1 : ¬ (s.size : Int) < 1 := by omega
        have j2 : (19 : Int) < (s.size : Int) := by omega
        have HN : Hid (numOf (bsOf s) = none) := show _ = _ from by
          cases hn : numOf (bsOf s) with
          | none => rfl
          | some n => have h1 := (numOf_len hn).1; rw [← HDB.out, bs_length] at h1; omega
        go_wp2
        go_ret2
        exact IPost.no 0 rfl HN.out (Below.refl _ _)
      have j1 : ¬ (s.size : Int) < 1 := by omega
      have j2 : ¬ (19 : Int) < (s.size : Int) := by omega
      go_wp2
      go_loop [5, 6] (fun nv iv => ∃ (k : Nat) (n : Int), k ≤ s.size ∧ iv = .int .i64 (k : Int) ∧ nv = .int .i64 n ∧ numOk n ∧ ((bsOf s).take k).all isDg = true ∧ (dVal (bsOf s) ≤ 9223372036854775808 → n = -(dFrom 0 ((bsOf s).take k) : Int))) (fun _ iv => s.size - (intOf iv).toNat)
      case atStart => exact ⟨0, 0, by omega, rfl, rfl, ⟨by omega, by omega⟩, by simp, fun _ => by simp [dFrom]⟩
      case round =>
        obtain ⟨k, n, hk, rfl, rfl, hnk, hall, hval⟩ := hrel
        have HALL := hidX hall
        have HVAL := hidX hval
        have HNK := hidX hnk
        clear hall hval hnk
        by_cases hkl : k < s.size
        · have k0 : (0 : Int) ≤ (k : Int) := by omega
          have k1 : (k : Int) < (s.size : Int) := by omega
          have hkb : k < (bsOf s).length := by rw [bs_length]; exact hkl
          have eb : (bsOf s)[k] = s[k] := byte_at s k hkl
          by_cases hd : isDg s[k] = true
          · have hd' := hd
            unfold isDg at hd'
            simp at hd'
            have b0 : ¬ (s[k].toNat : Int) < 48 := by omega
            have b1 : ¬ (57 : Int) < (s[k].toNat : Int) := by omega
            go_wp2
            refine ⟨⟨k + 1, _, by omega, by go_num, rfl, numOk_wrap _, all_take_step hkb HALL.out (by rw [eb]; exact hd), fun h => ?_⟩, ?_⟩
            · have h1 := dFrom_takeS hkb
              have h2 := dFrom_take_le (bsOf s) (k + 1)
              rw [eb] at h1
              have h3 := HVAL.out h
              have h4 : dFrom 0 (bsOf s) = dVal (bsOf s) := rfl
              have e1 : wrap64 (n * 10) = n * 10 := wrap64_id (by omega) (by omega)
              rw [e1, wrap64_id (by omega) (by omega), h1]
              omega
            · simp [intOf]
              omega
          · have HN : Hid (numOf (bsOf s) = none) := show _ = _ from by
              cases hn : numOf (bsOf s) with
              | none => rfl
              | some n =>
                have h1 := (numOf_len hn).2.2
                rw [← HDB.out] at h1
                have h2 := (List.all_eq_true.1 h1) _ (List.getElem_mem hkb)
                rw [eb] at h2
                exact absurd h2 hd
            have hd' : (s[k].toNat : Int) < 48 ∨ (57 : Int) < (s[k].toNat : Int) := by
              unfold isDg at hd
              simp at hd
              omega
            rcases hd' with b0 | b1
            · go_wp2
              go_ret2
              exact IPost.no 0 rfl HN.out (Below.refl _ _)
            · have b0 : ¬ (s[k].toNat : Int) < 48 := by omega
              go_wp2
              go_ret2
              exact IPost.no 0 rfl HN.out (Below.refl _ _)
        · have k1 : ¬ (k : Int) < (s.size : Int) := by omega
          obtain rfl : k = s.size := by omega
          obtain ⟨m, hme⟩ : ∃ m, m = wrap64 (-n) := ⟨_, rfl⟩
          have HNM : Hid (numOk m) := show numOk m from by rw [hme]; exact numOk_wrap _
          have HV : Hid (∀ v, numOf (bsOf s) = some v → v = m) := fun v hv => by
            have h1 := (numOf_some hv).2
            have h2 : v = spell (bsOf s) := by
              obtain ⟨e, _⟩ := numOf_some hv
              rw [e, spell_itoa]
            have h3 : spell (bsOf s) = (dVal (bsOf s) : Int) := spell_nostrip (by rw [bs_head s h0]; intro e; injection e with e; exact hm (byte45.2 e))
            have h4 := HVAL.out (by have := h1.2; omega)
            rw [List.take_of_length_le (by rw [bs_length]; exact Nat.le_refl _)] at h4
            have h5 : dFrom 0 (bsOf s) = dVal (bsOf s) := rfl
            have h6 := h1.2
            rw [hme, wrap64_id (by omega) (by omega)]
            omega
          have HLD := hidX (l1Dec_num m w HNM.out)
          have HME := hidX hme
          by_cases he : Lib.itoa m = bsOf s
          · have HS : Hid (mkS (Lib.itoa m) = s) := show _ = _ from by rw [he, mkS_bs]
            have HN : Hid (numOf (bsOf s) = some m) := show _ = _ from by rw [← he]; exact numOf_itoa HNM.out
            clear he hme
            go_wp2_with (go_at_call 99; (try rw [← HME.out]); refine HLD.out.mono ?_; rintro e w1 ⟨rfl, hb1⟩; rw [HS.out])
            go_ret2
            exact ⟨m, true, by simp [HME.out], HN.out, hb1⟩
          · have hse : ((mkS (Lib.itoa m)).toList == s.toList) = false := by
              rw [bytes_beq]
              simp
              intro e
              exact he (by rw [← e]; rfl)
            have HN : Hid (numOf (bsOf s) = none) := show _ = _ from by
              cases hn : numOf (bsOf s) with
              | none => rfl
              | some v =>
                have := HV.out v hn
                subst this
                exact absurd (numOf_some hn).1.symm he
            clear he hme
            go_wp2_with (go_at_call 99; (try rw [← HME.out]); refine HLD.out.mono ?_; rintro e w1 ⟨rfl, hb1⟩)
            go_ret2
            exact IPost.no _ rfl HN.out hb1
  · have i0 : ¬ (0 : Int) < (s.size : Int) := by omega
    have hz : s.size = 0 := by omega
    have hn : numOf (bsOf s) = none := by
      refine numOf_bad1 (fun e => ?_) (.inl ?_)
      · have := bs_length s
        rw [e] at this
        simp at this
        omega
      · have : bsOf s = [] := List.eq_nil_of_length_eq_zero (by rw [bs_length]; exact hz)
        rw [this]
        rfl
    have HN := hidX hn
    have i2 : (s.size : Int) < 1 := by omega
    clear hn hz
    go_enter Tryz.func66, Tryz.ntmps66
    go_wp2
    go_ret2
    exact IPost.no 0 rfl HN.out (Below.refl _ _)
end Go.Proofs.YtdhpoagjmiligaaGreatDoor

namespace Go.Proofs.YtdhpoagjmiligaaGreatDoor

/-- Checked rules have right patterns, at most six. -/
theorem firstBad_noneM {α : Type} (f : α → Bool) : ∀ (l : List α) (k : Nat), firstBad f l k = none → ∀ x ∈ l, f x = true
  | [], _, _, x, hx => by simp at hx
  | y :: r, k, h, x, hx => by
    unfold firstBad at h
    cases hy : f y
    · rw [hy] at h
      simp at h
    · rw [hy] at h
      simp only [if_true] at h
      rcases List.mem_cons.1 hx with rfl | hx
      · exact hy
      · exact firstBad_noneM f r (k + 1) h x hx
theorem shape_pats {r : Ru} (h : shape r = none) : r.pats.length ≤ 6 ∧ ∀ p ∈ r.pats, gPt p = true := by
  unfold shape at h
  split at h
  · rename_i hh
    simp only [headOk, Bool.and_eq_true, decide_eq_true_eq] at hh
    refine ⟨hh.2.1, ?_⟩
    cases hb : firstBad gPt r.pats 1 with
    | some i => rw [hb] at h; cases h
    | none => exact firstBad_noneM gPt r.pats 1 hb
  · cases h
end Go.Proofs.YtdhpoagjmiligaaGreatDoor

namespace Go.Proofs.YtdhpoagjmiligaaGreatDoor

/-- Numbers that a machine has. -/
def RuN (r : Ru) : Prop := numOk r.sal ∧ (∀ p ∈ r.pats, ∀ t ∈ p.terms, numOk t.val.num) ∧ ∀ e ∈ r.exprs, numOk e.val.num
/-- What the texts ask of exprs. -/
def ExT (es : List Ex) (S : List Sp) : Prop := es.length ≤ 60 ∧ Spans es S ∧ S.length = es.length ∧ ∀ e ∈ es, numOk e.val.num
def AcT (es : List Ex) (a : Ac) : Prop := fieldsOk a = true ∧ a.args.length ≤ 6 ∧ ∀ v ∈ a.args, 0 ≤ v ∧ v < (es.length : Int)
def PtT (p : Pt) : Prop := gPt p = true ∧ ∀ t ∈ p.terms, numOk t.val.num
def RuT (r : Ru) : Prop := r.name.size ≤ 20 ∧ numOk r.sal ∧ r.pats.length ≤ 6 ∧ (∀ p ∈ r.pats, PtT p) ∧ r.acts.length ≤ 8 ∧ (∃ S, ExT r.exprs S) ∧ ∀ a ∈ r.acts, AcT r.exprs a

theorem argsGo_in {S : List Sp} : ∀ {l : List Int} {nx n : Nat}, argsGo S l nx = some n → ∀ v ∈ l, 0 ≤ v ∧ v < (S.length : Int)
  | [], _, _, _, v, hv => by simp at hv
  | x :: r, nx, n, h, v, hv => by
    unfold argsGo at h
    split at h
    · rename_i hc
      simp only [Bool.and_eq_true, decide_eq_true_eq] at hc
      rcases List.mem_cons.1 hv with rfl | hm
      · exact ⟨hc.1, hc.2.1⟩
      · exact argsGo_in h v hm
    · cases h
theorem actsGo_in {S : List Sp} : ∀ {l : List Ac} {nx k : Nat}, actsGo S l nx k = none → ∀ y ∈ l, fieldsOk y = true ∧ y.args.length ≤ 6 ∧ ∀ v ∈ y.args, 0 ≤ v ∧ v < (S.length : Int)
  | [], _, _, _, y, hy => by simp at hy
  | a :: r, nx, k, h, y, hy => by
    unfold actsGo at h
    cases hg : gAc S a nx with
    | none => rw [hg] at h; cases h
    | some n' =>
      rw [hg] at h
      rcases List.mem_cons.1 hy with rfl | hm
      · unfold gAc at hg
        split at hg
        · rename_i hc
          simp only [Bool.and_eq_true, decide_eq_true_eq] at hc
          exact ⟨hc.1, hc.2, argsGo_in hg⟩
        · cases hg
      · exact actsGo_in h y hm
theorem RuT.of {r : Ru} (h : shape r = none) (hn : RuN r) : RuT r := by
  obtain ⟨hp6, hpt⟩ := shape_pats h
  unfold shape at h
  split at h
  · rename_i hh
    simp only [headOk, Bool.and_eq_true, decide_eq_true_eq] at hh
    split at h
    · cases h
    · split at h
      · cases h
      · rename_i hlt
        have hS := (spansGo_spans (es := r.exprs) (l := r.exprs) (Spans.nil _) rfl).1
        have hfull : (spansGo [] r.exprs).length = r.exprs.length := by have := hS.1; omega
        have hf := actsGo_in h
        refine ⟨gSym_sz hh.1, hn.1, hp6, fun p hp => ⟨hpt p hp, hn.2.1 p hp⟩, hh.2.2.1, ⟨_, hh.2.2.2, hS, hfull, hn.2.2⟩, fun a ha => ⟨(hf a ha).1, (hf a ha).2.1, fun v hv => ?_⟩⟩
        have := (hf a ha).2.2 v hv
        rw [hfull] at this
        exact this
  · cases h

theorem spanT_leaf {S : List Sp} {e : Ex} {s : Sp} (h : spanOf S e = some s) (hk : e.kind ≠ 2) : (e.kind = 0 ∧ gVal e.val = true) ∨ (e.kind = 1 ∧ gSym e.var.data.toList = true) := by
  unfold spanOf at h
  by_cases k0 : e.kind = 0
  · simp [k0] at h
    exact .inl ⟨k0, h.1.2.2⟩
  by_cases k1 : e.kind = 1
  · simp [k1] at h
    exact .inr ⟨k1, h.1.2.1⟩
  · simp [k0, k1, hk] at h
theorem spanT_op {S : List Sp} {e : Ex} {s : Sp} (h : spanOf S e = some s) (hk : e.kind = 2) : isAr e.op = true := by
  unfold spanOf at h
  simp only [hk] at h
  rw [if_neg (by decide), if_neg (by decide), if_pos (by decide)] at h
  split at h
  · rename_i ho
    simp only [opOk, Bool.and_eq_true] at ho
    exact ho.1
  · cases h
theorem ExT.kind {es : List Ex} {S : List Sp} (h : ExT es S) {i : Nat} {e : Ex} (he : es[i]? = some e) : (e.kind = 0 ∧ gVal e.val = true) ∨ (e.kind = 1 ∧ gSym e.var.data.toList = true) ∨ (e.kind = 2 ∧ isAr e.op = true ∧ ∃ a b : Nat, e.a = (a : Int) ∧ e.b = (b : Int) ∧ a < i ∧ b < i) := by
  have hi : i < S.length := by rw [h.2.2.1]; exact (List.getElem?_eq_some_iff.1 he).1
  obtain ⟨s, hs⟩ : ∃ s, S[i]? = some s := ⟨S[i], by simp [hi]⟩
  by_cases hk : e.kind = 2
  · obtain ⟨a, b, sa, sb, ha, hb, h1, h2, _⟩ := h.2.1.op hs he hk
    exact .inr (.inr ⟨hk, spanT_op (h.2.1.2 i s e hs he) hk, a, b, ha, hb, by omega, by omega⟩)
  · rcases spanT_leaf (h.2.1.2 i s e hs he) hk with h | h
    · exact .inl h
    · exact .inr (.inl h)
theorem kOk_num {k : Int} (h : kOk k = true) : numOk k := by
  simp only [kOk, Bool.and_eq_true, decide_eq_true_eq] at h
  exact ⟨by omega, by omega⟩
theorem gCls_sz {s : ByteArray} (h : gCls s = true) : s.size ≤ 20 := by
  simp only [gCls, Bool.and_eq_true] at h
  exact gSym_sz h.1
theorem AcT.cases {es : List Ex} {a : Ac} (h : AcT es a) : (a.kind = 1 ∧ a.cls.size ≤ 20) ∨ (a.kind = 2 ∧ numOk a.k ∧ a.args = []) ∨ (a.kind = 3 ∧ numOk a.k) ∨ (a.kind = 4 ∧ a.args = []) := by
  have hf := h.1
  unfold fieldsOk at hf
  by_cases k1 : a.kind = 1
  · simp [k1] at hf
    exact .inl ⟨k1, gCls_sz hf.1⟩
  by_cases k2 : a.kind = 2
  · simp [k2] at hf
    exact .inr (.inl ⟨k2, kOk_num hf.1.2, hf.2⟩)
  by_cases k3 : a.kind = 3
  · simp [k3] at hf
    exact .inr (.inr (.inl ⟨k3, kOk_num hf.2⟩))
  by_cases k4 : a.kind = 4
  · simp [k4] at hf
    exact .inr (.inr (.inr ⟨k4, hf.2.2⟩))
  · simp [k1, k2, k3, k4] at hf
end Go.Proofs.YtdhpoagjmiligaaGreatDoor

namespace Go.Proofs.YtdhpoagjmiligaaGreatDoor
open Go.RowKit
attribute [local go_sem ↓] Go.wp_at_zero Go.wp_at_succ

/-- Six texts of tests at an address. -/
def TestsAt (w : World) (g o : Nat) : Prop := ∀ k, k < 6 → w.cell? ⟨g, o + k, none⟩ = some (.string (mkS (opTx.getD k [])))
theorem TestsAt.below {w w' : World} {g o : Nat} (h : TestsAt w g o) (hb : Below w.heap.size w w') : TestsAt w' g o := fun k hk => cell_below hb (h k hk)

set_option maxHeartbeats 800000 in
theorem l2Tests_txt (w : World) : Calls Tryz.prog 69 #[] w fun e w' => e = .returned (.slice (some ⟨w.heap.size, 0, none⟩) 6 6) ∧ TestsAt w' w.heap.size 0 ∧ Below w.heap.size w w' := by
  have hA : ∀ o, Below w.heap.size w (w.alloc o) := fun o => (Below.refl _ _).alloc (Nat.le_refl _) _
  go_enter Tryz.func69, Tryz.ntmps69
  go_wp2
  go_ret
  refine ⟨rfl, ?_, hA _⟩
  intro k hk
  rcases (show k = 0 ∨ k = 1 ∨ k = 2 ∨ k = 3 ∨ k = 4 ∨ k = 5 by omega) with rfl | rfl | rfl | rfl | rfl | rfl <;> simp [go_sem] <;> rfl

end Go.Proofs.YtdhpoagjmiligaaGreatDoor
