/-
  OUR OWN TEXT. Sx6, Sx7, Sx8, one behind the other.
-/
import Derived.Test.YtdhpoagjmiligaaGreatDoorKak
import Derived.Test.YtdhpoagjmiligaaGreatDoorShgm
import Derived.WalkSmall
import Derived.Test.YtdhpoagjmiligaaGreatDoorKaa
import Derived.Test.YtdhpoagjmiligaaGreatDoorKag
namespace Go.Proofs.YtdhpoagjmiligaaGreatDoor
open Go.RowKit
attribute [local go_sem ↓] Go.wp_at_zero Go.wp_at_succ

set_option maxHeartbeats 800000 in
theorem isBlank_any (b : UInt8) (w : World) : Calls Tryz.prog 121 #[.int .u8 (b.toNat : Int)] w fun e w' => e = .returned (.bool (blankB b)) ∧ w' = w := by
  have hbi := blank_int b
  by_cases h : blankB b = true
  · have HB := hidX h
    rcases hbi.1 h with h1 | h1 | h1 | h1
    all_goals
      clear hbi h
      rw [h1]
      go_enter Tryz.func121, Tryz.ntmps121
      go_wp2
      go_ret
      exact ⟨by rw [HB.out]; rfl, rfl⟩
  · have nb : ¬ ((b.toNat : Int) = 32 ∨ (b.toNat : Int) = 9 ∨ (b.toNat : Int) = 10 ∨ (b.toNat : Int) = 13) := fun g => h (hbi.2 g)
    have n1 : ((b.toNat : Int) == 32) = false := beqF fun h => nb (.inl h)
    have n2 : ((b.toNat : Int) == 9) = false := beqF fun h => nb (.inr (.inl h))
    have n3 : ((b.toNat : Int) == 10) = false := beqF fun h => nb (.inr (.inr (.inl h)))
    have n4 : ((b.toNat : Int) == 13) = false := beqF fun h => nb (.inr (.inr (.inr h)))
    have HB : Hid (blankB b = false) := show _ = _ from by simpa using h
    clear hbi nb h
    go_enter Tryz.func121, Tryz.ntmps121
    go_wp2
    go_ret
    exact ⟨by rw [HB.out]; rfl, rfl⟩
set_option maxHeartbeats 800000 in
theorem inWord_any (b : UInt8) (w : World) : Calls Tryz.prog 116 #[.int .u8 (b.toNat : Int)] w fun e w' => e = .returned (.bool (wordB b)) ∧ w' = w := by
  have hwi := word_int b
  by_cases h : wordB b = true
  · obtain ⟨q1, q2', q3, q4, q5⟩ := hwi.1 h
    have q2 : (b.toNat : Int) ≤ 126 := by omega
    have HB := hidX h
    have r3' : ((b.toNat : Int) != 40) = true := by simpa using q3
    have r4' : ((b.toNat : Int) != 41) = true := by simpa using q4
    have r5' : ((b.toNat : Int) != 59) = true := by simpa using q5
    clear hwi h q2' q3 q4 q5
    go_enter Tryz.func116, Tryz.ntmps116
    go_wp2
    go_ret
    exact ⟨by rw [HB.out]; rfl, rfl⟩
  · have hq : ¬ (32 : Int) < (b.toNat : Int) ∨ ((32 : Int) < (b.toNat : Int) ∧ ¬ (b.toNat : Int) ≤ 126) ∨ (b.toNat : Int) = 40 ∨ (b.toNat : Int) = 41 ∨ (b.toNat : Int) = 59 := by
      have hnw : ¬ ((32 : Int) < (b.toNat : Int) ∧ (b.toNat : Int) < 127 ∧ ¬ (b.toNat : Int) = 40 ∧ ¬ (b.toNat : Int) = 41 ∧ ¬ (b.toNat : Int) = 59) := fun g => h (hwi.2 g)
      omega
    have HB : Hid (wordB b = false) := show _ = _ from by simpa using h
    clear hwi h
    rcases hq with q1 | ⟨q1, q2⟩ | q3 | q3 | q3
    all_goals
      try (rw [q3]; clear q3)
      go_enter Tryz.func116, Tryz.ntmps116
      go_wp2
      go_ret
      exact ⟨by rw [HB.out]; rfl, rfl⟩
theorem isAr_mem (b : UInt8) : isAr (b.toNat : Int) = decide ([b] ∈ arTx) := by
  have key : ∀ n : Fin 256, isAr ((n.val : Nat) : Int) = decide ([UInt8.ofNat n.val] ∈ arTx) := by decide +kernel
  have h := key ⟨b.toNat, UInt8.toNat_lt b⟩
  simpa using h
/-- Which test a text is. -/
def testIx (s : Bs) : Nat := if s = [61] then 1 else if s = [33, 61] then 2 else if s = [60] then 3 else if s = [62] then 4 else if s = [60, 61] then 5 else if s = [62, 61] then 6 else 0
theorem testIx_hit {t : Bs} {n : Nat} (h1 : 1 ≤ n) (h2 : n ≤ 6) (h : opTx.getD (n - 1) [] = t) : testIx t = n := by
  subst h
  rcases (show n = 1 ∨ n = 2 ∨ n = 3 ∨ n = 4 ∨ n = 5 ∨ n = 6 by omega) with rfl | rfl | rfl | rfl | rfl | rfl <;> rfl
theorem testIx_none {t : Bs} (h : ∀ j, j < 6 → ¬ opTx.getD j [] = t) : testIx t = 0 := by
  have h0 := h 0 (by decide)
  have h1 := h 1 (by decide)
  have h2 := h 2 (by decide)
  have h3 := h 3 (by decide)
  have h4 := h 4 (by decide)
  have h5 := h 5 (by decide)
  unfold testIx
  rw [if_neg fun e => h0 e.symm, if_neg fun e => h1 e.symm, if_neg fun e => h2 e.symm, if_neg fun e => h3 e.symm, if_neg fun e => h4 e.symm, if_neg fun e => h5 e.symm]
theorem str_beq (a b : Bs) : ((mkS a).toList == (mkS b).toList) = decide (a = b) := by
  have h : (mkS b).toList = b := by rw [ByteArray.toList_eq]; rfl
  rw [h, beq_lit, bs_mkS]
set_option maxHeartbeats 1600000 in
theorem testOf_any (t : Bs) (w : World) (hT : TestsAt w 1 1) : Calls Tryz.prog 126 #[.string (mkS t)] w fun e w' => e = .returned (.int .i64 (testIx t : Int)) ∧ w' = w := by
  have HT := hidX hT
  clear hT
  go_enter Tryz.func126, Tryz.ntmps126
  go_wp2
  go_loopw [3] (fun iv wr => ∃ n : Nat, 1 ≤ n ∧ n ≤ 7 ∧ iv = .int .i64 (n : Int) ∧ (∀ j, j < n - 1 → ¬ opTx.getD j [] = t) ∧ wr = w) (fun iv _ => 7 - (intOf iv).toNat)
  case atStart => exact ⟨1, by omega, by omega, rfl, fun j hj => by omega, rfl⟩
  case round =>
    obtain ⟨n, h1, h7, rfl, hno, rfl⟩ := hrel
    have HN := hidX hno
    clear hno
    by_cases h6 : n ≤ 6
    · have k0 : (0 : Int) ≤ (n : Int) := by omega
      have k1 : (n : Int) < 7 := by omega
      have k2 : (n : Int) ≤ 6 := by omega
      obtain ⟨ob, hob⟩ : ∃ ob, ob = opTx.getD (n - 1) [] := ⟨_, rfl⟩
      have hc : wr.cell? ⟨1, n, none⟩ = some (.string (mkS ob)) := by
        have := HT.out (n - 1) (by omega)
        rw [← hob, show 1 + (n - 1) = n by omega] at this
        exact this
      have hbe := str_beq ob t
      by_cases he : ob = t
      · rw [decide_eq_true he] at hbe
        have HX : Hid (testIx t = n) := testIx_hit h1 h6 (hob ▸ he)
        clear he hob
        go_wp2
        go_ret
        exact ⟨by rw [HX.out]; rfl, rfl⟩
      · rw [decide_eq_false he] at hbe
        have HN2 : Hid (∀ j, j < n + 1 - 1 → ¬ opTx.getD j [] = t) := fun j hj => by
          rcases Nat.lt_or_ge j (n - 1) with h | h
          · exact HN.out j h
          · obtain rfl : j = n - 1 := by omega
            rw [← hob]
            exact he
        clear he hob
        go_wp2
        go_roundw
        case rel => exact ⟨n + 1, by omega, by omega, by go_num, HN2.out, (by first | rfl | trivial)⟩
        case measure => (simp [intOf]; omega)
    · obtain rfl : n = 7 := by omega
      have HX : Hid (testIx t = 0) := testIx_none HN.out
      go_wp2
      go_ret
      exact ⟨by rw [HX.out]; rfl, rfl⟩
end Go.Proofs.YtdhpoagjmiligaaGreatDoor

namespace Go.Proofs.YtdhpoagjmiligaaGreatDoor
open Go.RowKit
attribute [local go_sem ↓] Go.wp_at_zero Go.wp_at_succ

theorem trim_strip (t : Bs) : Lib.trimPrefix t [45] = stripM t := by
  unfold Lib.trimPrefix Lib.hasPrefix stripM
  cases t with
  | nil => rfl
  | cons b r =>
    by_cases h : b = 45
    · subst h
      simp
    · have h' : ¬ (45 : UInt8) = b := fun e => h e.symm
      simp [h, h']
theorem isD_dg (b : UInt8) : isD (b.toNat : Int) = isDg b := by
  unfold isD isDg
  congr 1
  · exact decide_eq_decide.2 (by omega)
  · exact decide_eq_decide.2 (by omega)
theorem below_drew1 {B : Nat} {a w : World} (h : Below B a w) : Below B a w.drew := ⟨h.os, h.tape, h.output, h.size, h.block⟩
theorem strip_len (t : Bs) : (stripM t).length ≤ t.length := by
  unfold stripM
  split
  · simp
  · exact Nat.le_refl _

set_option maxHeartbeats 3200000 in
theorem numberOf_any (t : Bs) (w : World) (hl : t.length ≤ 20000) (tp : TypeId) (p : Value) (hvar : w.var? Tryz.prog "strconv.ErrRange" = some #[.iface tp p]) : Calls Tryz.prog 123 #[.string (mkS t)] w (IPost t w) := by
  have HVAR := hidX hvar
  clear hvar
  have hz := beq_lit (mkS t) [48]
  rw [bs_mkS] at hz
  by_cases h0 : t = [48]
  · rw [decide_eq_true h0] at hz
    have HN : Hid (numOf t = some 0) := show _ = _ from by rw [h0]; exact numOf_zero
    clear h0
    go_enter Tryz.func123, Tryz.ntmps123
    go_wp2
    go_ret2
    exact ⟨0, true, rfl, HN.out, Below.refl _ _⟩
  · rw [decide_eq_false h0] at hz
    obtain ⟨S, hS⟩ : ∃ S : ByteArray, S = mkS (stripM t) := ⟨_, rfl⟩
    have hD : bsOf S = stripM t := by rw [hS, bs_mkS]
    have HTP : Hid (∀ w', Calls Tryz.prog 130 #[.string (mkS t), .string ⟨#[45]⟩] w' fun e w1 => e = .returned (.string S) ∧ w1 = w') := fun w' => (Tryz.strings_TrimPrefix (mkS t) ⟨#[45]⟩ w').mono fun e w1 h => ⟨by rw [h.1, hS, ← trim_strip]; rfl, h.2⟩
    have hsz : S.size ≤ 20000 := by rw [← bs_length, hD]; exact Nat.le_trans (strip_len t) hl
    clear hS
    have he := beq_lit S []
    by_cases hnil : bsOf S = []
    · rw [decide_eq_true hnil] at he
      have HN : Hid (numOf t = none) := numOf_bad1 h0 (.inl (hD ▸ hnil))
      clear h0 hD hnil
      go_enter Tryz.func123, Tryz.ntmps123
      go_wp2_with (go_at_call 130; refine (HTP.out _).mono ?_; rintro e w1 ⟨rfl, hw⟩; rw [hw]; clear hw w1)
      go_ret2
      exact IPost.no 0 rfl HN.out (Below.refl _ _)
    · rw [decide_eq_false hnil] at he
      have hs0 : 0 < S.size := by
        rw [← bs_length]
        exact List.length_pos_iff.2 hnil
      have j0 : (0 : Int) < (S.size : Int) := by omega
      have hhd := bs_head S hs0
      by_cases h48 : S[0] = 48
      · have hb : ((S[0].toNat : Int) == 48) = true := by rw [h48]; rfl
        have HN : Hid (numOf t = none) := numOf_bad1 h0 (.inr (by rw [← hD, hhd, h48]))
        clear h0 hD hnil h48 hhd
        go_enter Tryz.func123, Tryz.ntmps123
        go_wp2_with (go_at_call 130; refine (HTP.out _).mono ?_; rintro e w1 ⟨rfl, hw⟩; rw [hw]; clear hw w1)
        go_ret2
        exact IPost.no 0 rfl HN.out (Below.refl _ _)
      · have hb : ((S[0].toNat : Int) == 48) = false := beqF fun e => h48 (byteN.1 (by rw [e]; rfl))
        have HNN : Hid (stripM t ≠ [] ∧ (stripM t).head? ≠ some 48) := show _ ∧ _ from by rw [← hD, hhd]; exact ⟨hnil, fun e => h48 (by injection e)⟩
        have HDD := hidX hD
        clear h0 hD hnil h48 hhd
        go_enter Tryz.func123, Tryz.ntmps123
        go_wp2_with (go_at_call 130; refine (HTP.out _).mono ?_; rintro e w1 ⟨rfl, hw⟩; rw [hw]; clear hw w1)
        go_loop [21] (fun iv => ∃ k : Nat, k ≤ S.size ∧ iv = .int .i64 (k : Int) ∧ ((bsOf S).take k).all isDg = true) (fun iv => S.size - (intOf iv).toNat)
        case atStart => exact ⟨0, by omega, rfl, by simp⟩
        case round =>
          obtain ⟨k, hk, rfl, hall⟩ := hrel
          have HALL := hidX hall
          clear hall hb he
          by_cases hkl : k < S.size
          · have k0 : (0 : Int) ≤ (k : Int) := by omega
            have k1 : (k : Int) < (S.size : Int) := by omega
            have hkb : k < (bsOf S).length := by rw [bs_length]; exact hkl
            have eb : (bsOf S)[k] = S[k] := byte_at S k hkl
            have hdv := isD_dg S[k]
            by_cases hd : isDg S[k] = true
            · have HID : Hid (∀ w', Calls Tryz.prog 131 #[.int .u8 (S[k].toNat : Int)] w' fun e w1 => e = .returned (.bool true) ∧ w1 = w') := fun w' => (isDigit_any _ w').mono fun e w1 h => ⟨by rw [h.1, hdv, hd], h.2⟩
              have HA2 : Hid (((bsOf S).take (k + 1)).all isDg = true) := all_take_step hkb HALL.out (by rw [eb]; exact hd)
              clear eb hd hdv
              go_wp2_with (go_at_call 131; refine (HID.out _).mono ?_; rintro e w1 ⟨rfl, hw⟩; rw [hw]; clear hw w1)
              refine ⟨⟨k + 1, by omega, by go_num, HA2.out⟩, ?_⟩
              simp [intOf]
              omega
            · have hdf : isDg S[k] = false := by simpa using hd
              have HID : Hid (∀ w', Calls Tryz.prog 131 #[.int .u8 (S[k].toNat : Int)] w' fun e w1 => e = .returned (.bool false) ∧ w1 = w') := fun w' => (isDigit_any _ w').mono fun e w1 h => ⟨by rw [h.1, hdv, hdf], h.2⟩
              have HN : Hid (numOf t = none) := numOf_bad2 (by
                rw [← HDD.out]
                exact List.all_eq_false.2 ⟨(bsOf S)[k], List.getElem_mem hkb, by rw [eb]; simpa using hdf⟩)
              clear eb hd hdf hdv
              go_wp2_with (go_at_call 131; refine (HID.out _).mono ?_; rintro e w1 ⟨rfl, hw⟩; rw [hw]; clear hw w1)
              go_ret2
              exact IPost.no 0 rfl HN.out (Below.refl _ _)
          · obtain rfl : k = S.size := by omega
            have k1 : ¬ (S.size : Int) < (S.size : Int) := by omega
            have h3 : (stripM t).all isDg = true := by
              have := HALL.out
              rw [List.take_of_length_le (by rw [bs_length]; exact Nat.le_refl _), HDD.out] at this
              exact this
            rcases numOf_good HNN.out.1 HNN.out.2 h3 with ⟨v, hp, hn⟩ | ⟨hp, hn⟩
            · have HP := hidX (Tryz.strconv_ParseInt_10_at64_ok (mkS t) (by rw [mkS_size]; omega) v hp)
              have HN := hidX hn
              clear hp hn h3
              go_wp2_with (go_at_call 132; refine (HP.out _).mono ?_; rintro e w1 ⟨rfl, hw1⟩; have hb1 : Below w.heap.size w w1 := (by rcases hw1 with rfl | ⟨u, rfl⟩ <;> first | exact Below.refl _ _ | exact Lib.bytesWorld_below _ _ _); clear hw1)
              go_region
              go_wp2
              go_ret2
              exact ⟨v, true, rfl, HN.out, below_drew1 hb1⟩
            · have HP := hidX (Tryz.strconv_ParseInt_10_at64_range_var (mkS t) (by rw [mkS_size]; omega) hp tp p w HVAR.out)
              have HN := hidX hn
              clear hp hn h3
              go_wp2_with (go_at_call 132; refine HP.out.mono ?_; rintro e w1 ⟨N, rfl, _, _, hb1⟩)
              go_region
              go_wp2
              go_ret2
              exact IPost.no _ rfl HN.out (below_drew1 hb1)
end Go.Proofs.YtdhpoagjmiligaaGreatDoor

namespace Go.Proofs.YtdhpoagjmiligaaGreatDoor
open Go.RowKit
attribute [local go_sem ↓] Go.wp_at_zero Go.wp_at_succ

theorem errNamed : Tryz.prog.globalNamed "strconv.ErrRange" = some 4 := by kernel_rfl
/-- The library's error of numbers that are too great lies in its variable. -/
def ErrAt (w : World) : Prop := ∃ tp p, w.var? Tryz.prog "strconv.ErrRange" = some #[.iface tp p]
theorem ErrAt.below {w w' : World} (h : ErrAt w) (hb : Below w.heap.size w w') : ErrAt w' := by
  obtain ⟨tp, p, h⟩ := h
  refine ⟨tp, p, var?_below hb errNamed ?_ h⟩
  by_cases hg : 4 < w.heap.size
  · exact hg
  · unfold World.var? at h
    rw [errNamed] at h
    simp only [Option.bind_some] at h
    rw [Array.getElem?_eq_none (by omega)] at h
    cases h
/-- A word's kind, as the program counts it; what it keeps of its text. -/
def pkind (t : Bs) : Int := if (numOf t).isSome then 48 else if gSym t then 97 else if isVarW t then 63 else if testIx t ≠ 0 then 61 else if t ∈ arTx then 43 else if t = [95] then 95 else if t = [61, 62] then 62 else -1
def ptext (t : Bs) : Bs := if (numOf t).isSome then [] else if gSym t then t else if isVarW t then t.tail else if testIx t ≠ 0 then t else if t ∈ arTx then t else []
def pwV (k pos : Int) (t : Bs) (n : Int) : Value := .agg #[.int .i32 k, .int .i64 pos, .string (mkS t), .int .i64 n]
theorem has63 (t : Bs) : Lib.hasPrefix t [63] = decide (t.head? = some 63) := by
  unfold Lib.hasPrefix
  cases t with
  | nil => rfl
  | cons b r =>
    by_cases h : b = 63
    · subst h
      simp
    · have h' : ¬ (63 : UInt8) = b := fun e => h e.symm
      have e : ((63 : UInt8) == b) = false := by simpa using h'
      simp [List.isPrefixOf, h, e]
theorem trim63 {t : Bs} (h : t.head? = some 63) : Lib.trimPrefix t [63] = t.tail := by
  unfold Lib.trimPrefix
  rw [has63, decide_eq_true h]
  simp

def pwL (k pos : Int) (t : Bs) (n : Int) : List Value := [.int .i32 k, .int .i64 pos, .string (mkS t), .int .i64 n]
theorem pwL_one (k pos : Int) (t : Bs) (n : Int) : ∀ v ∈ pwL k pos t n, v.oneCell' = true := by
  intro u hu
  simp [pwL] at hu
  rcases hu with rfl | rfl | rfl | rfl <;> rfl
theorem infoPW : (Tryz.prog.info? 116).map (·.size) = some 4 := by kernel_rfl
theorem pk_eq {k : Int} {x t : Bs} {n : Int} (h1 : pkind t = k) (h2 : ptext t = x) (h3 : mnum t = n) : Ending.returned (.agg (pwL k 0 x n).toArray) = .returned (pwV (pkind t) 0 (ptext t) (mnum t)) := by
  rw [h1, h2, h3]
  rfl
theorem ar_one {t : Bs} (h : t ∈ arTx) : ∃ b, t = [b] := by
  simp [arTx] at h
  rcases h with h | h | h | h | h <;> exact ⟨_, h⟩
theorem isAr_at {t : Bs} (h0 : 0 < (mkS t).size) (h1 : t.length = 1) : isAr ((mkS t)[0].toNat : Int) = decide (t ∈ arTx) := by
  rw [isAr_mem]
  match t, h1 with
  | [b], _ => rfl

set_option maxRecDepth 100000 in
set_option maxHeartbeats 6400000 in
theorem wordOf_any (t : Bs) (w : World) (hl : t.length ≤ 20000) (hE : ErrAt w) (hT : TestsAt w 1 1) : Calls Tryz.prog 117 #[.string (mkS t)] w fun e w' => e = .returned (pwV (pkind t) 0 (ptext t) (mnum t)) ∧ Below w.heap.size w w' := by
  have HE := hidX hE
  have HT := hidX hT
  clear hE hT
  have hms : (mkS t).size ≤ maxLen := by rw [mkS_size]; unfold maxLen; omega
  have htl : t.tail.length ≤ t.length := by simp
  go_enter Tryz.func117, Tryz.ntmps117
  go_upto_region 1 with fail
  refine lift_alloc ?_
  intro wb hWb hqb
  have hgl : w.heap.size < wb.heap.size := lt_of_block' hqb
  have HQB := hidX hqb
  have HNO : Hid (Calls Tryz.prog 123 #[.string (mkS t)] wb (IPost t wb)) := (by
    obtain ⟨tp, p, h⟩ := HE.out.below hWb
    exact numberOf_any t wb hl tp p h)
  have HTB := hidX (HT.out.below hWb)
  clear hqb
  cases hn : numOf t with
  | some n =>
    have hmn : mnum t = n := by unfold mnum; rw [hn]; rfl
    have HPK : Hid (Ending.returned (.agg (pwL 48 0 [] n).toArray) = .returned (pwV (pkind t) 0 (ptext t) (mnum t))) := pk_eq (by unfold pkind; simp [hn]) (by unfold ptext; simp [hn]) hmn
    go_wp2_with (first | (go_at_call 123; refine HNO.out.mono ?_; intro e w1 hp; obtain ⟨rfl, hb1⟩ := hp.got hn; have hq1 := (hb1.block _ hgl).trans HQB.out) | (refine wpList_store_blk (by rfl) 116 (.tmp 2) (.tmp 14) (by rfl) w.heap.size (pwL 48 0 [] n) (by rfl) (by rfl) _ 116 hq1 (by rfl) infoPW (pwL_one _ _ _ _) ?_; intro w3 hb3 ht3) | fail)
    have hld := run_loadVar_mid (P := Tryz.prog) w3 w.heap.size 0 116 (pwL 48 0 [] n) _ (range_blk hb3.out) Tryz.underlying116 rfl infoPW
    go_frame
    exact bodyPost_ret (v := .agg (pwL 48 0 [] n).toArray) (by simp [results, Tryz.results117, asAddr, hld]) rfl ⟨HPK.out, (hWb.trans (hb1.mono hWb.size)).trans (ht3.out.below (Nat.le_refl _))⟩
  | none =>
    have hmn : mnum t = 0 := by unfold mnum; rw [hn]; rfl
    cases hgs : gSym t with
    | true =>
      have HGS : Hid (∀ w', Calls Tryz.prog 124 #[.string (mkS (t))] w' fun e w1 => e = .returned (.bool true) ∧ w1 = w') := fun w' => (goodSymbol_any (mkS t) w' hms).mono fun e w1 h => ⟨by rw [h.1, ← hgs]; rfl, h.2⟩
      have HPK : Hid (Ending.returned (.agg (pwL 97 0 t 0).toArray) = .returned (pwV (pkind t) 0 (ptext t) (mnum t))) := pk_eq (by unfold pkind; simp [hn, hgs]) (by unfold ptext; simp [hn, hgs]) hmn
      go_wp2_with (first | (go_at_call 123; refine HNO.out.mono ?_; intro e w1 hp; obtain ⟨m, rfl, hb1⟩ := hp.not hn; have hq1 := (hb1.block _ hgl).trans HQB.out) | (go_at_call 124; refine (HGS.out _).mono ?_; rintro e w2 ⟨rfl, hw⟩; rw [hw]; clear hw w2) | (refine wpList_store_blk (by rfl) 116 (.tmp 2) (.tmp 18) (by rfl) w.heap.size (pwL 97 0 t 0) (by rfl) (by rfl) _ 116 hq1 (by rfl) infoPW (pwL_one _ _ _ _) ?_; intro w3 hb3 ht3) | fail)
      have hld := run_loadVar_mid (P := Tryz.prog) w3 w.heap.size 0 116 (pwL 97 0 t 0) _ (range_blk hb3.out) Tryz.underlying116 rfl infoPW
      go_frame
      exact bodyPost_ret (v := .agg (pwL 97 0 t 0).toArray) (by simp [results, Tryz.results117, asAddr, hld]) rfl ⟨HPK.out, (hWb.trans (hb1.mono hWb.size)).trans (ht3.out.below (Nat.le_refl _))⟩
    | false =>
      have HGS : Hid (∀ w', Calls Tryz.prog 124 #[.string (mkS (t))] w' fun e w1 => e = .returned (.bool false) ∧ w1 = w') := fun w' => (goodSymbol_any (mkS t) w' hms).mono fun e w1 h => ⟨by rw [h.1, ← hgs]; rfl, h.2⟩
      by_cases h63 : t.head? = some 63
      · have HCP : Hid (∀ w', Calls Tryz.prog 125 #[.string (mkS t), .string ⟨#[63]⟩] w' fun e w1 => e = .returned (.tuple #[.string (mkS t.tail), .bool true]) ∧ w1 = w') := fun w' => (Tryz.strings_CutPrefix (mkS t) ⟨#[63]⟩ w').mono fun e w1 h => ⟨by rw [h.1, ← trim63 h63, ← show Lib.hasPrefix t [63] = true by rw [has63, decide_eq_true h63]]; rfl, h.2⟩
        have hmt : (mkS t.tail).size ≤ maxLen := by rw [mkS_size]; unfold maxLen; omega
        cases hgt : gSym t.tail with
        | true =>
          have hv : isVarW t = true := by unfold isVarW; rw [decide_eq_true h63, hgt]; rfl
          have HGT : Hid (∀ w', Calls Tryz.prog 124 #[.string (mkS (t.tail))] w' fun e w1 => e = .returned (.bool true) ∧ w1 = w') := fun w' => (goodSymbol_any (mkS t.tail) w' hmt).mono fun e w1 h => ⟨by rw [h.1, ← hgt]; rfl, h.2⟩
          have HPK : Hid (Ending.returned (.agg (pwL 63 0 t.tail 0).toArray) = .returned (pwV (pkind t) 0 (ptext t) (mnum t))) := pk_eq (by unfold pkind; simp [hn, hgs, hv]) (by unfold ptext; simp [hn, hgs, hv]) hmn
          go_upto_region 6 with (first | (go_at_call 123; refine HNO.out.mono ?_; intro e w1 hp; obtain ⟨m, rfl, hb1⟩ := hp.not hn; have hq1 := (hb1.block _ hgl).trans HQB.out) | (go_at_call 124; refine (HGS.out _).mono ?_; rintro e w2 ⟨rfl, hw⟩; rw [hw]; clear hw w2) | fail)
          go_wp2_with (first | (go_at_call 125; refine (HCP.out _).mono ?_; rintro e w2 ⟨rfl, hw⟩; rw [hw]; clear hw w2) | (go_at_call 124; refine (HGT.out _).mono ?_; rintro e w2 ⟨rfl, hw⟩; rw [hw]; clear hw w2) | (refine wpList_store_blk (by rfl) 116 (.tmp 2) (.tmp 30) (by rfl) w.heap.size (pwL 63 0 t.tail 0) (by rfl) (by rfl) _ 116 hq1 (by rfl) infoPW (pwL_one _ _ _ _) ?_; intro w3 hb3 ht3) | fail)
          have hld := run_loadVar_mid (P := Tryz.prog) w3 w.heap.size 0 116 (pwL 63 0 t.tail 0) _ (range_blk hb3.out) Tryz.underlying116 rfl infoPW
          go_frame
          exact bodyPost_ret (v := .agg (pwL 63 0 t.tail 0).toArray) (by simp [results, Tryz.results117, asAddr, hld]) rfl ⟨HPK.out, (hWb.trans (hb1.mono hWb.size)).trans (ht3.out.below (Nat.le_refl _))⟩
        | false =>
          have hv : isVarW t = false := by unfold isVarW; rw [hgt, Bool.and_false]
          have HGT : Hid (∀ w', Calls Tryz.prog 124 #[.string (mkS (t.tail))] w' fun e w1 => e = .returned (.bool false) ∧ w1 = w') := fun w' => (goodSymbol_any (mkS t.tail) w' hmt).mono fun e w1 h => ⟨by rw [h.1, ← hgt]; rfl, h.2⟩
          go_upto_region 6 with (first | (go_at_call 123; refine HNO.out.mono ?_; intro e w1 hp; obtain ⟨m, rfl, hb1⟩ := hp.not hn; have hq1 := (hb1.block _ hgl).trans HQB.out) | (go_at_call 124; refine (HGS.out _).mono ?_; rintro e w2 ⟨rfl, hw⟩; rw [hw]; clear hw w2) | fail)
          go_upto_region 9 with (first | (go_at_call 125; refine (HCP.out _).mono ?_; rintro e w2 ⟨rfl, hw⟩; rw [hw]; clear hw w2) | (go_at_call 124; refine (HGT.out _).mono ?_; rintro e w2 ⟨rfl, hw⟩; rw [hw]; clear hw w2) | fail)
          clear h63 hmt htl hms
          have HTO := hidX (testOf_any t w1 ((HTB.out.below hb1)))
          by_cases htx : testIx t = 0
          · have hti : ((testIx t : Int) != 0) = false := by rw [htx]; rfl
            go_upto_region 11 with (go_at_call 126; refine HTO.out.mono ?_; rintro e w2 ⟨rfl, hw⟩; rw [hw]; clear hw w2)
            by_cases har : t ∈ arTx
            · obtain ⟨b, hb⟩ := ar_one har
              have hs1 : (((mkS t).size : Int) == 1) = true := by rw [mkS_size, hb]; rfl
              have hs0 : 0 < (mkS t).size := by rw [mkS_size, hb]; exact Nat.one_pos
              have j0 : (0 : Int) < ((mkS t).size : Int) := by omega
              have HIA : Hid (∀ w', Calls Tryz.prog 127 #[.int .u8 ((mkS t)[0].toNat : Int)] w' fun e w1 => e = .returned (.bool true) ∧ w1 = w') := fun w' => (isArith_any _ (by omega) (by have := UInt8.toNat_lt (mkS t)[0]; omega) w').mono fun e w1 h => ⟨by rw [h.1, isAr_at hs0 (by rw [hb]; rfl), decide_eq_true har], h.2⟩
              have HPK : Hid (Ending.returned (.agg (pwL 43 0 t 0).toArray) = .returned (pwV (pkind t) 0 (ptext t) (mnum t))) := pk_eq (by unfold pkind; simp [hn, hgs, hv, htx, har]) (by unfold ptext; simp [hn, hgs, hv, htx, har]) hmn
              clear hb har htx
              go_wp2_with (first | (go_at_call 127; refine (HIA.out _).mono ?_; rintro e w2 ⟨rfl, hw⟩; rw [hw]; clear hw w2) | (refine wpList_store_blk (by rfl) 116 (.tmp 2) (.tmp 45) (by rfl) w.heap.size (pwL 43 0 t 0) (by rfl) (by rfl) _ 116 hq1 (by rfl) infoPW (pwL_one _ _ _ _) ?_; intro w3 hb3 ht3) | fail)
              have hld := run_loadVar_mid (P := Tryz.prog) w3 w.heap.size 0 116 (pwL 43 0 t 0) _ (range_blk hb3.out) Tryz.underlying116 rfl infoPW
              go_frame
              exact bodyPost_ret (v := .agg (pwL 43 0 t 0).toArray) (by simp [results, Tryz.results117, asAddr, hld]) rfl ⟨HPK.out, (hWb.trans (hb1.mono hWb.size)).trans (ht3.out.below (Nat.le_refl _))⟩
            · by_cases hs : (mkS t).size = 1
              · have hs1 : (((mkS t).size : Int) == 1) = true := by rw [hs]; rfl
                have hs0 : 0 < (mkS t).size := by omega
                have j0 : (0 : Int) < ((mkS t).size : Int) := by omega
                have HIA : Hid (∀ w', Calls Tryz.prog 127 #[.int .u8 ((mkS t)[0].toNat : Int)] w' fun e w1 => e = .returned (.bool false) ∧ w1 = w') := fun w' => (isArith_any _ (by omega) (by have := UInt8.toNat_lt (mkS t)[0]; omega) w').mono fun e w1 h => ⟨by rw [h.1, isAr_at hs0 (by rw [← mkS_size]; exact hs), decide_eq_false har], h.2⟩
                go_upto_region 13 with (go_at_call 127; refine (HIA.out _).mono ?_; rintro e w2 ⟨rfl, hw⟩; rw [hw]; clear hw w2)
                have he1 := beq_lit (mkS t) [95]
                have he2 := beq_lit (mkS t) [61, 62]
                rw [bs_mkS] at he1 he2
                by_cases h95 : t = [95]
                · rw [decide_eq_true h95] at he1
                  have HPK : Hid (Ending.returned (.agg (pwL 95 0 [] 0).toArray) = .returned (pwV (pkind t) 0 (ptext t) (mnum t))) := pk_eq (by unfold pkind; rw [if_neg (by rw [hn]; decide), if_neg (by rw [hgs]; decide), if_neg (by rw [hv]; decide), if_neg (fun h => h htx), if_neg har, if_pos h95]) (by unfold ptext; rw [if_neg (by rw [hn]; decide), if_neg (by rw [hgs]; decide), if_neg (by rw [hv]; decide), if_neg (fun h => h htx), if_neg har]) hmn
                  clear h95 he2
                  go_wp2_with (first | (refine wpList_store_blk (by rfl) 116 (.tmp 2) (.tmp 49) (by rfl) w.heap.size (pwL 95 0 [] 0) (by rfl) (by rfl) _ 116 hq1 (by rfl) infoPW (pwL_one _ _ _ _) ?_; intro w3 hb3 ht3) | fail)
                  have hld := run_loadVar_mid (P := Tryz.prog) w3 w.heap.size 0 116 (pwL 95 0 [] 0) _ (range_blk hb3.out) Tryz.underlying116 rfl infoPW
                  go_frame
                  exact bodyPost_ret (v := .agg (pwL 95 0 [] 0).toArray) (by simp [results, Tryz.results117, asAddr, hld]) rfl ⟨HPK.out, (hWb.trans (hb1.mono hWb.size)).trans (ht3.out.below (Nat.le_refl _))⟩
                · rw [decide_eq_false h95] at he1
                  by_cases h62 : t = [61, 62]
                  · rw [decide_eq_true h62] at he2
                    have HPK : Hid (Ending.returned (.agg (pwL 62 0 [] 0).toArray) = .returned (pwV (pkind t) 0 (ptext t) (mnum t))) := pk_eq (by unfold pkind; rw [if_neg (by rw [hn]; decide), if_neg (by rw [hgs]; decide), if_neg (by rw [hv]; decide), if_neg (fun h => h htx), if_neg har, if_neg h95, if_pos h62]) (by unfold ptext; rw [if_neg (by rw [hn]; decide), if_neg (by rw [hgs]; decide), if_neg (by rw [hv]; decide), if_neg (fun h => h htx), if_neg har]) hmn
                    clear h95 h62
                    go_wp2_with (first | (refine wpList_store_blk (by rfl) 116 (.tmp 2) (.tmp 52) (by rfl) w.heap.size (pwL 62 0 [] 0) (by rfl) (by rfl) _ 116 hq1 (by rfl) infoPW (pwL_one _ _ _ _) ?_; intro w3 hb3 ht3) | fail)
                    have hld := run_loadVar_mid (P := Tryz.prog) w3 w.heap.size 0 116 (pwL 62 0 [] 0) _ (range_blk hb3.out) Tryz.underlying116 rfl infoPW
                    go_frame
                    exact bodyPost_ret (v := .agg (pwL 62 0 [] 0).toArray) (by simp [results, Tryz.results117, asAddr, hld]) rfl ⟨HPK.out, (hWb.trans (hb1.mono hWb.size)).trans (ht3.out.below (Nat.le_refl _))⟩
                  · rw [decide_eq_false h62] at he2
                    have HPK : Hid (Ending.returned (.agg (pwL (-1) 0 [] 0).toArray) = .returned (pwV (pkind t) 0 (ptext t) (mnum t))) := pk_eq (by unfold pkind; rw [if_neg (by rw [hn]; decide), if_neg (by rw [hgs]; decide), if_neg (by rw [hv]; decide), if_neg (fun h => h htx), if_neg har, if_neg h95, if_neg h62]) (by unfold ptext; rw [if_neg (by rw [hn]; decide), if_neg (by rw [hgs]; decide), if_neg (by rw [hv]; decide), if_neg (fun h => h htx), if_neg har]) hmn
                    clear h95 h62
                    go_wp2_with (first | (refine wpList_store_blk (by rfl) 116 (.tmp 2) (.tmp 53) (by rfl) w.heap.size (pwL (-1) 0 [] 0) (by rfl) (by rfl) _ 116 hq1 (by rfl) infoPW (pwL_one _ _ _ _) ?_; intro w3 hb3 ht3) | fail)
                    have hld := run_loadVar_mid (P := Tryz.prog) w3 w.heap.size 0 116 (pwL (-1) 0 [] 0) _ (range_blk hb3.out) Tryz.underlying116 rfl infoPW
                    go_frame
                    exact bodyPost_ret (v := .agg (pwL (-1) 0 [] 0).toArray) (by simp [results, Tryz.results117, asAddr, hld]) rfl ⟨HPK.out, (hWb.trans (hb1.mono hWb.size)).trans (ht3.out.below (Nat.le_refl _))⟩
              · have hs1 : (((mkS t).size : Int) == 1) = false := beqF (by omega)
                go_upto_region 13 with fail
                have he1 := beq_lit (mkS t) [95]
                have he2 := beq_lit (mkS t) [61, 62]
                rw [bs_mkS] at he1 he2
                by_cases h95 : t = [95]
                · rw [decide_eq_true h95] at he1
                  have HPK : Hid (Ending.returned (.agg (pwL 95 0 [] 0).toArray) = .returned (pwV (pkind t) 0 (ptext t) (mnum t))) := pk_eq (by unfold pkind; rw [if_neg (by rw [hn]; decide), if_neg (by rw [hgs]; decide), if_neg (by rw [hv]; decide), if_neg (fun h => h htx), if_neg har, if_pos h95]) (by unfold ptext; rw [if_neg (by rw [hn]; decide), if_neg (by rw [hgs]; decide), if_neg (by rw [hv]; decide), if_neg (fun h => h htx), if_neg har]) hmn
                  clear h95 he2
                  go_wp2_with (first | (refine wpList_store_blk (by rfl) 116 (.tmp 2) (.tmp 49) (by rfl) w.heap.size (pwL 95 0 [] 0) (by rfl) (by rfl) _ 116 hq1 (by rfl) infoPW (pwL_one _ _ _ _) ?_; intro w3 hb3 ht3) | fail)
                  have hld := run_loadVar_mid (P := Tryz.prog) w3 w.heap.size 0 116 (pwL 95 0 [] 0) _ (range_blk hb3.out) Tryz.underlying116 rfl infoPW
                  go_frame
                  exact bodyPost_ret (v := .agg (pwL 95 0 [] 0).toArray) (by simp [results, Tryz.results117, asAddr, hld]) rfl ⟨HPK.out, (hWb.trans (hb1.mono hWb.size)).trans (ht3.out.below (Nat.le_refl _))⟩
                · rw [decide_eq_false h95] at he1
                  by_cases h62 : t = [61, 62]
                  · rw [decide_eq_true h62] at he2
                    have HPK : Hid (Ending.returned (.agg (pwL 62 0 [] 0).toArray) = .returned (pwV (pkind t) 0 (ptext t) (mnum t))) := pk_eq (by unfold pkind; rw [if_neg (by rw [hn]; decide), if_neg (by rw [hgs]; decide), if_neg (by rw [hv]; decide), if_neg (fun h => h htx), if_neg har, if_neg h95, if_pos h62]) (by unfold ptext; rw [if_neg (by rw [hn]; decide), if_neg (by rw [hgs]; decide), if_neg (by rw [hv]; decide), if_neg (fun h => h htx), if_neg har]) hmn
                    clear h95 h62
                    go_wp2_with (first | (refine wpList_store_blk (by rfl) 116 (.tmp 2) (.tmp 52) (by rfl) w.heap.size (pwL 62 0 [] 0) (by rfl) (by rfl) _ 116 hq1 (by rfl) infoPW (pwL_one _ _ _ _) ?_; intro w3 hb3 ht3) | fail)
                    have hld := run_loadVar_mid (P := Tryz.prog) w3 w.heap.size 0 116 (pwL 62 0 [] 0) _ (range_blk hb3.out) Tryz.underlying116 rfl infoPW
                    go_frame
                    exact bodyPost_ret (v := .agg (pwL 62 0 [] 0).toArray) (by simp [results, Tryz.results117, asAddr, hld]) rfl ⟨HPK.out, (hWb.trans (hb1.mono hWb.size)).trans (ht3.out.below (Nat.le_refl _))⟩
                  · rw [decide_eq_false h62] at he2
                    have HPK : Hid (Ending.returned (.agg (pwL (-1) 0 [] 0).toArray) = .returned (pwV (pkind t) 0 (ptext t) (mnum t))) := pk_eq (by unfold pkind; rw [if_neg (by rw [hn]; decide), if_neg (by rw [hgs]; decide), if_neg (by rw [hv]; decide), if_neg (fun h => h htx), if_neg har, if_neg h95, if_neg h62]) (by unfold ptext; rw [if_neg (by rw [hn]; decide), if_neg (by rw [hgs]; decide), if_neg (by rw [hv]; decide), if_neg (fun h => h htx), if_neg har]) hmn
                    clear h95 h62
                    go_wp2_with (first | (refine wpList_store_blk (by rfl) 116 (.tmp 2) (.tmp 53) (by rfl) w.heap.size (pwL (-1) 0 [] 0) (by rfl) (by rfl) _ 116 hq1 (by rfl) infoPW (pwL_one _ _ _ _) ?_; intro w3 hb3 ht3) | fail)
                    have hld := run_loadVar_mid (P := Tryz.prog) w3 w.heap.size 0 116 (pwL (-1) 0 [] 0) _ (range_blk hb3.out) Tryz.underlying116 rfl infoPW
                    go_frame
                    exact bodyPost_ret (v := .agg (pwL (-1) 0 [] 0).toArray) (by simp [results, Tryz.results117, asAddr, hld]) rfl ⟨HPK.out, (hWb.trans (hb1.mono hWb.size)).trans (ht3.out.below (Nat.le_refl _))⟩
          · have hti : ((testIx t : Int) != 0) = true := by simp; omega
            have HPK : Hid (Ending.returned (.agg (pwL 61 0 t 0).toArray) = .returned (pwV (pkind t) 0 (ptext t) (mnum t))) := pk_eq (by unfold pkind; simp [hn, hgs, hv, htx]) (by unfold ptext; simp [hn, hgs, hv, htx]) hmn
            clear htx
            go_wp2_with (first | (go_at_call 126; refine HTO.out.mono ?_; rintro e w2 ⟨rfl, hw⟩; rw [hw]; clear hw w2) | (refine wpList_store_blk (by rfl) 116 (.tmp 2) (.tmp 35) (by rfl) w.heap.size (pwL 61 0 t 0) (by rfl) (by rfl) _ 116 hq1 (by rfl) infoPW (pwL_one _ _ _ _) ?_; intro w3 hb3 ht3) | fail)
            have hld := run_loadVar_mid (P := Tryz.prog) w3 w.heap.size 0 116 (pwL 61 0 t 0) _ (range_blk hb3.out) Tryz.underlying116 rfl infoPW
            go_frame
            exact bodyPost_ret (v := .agg (pwL 61 0 t 0).toArray) (by simp [results, Tryz.results117, asAddr, hld]) rfl ⟨HPK.out, (hWb.trans (hb1.mono hWb.size)).trans (ht3.out.below (Nat.le_refl _))⟩
      · have hv : isVarW t = false := by unfold isVarW; rw [decide_eq_false h63, Bool.false_and]
        have HCP : Hid (∀ w', Calls Tryz.prog 125 #[.string (mkS t), .string ⟨#[63]⟩] w' fun e w1 => e = .returned (.tuple #[.string (mkS (Lib.trimPrefix t [63])), .bool false]) ∧ w1 = w') := fun w' => (Tryz.strings_CutPrefix (mkS t) ⟨#[63]⟩ w').mono fun e w1 h => ⟨by rw [h.1, ← show Lib.hasPrefix t [63] = false by rw [has63, decide_eq_false h63]]; rfl, h.2⟩
        go_upto_region 6 with (first | (go_at_call 123; refine HNO.out.mono ?_; intro e w1 hp; obtain ⟨m, rfl, hb1⟩ := hp.not hn; have hq1 := (hb1.block _ hgl).trans HQB.out) | (go_at_call 124; refine (HGS.out _).mono ?_; rintro e w2 ⟨rfl, hw⟩; rw [hw]; clear hw w2) | fail)
        go_upto_region 9 with (go_at_call 125; refine (HCP.out _).mono ?_; rintro e w2 ⟨rfl, hw⟩; rw [hw]; clear hw w2)
        clear h63 htl hms
        have HTO := hidX (testOf_any t w1 ((HTB.out.below hb1)))
        by_cases htx : testIx t = 0
        · have hti : ((testIx t : Int) != 0) = false := by rw [htx]; rfl
          go_upto_region 11 with (go_at_call 126; refine HTO.out.mono ?_; rintro e w2 ⟨rfl, hw⟩; rw [hw]; clear hw w2)
          by_cases har : t ∈ arTx
          · obtain ⟨b, hb⟩ := ar_one har
            have hs1 : (((mkS t).size : Int) == 1) = true := by rw [mkS_size, hb]; rfl
            have hs0 : 0 < (mkS t).size := by rw [mkS_size, hb]; exact Nat.one_pos
            have j0 : (0 : Int) < ((mkS t).size : Int) := by omega
            have HIA : Hid (∀ w', Calls Tryz.prog 127 #[.int .u8 ((mkS t)[0].toNat : Int)] w' fun e w1 => e = .returned (.bool true) ∧ w1 = w') := fun w' => (isArith_any _ (by omega) (by have := UInt8.toNat_lt (mkS t)[0]; omega) w').mono fun e w1 h => ⟨by rw [h.1, isAr_at hs0 (by rw [hb]; rfl), decide_eq_true har], h.2⟩
            have HPK : Hid (Ending.returned (.agg (pwL 43 0 t 0).toArray) = .returned (pwV (pkind t) 0 (ptext t) (mnum t))) := pk_eq (by unfold pkind; simp [hn, hgs, hv, htx, har]) (by unfold ptext; simp [hn, hgs, hv, htx, har]) hmn
            clear hb har htx
            go_wp2_with (first | (go_at_call 127; refine (HIA.out _).mono ?_; rintro e w2 ⟨rfl, hw⟩; rw [hw]; clear hw w2) | (refine wpList_store_blk (by rfl) 116 (.tmp 2) (.tmp 45) (by rfl) w.heap.size (pwL 43 0 t 0) (by rfl) (by rfl) _ 116 hq1 (by rfl) infoPW (pwL_one _ _ _ _) ?_; intro w3 hb3 ht3) | fail)
            have hld := run_loadVar_mid (P := Tryz.prog) w3 w.heap.size 0 116 (pwL 43 0 t 0) _ (range_blk hb3.out) Tryz.underlying116 rfl infoPW
            go_frame
            exact bodyPost_ret (v := .agg (pwL 43 0 t 0).toArray) (by simp [results, Tryz.results117, asAddr, hld]) rfl ⟨HPK.out, (hWb.trans (hb1.mono hWb.size)).trans (ht3.out.below (Nat.le_refl _))⟩
          · by_cases hs : (mkS t).size = 1
            · have hs1 : (((mkS t).size : Int) == 1) = true := by rw [hs]; rfl
              have hs0 : 0 < (mkS t).size := by omega
              have j0 : (0 : Int) < ((mkS t).size : Int) := by omega
              have HIA : Hid (∀ w', Calls Tryz.prog 127 #[.int .u8 ((mkS t)[0].toNat : Int)] w' fun e w1 => e = .returned (.bool false) ∧ w1 = w') := fun w' => (isArith_any _ (by omega) (by have := UInt8.toNat_lt (mkS t)[0]; omega) w').mono fun e w1 h => ⟨by rw [h.1, isAr_at hs0 (by rw [← mkS_size]; exact hs), decide_eq_false har], h.2⟩
              go_upto_region 13 with (go_at_call 127; refine (HIA.out _).mono ?_; rintro e w2 ⟨rfl, hw⟩; rw [hw]; clear hw w2)
              have he1 := beq_lit (mkS t) [95]
              have he2 := beq_lit (mkS t) [61, 62]
              rw [bs_mkS] at he1 he2
              by_cases h95 : t = [95]
              · rw [decide_eq_true h95] at he1
                have HPK : Hid (Ending.returned (.agg (pwL 95 0 [] 0).toArray) = .returned (pwV (pkind t) 0 (ptext t) (mnum t))) := pk_eq (by unfold pkind; rw [if_neg (by rw [hn]; decide), if_neg (by rw [hgs]; decide), if_neg (by rw [hv]; decide), if_neg (fun h => h htx), if_neg har, if_pos h95]) (by unfold ptext; rw [if_neg (by rw [hn]; decide), if_neg (by rw [hgs]; decide), if_neg (by rw [hv]; decide), if_neg (fun h => h htx), if_neg har]) hmn
                clear h95 he2
                go_wp2_with (first | (refine wpList_store_blk (by rfl) 116 (.tmp 2) (.tmp 49) (by rfl) w.heap.size (pwL 95 0 [] 0) (by rfl) (by rfl) _ 116 hq1 (by rfl) infoPW (pwL_one _ _ _ _) ?_; intro w3 hb3 ht3) | fail)
                have hld := run_loadVar_mid (P := Tryz.prog) w3 w.heap.size 0 116 (pwL 95 0 [] 0) _ (range_blk hb3.out) Tryz.underlying116 rfl infoPW
                go_frame
                exact bodyPost_ret (v := .agg (pwL 95 0 [] 0).toArray) (by simp [results, Tryz.results117, asAddr, hld]) rfl ⟨HPK.out, (hWb.trans (hb1.mono hWb.size)).trans (ht3.out.below (Nat.le_refl _))⟩
              · rw [decide_eq_false h95] at he1
                by_cases h62 : t = [61, 62]
                · rw [decide_eq_true h62] at he2
                  have HPK : Hid (Ending.returned (.agg (pwL 62 0 [] 0).toArray) = .returned (pwV (pkind t) 0 (ptext t) (mnum t))) := pk_eq (by unfold pkind; rw [if_neg (by rw [hn]; decide), if_neg (by rw [hgs]; decide), if_neg (by rw [hv]; decide), if_neg (fun h => h htx), if_neg har, if_neg h95, if_pos h62]) (by unfold ptext; rw [if_neg (by rw [hn]; decide), if_neg (by rw [hgs]; decide), if_neg (by rw [hv]; decide), if_neg (fun h => h htx), if_neg har]) hmn
                  clear h95 h62
                  go_wp2_with (first | (refine wpList_store_blk (by rfl) 116 (.tmp 2) (.tmp 52) (by rfl) w.heap.size (pwL 62 0 [] 0) (by rfl) (by rfl) _ 116 hq1 (by rfl) infoPW (pwL_one _ _ _ _) ?_; intro w3 hb3 ht3) | fail)
                  have hld := run_loadVar_mid (P := Tryz.prog) w3 w.heap.size 0 116 (pwL 62 0 [] 0) _ (range_blk hb3.out) Tryz.underlying116 rfl infoPW
                  go_frame
                  exact bodyPost_ret (v := .agg (pwL 62 0 [] 0).toArray) (by simp [results, Tryz.results117, asAddr, hld]) rfl ⟨HPK.out, (hWb.trans (hb1.mono hWb.size)).trans (ht3.out.below (Nat.le_refl _))⟩
                · rw [decide_eq_false h62] at he2
                  have HPK : Hid (Ending.returned (.agg (pwL (-1) 0 [] 0).toArray) = .returned (pwV (pkind t) 0 (ptext t) (mnum t))) := pk_eq (by unfold pkind; rw [if_neg (by rw [hn]; decide), if_neg (by rw [hgs]; decide), if_neg (by rw [hv]; decide), if_neg (fun h => h htx), if_neg har, if_neg h95, if_neg h62]) (by unfold ptext; rw [if_neg (by rw [hn]; decide), if_neg (by rw [hgs]; decide), if_neg (by rw [hv]; decide), if_neg (fun h => h htx), if_neg har]) hmn
                  clear h95 h62
                  go_wp2_with (first | (refine wpList_store_blk (by rfl) 116 (.tmp 2) (.tmp 53) (by rfl) w.heap.size (pwL (-1) 0 [] 0) (by rfl) (by rfl) _ 116 hq1 (by rfl) infoPW (pwL_one _ _ _ _) ?_; intro w3 hb3 ht3) | fail)
                  have hld := run_loadVar_mid (P := Tryz.prog) w3 w.heap.size 0 116 (pwL (-1) 0 [] 0) _ (range_blk hb3.out) Tryz.underlying116 rfl infoPW
                  go_frame
                  exact bodyPost_ret (v := .agg (pwL (-1) 0 [] 0).toArray) (by simp [results, Tryz.results117, asAddr, hld]) rfl ⟨HPK.out, (hWb.trans (hb1.mono hWb.size)).trans (ht3.out.below (Nat.le_refl _))⟩
            · have hs1 : (((mkS t).size : Int) == 1) = false := beqF (by omega)
              go_upto_region 13 with fail
              have he1 := beq_lit (mkS t) [95]
              have he2 := beq_lit (mkS t) [61, 62]
              rw [bs_mkS] at he1 he2
              by_cases h95 : t = [95]
              · rw [decide_eq_true h95] at he1
                have HPK : Hid (Ending.returned (.agg (pwL 95 0 [] 0).toArray) = .returned (pwV (pkind t) 0 (ptext t) (mnum t))) := pk_eq (by unfold pkind; rw [if_neg (by rw [hn]; decide), if_neg (by rw [hgs]; decide), if_neg (by rw [hv]; decide), if_neg (fun h => h htx), if_neg har, if_pos h95]) (by unfold ptext; rw [if_neg (by rw [hn]; decide), if_neg (by rw [hgs]; decide), if_neg (by rw [hv]; decide), if_neg (fun h => h htx), if_neg har]) hmn
                clear h95 he2
                go_wp2_with (first | (refine wpList_store_blk (by rfl) 116 (.tmp 2) (.tmp 49) (by rfl) w.heap.size (pwL 95 0 [] 0) (by rfl) (by rfl) _ 116 hq1 (by rfl) infoPW (pwL_one _ _ _ _) ?_; intro w3 hb3 ht3) | fail)
                have hld := run_loadVar_mid (P := Tryz.prog) w3 w.heap.size 0 116 (pwL 95 0 [] 0) _ (range_blk hb3.out) Tryz.underlying116 rfl infoPW
                go_frame
                exact bodyPost_ret (v := .agg (pwL 95 0 [] 0).toArray) (by simp [results, Tryz.results117, asAddr, hld]) rfl ⟨HPK.out, (hWb.trans (hb1.mono hWb.size)).trans (ht3.out.below (Nat.le_refl _))⟩
              · rw [decide_eq_false h95] at he1
                by_cases h62 : t = [61, 62]
                · rw [decide_eq_true h62] at he2
                  have HPK : Hid (Ending.returned (.agg (pwL 62 0 [] 0).toArray) = .returned (pwV (pkind t) 0 (ptext t) (mnum t))) := pk_eq (by unfold pkind; rw [if_neg (by rw [hn]; decide), if_neg (by rw [hgs]; decide), if_neg (by rw [hv]; decide), if_neg (fun h => h htx), if_neg har, if_neg h95, if_pos h62]) (by unfold ptext; rw [if_neg (by rw [hn]; decide), if_neg (by rw [hgs]; decide), if_neg (by rw [hv]; decide), if_neg (fun h => h htx), if_neg har]) hmn
                  clear h95 h62
                  go_wp2_with (first | (refine wpList_store_blk (by rfl) 116 (.tmp 2) (.tmp 52) (by rfl) w.heap.size (pwL 62 0 [] 0) (by rfl) (by rfl) _ 116 hq1 (by rfl) infoPW (pwL_one _ _ _ _) ?_; intro w3 hb3 ht3) | fail)
                  have hld := run_loadVar_mid (P := Tryz.prog) w3 w.heap.size 0 116 (pwL 62 0 [] 0) _ (range_blk hb3.out) Tryz.underlying116 rfl infoPW
                  go_frame
                  exact bodyPost_ret (v := .agg (pwL 62 0 [] 0).toArray) (by simp [results, Tryz.results117, asAddr, hld]) rfl ⟨HPK.out, (hWb.trans (hb1.mono hWb.size)).trans (ht3.out.below (Nat.le_refl _))⟩
                · rw [decide_eq_false h62] at he2
                  have HPK : Hid (Ending.returned (.agg (pwL (-1) 0 [] 0).toArray) = .returned (pwV (pkind t) 0 (ptext t) (mnum t))) := pk_eq (by unfold pkind; rw [if_neg (by rw [hn]; decide), if_neg (by rw [hgs]; decide), if_neg (by rw [hv]; decide), if_neg (fun h => h htx), if_neg har, if_neg h95, if_neg h62]) (by unfold ptext; rw [if_neg (by rw [hn]; decide), if_neg (by rw [hgs]; decide), if_neg (by rw [hv]; decide), if_neg (fun h => h htx), if_neg har]) hmn
                  clear h95 h62
                  go_wp2_with (first | (refine wpList_store_blk (by rfl) 116 (.tmp 2) (.tmp 53) (by rfl) w.heap.size (pwL (-1) 0 [] 0) (by rfl) (by rfl) _ 116 hq1 (by rfl) infoPW (pwL_one _ _ _ _) ?_; intro w3 hb3 ht3) | fail)
                  have hld := run_loadVar_mid (P := Tryz.prog) w3 w.heap.size 0 116 (pwL (-1) 0 [] 0) _ (range_blk hb3.out) Tryz.underlying116 rfl infoPW
                  go_frame
                  exact bodyPost_ret (v := .agg (pwL (-1) 0 [] 0).toArray) (by simp [results, Tryz.results117, asAddr, hld]) rfl ⟨HPK.out, (hWb.trans (hb1.mono hWb.size)).trans (ht3.out.below (Nat.le_refl _))⟩
        · have hti : ((testIx t : Int) != 0) = true := by simp; omega
          have HPK : Hid (Ending.returned (.agg (pwL 61 0 t 0).toArray) = .returned (pwV (pkind t) 0 (ptext t) (mnum t))) := pk_eq (by unfold pkind; simp [hn, hgs, hv, htx]) (by unfold ptext; simp [hn, hgs, hv, htx]) hmn
          clear htx
          go_wp2_with (first | (go_at_call 126; refine HTO.out.mono ?_; rintro e w2 ⟨rfl, hw⟩; rw [hw]; clear hw w2) | (refine wpList_store_blk (by rfl) 116 (.tmp 2) (.tmp 35) (by rfl) w.heap.size (pwL 61 0 t 0) (by rfl) (by rfl) _ 116 hq1 (by rfl) infoPW (pwL_one _ _ _ _) ?_; intro w3 hb3 ht3) | fail)
          have hld := run_loadVar_mid (P := Tryz.prog) w3 w.heap.size 0 116 (pwL 61 0 t 0) _ (range_blk hb3.out) Tryz.underlying116 rfl infoPW
          go_frame
          exact bodyPost_ret (v := .agg (pwL 61 0 t 0).toArray) (by simp [results, Tryz.results117, asAddr, hld]) rfl ⟨HPK.out, (hWb.trans (hb1.mono hWb.size)).trans (ht3.out.below (Nat.le_refl _))⟩
end Go.Proofs.YtdhpoagjmiligaaGreatDoor
