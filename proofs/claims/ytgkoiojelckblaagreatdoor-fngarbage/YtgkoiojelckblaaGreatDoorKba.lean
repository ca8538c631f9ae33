/-
  OUR OWN TEXT. Sx8, Sx9, Sx10, Px1, Sx11, Sx12, Sx13, Sx14, Px2, one behind the other.
-/
import Derived.Test.YtgkoiojelckblaaGreatDoorKaz
import Derived.WalkSmall
import Derived.Test.YtgkoiojelckblaaGreatDoorKaf
import Derived.Test.YtgkoiojelckblaaGreatDoorOgm
import Derived.WalkMore
import Derived.Test.YtgkoiojelckblaaGreatDoorMo0m
namespace Go.Proofs.YtgkoiojelckblaaGreatDoor
open Go.RowKit
attribute [local go_sem ↓] Go.wp_at_zero Go.wp_at_succ

theorem errNamed : Tryz.prog.globalNamed "strconv.ErrRange" = some 4 := by kernel_rfl
/-- The library's error of numbers that are too great lies in its variable. -/
def ErrAt (w : World) : Prop := ∃ tp p, w.var? Tryz.prog "strconv.ErrRange" = some #[.iface tp p]
theorem ErrAt.below {w w' : World} (h : ErrAt w) (hb : Below w.heap.size w w') : ErrAt w' := by
  obtain ⟨tp, p, h⟩ := h
  refine ⟨tp, p, var?_below hb errNamed ?_ h⟩
  by_cases hg : 4 < w.heap.size
  · exact hg
  · unfold World.var? at h
    rw [errNamed] at h
    simp only [Option.bind_some] at h
    rw [Array.getElem?_eq_none (by omega)] at h
    cases h
/-- A word's kind, as the program counts it; what it keeps of its text. -/
def pkind (t : Bs) : Int := if (numOf t).isSome then 48 else if gSym t then 97 else if isVarW t then 63 else if testIx t ≠ 0 then 61 else if t ∈ arTx then 43 else if t = [95] then 95 else if t = [61, 62] then 62 else -1
def ptext (t : Bs) : Bs := if (numOf t).isSome then [] else if gSym t then t else if isVarW t then t.tail else if testIx t ≠ 0 then t else if t ∈ arTx then t else []
def pwV (k pos : Int) (t : Bs) (n : Int) : Value := .agg #[.int .i32 k, .int .i64 pos, .string (mkS t), .int .i64 n]
theorem has63 (t : Bs) : Lib.hasPrefix t [63] = decide (t.head? = some 63) := by
  unfold Lib.hasPrefix
  cases t with
  | nil => rfl
  | cons b r =>
    by_cases h : b = 63
    · subst h
      simp
    · have h' : ¬ (63 : UInt8) = b := fun e => h e.symm
      have e : ((63 : UInt8) == b) = false := by simpa using h'
      simp [List.isPrefixOf, h, e]
theorem trim63 {t : Bs} (h : t.head? = some 63) : Lib.trimPrefix t [63] = t.tail := by
  unfold Lib.trimPrefix
  rw [has63, decide_eq_true h]
  simp

def pwL (k pos : Int) (t : Bs) (n : Int) : List Value := [.int .i32 k, .int .i64 pos, .string (mkS t), .int .i64 n]
theorem pwL_one (k pos : Int) (t : Bs) (n : Int) : ∀ v ∈ pwL k pos t n, v.oneCell' = true := by
  intro u hu
  simp [pwL] at hu
  rcases hu with rfl | rfl | rfl | rfl <;> rfl
theorem infoPW : (Tryz.prog.info? 146).map (·.size) = some 4 := by kernel_rfl
theorem pk_eq {k : Int} {x t : Bs} {n : Int} (h1 : pkind t = k) (h2 : ptext t = x) (h3 : mnum t = n) : Ending.returned (.agg (pwL k 0 x n).toArray) = .returned (pwV (pkind t) 0 (ptext t) (mnum t)) := by
  rw [h1, h2, h3]
  rfl
theorem ar_one {t : Bs} (h : t ∈ arTx) : ∃ b, t = [b] := by
  simp [arTx] at h
  rcases h with h | h | h | h | h <;> exact ⟨_, h⟩
theorem isAr_at {t : Bs} (h0 : 0 < (mkS t).size) (h1 : t.length = 1) : isAr ((mkS t)[0].toNat : Int) = decide (t ∈ arTx) := by
  rw [isAr_mem]
  match t, h1 with
  | [b], _ => rfl

set_option maxRecDepth 100000 in
set_option maxHeartbeats 6400000 in
theorem wordOf_any (t : Bs) (w : World) (hl : t.length ≤ 20000) (hE : ErrAt w) (hT : TestsAt w 1 1) : Calls Tryz.prog 161 #[.string (mkS t)] w fun e w' => e = .returned (pwV (pkind t) 0 (ptext t) (mnum t)) ∧ Below w.heap.size w w' := by
  have HE := hidX hE
  have HT := hidX hT
  clear hE hT
  have hms : (mkS t).size ≤ maxLen := by rw [mkS_size]; unfold maxLen; omega
  have htl : t.tail.length ≤ t.length := by simp
  go_enter Tryz.func161, Tryz.ntmps161
  go_upto_region 1 with fail
  refine lift_alloc ?_
  intro wb hWb hqb
  have hgl : w.heap.size < wb.heap.size := lt_of_block' hqb
  have HQB := hidX hqb
  have HNO : Hid (Calls Tryz.prog 216 #[.string (mkS t)] wb (IPost t wb)) := (by
    obtain ⟨tp, p, h⟩ := HE.out.below hWb
    exact numberOf_any t wb hl tp p h)
  have HTB := hidX (HT.out.below hWb)
  clear hqb
  cases hn : numOf t with
  | some n =>
    have hmn : mnum t = n := by unfold mnum; rw [hn]; rfl
    have HPK : Hid (Ending.returned (.agg (pwL 48 0 [] n).toArray) = .returned (pwV (pkind t) 0 (ptext t) (mnum t))) := pk_eq (by unfold pkind; simp [hn]) (by unfold ptext; simp [hn]) hmn
    go_wp2_with (first | (go_at_call 216; refine HNO.out.mono ?_; intro e w1 hp; obtain ⟨rfl, hb1⟩ := hp.got hn; have hq1 := (hb1.block _ hgl).trans HQB.out) | (refine wpList_store_blk (by rfl) 146 (.tmp 2) (.tmp 14) (by rfl) w.heap.size (pwL 48 0 [] n) (by rfl) (by rfl) _ 146 hq1 (by rfl) infoPW (pwL_one _ _ _ _) ?_; intro w3 hb3 ht3) | fail)
    have hld := run_loadVar_mid (P := Tryz.prog) w3 w.heap.size 0 146 (pwL 48 0 [] n) _ (range_blk hb3.out) Tryz.underlying146 rfl infoPW
    go_frame
    exact bodyPost_ret (v := .agg (pwL 48 0 [] n).toArray) (by simp [results, Tryz.results161, asAddr, hld]) rfl ⟨HPK.out, (hWb.trans (hb1.mono hWb.size)).trans (ht3.out.below (Nat.le_refl _))⟩
  | none =>
    have hmn : mnum t = 0 := by unfold mnum; rw [hn]; rfl
    cases hgs : gSym t with
    | true =>
      have HGS : Hid (∀ w', Calls Tryz.prog 112 #[.string (mkS (t))] w' fun e w1 => e = .returned (.bool true) ∧ w1 = w') := fun w' => (goodSymbol_any (mkS t) w' hms).mono fun e w1 h => ⟨by rw [h.1, ← hgs]; rfl, h.2⟩
      have HPK : Hid (Ending.returned (.agg (pwL 97 0 t 0).toArray) = .returned (pwV (pkind t) 0 (ptext t) (mnum t))) := pk_eq (by unfold pkind; simp [hn, hgs]) (by unfold ptext; simp [hn, hgs]) hmn
      go_wp2_with (first | (go_at_call 216; refine HNO.out.mono ?_; intro e w1 hp; obtain ⟨m, rfl, hb1⟩ := hp.not hn; have hq1 := (hb1.block _ hgl).trans HQB.out) | (go_at_call 112; refine (HGS.out _).mono ?_; rintro e w2 ⟨rfl, hw⟩; rw [hw]; clear hw w2) | (refine wpList_store_blk (by rfl) 146 (.tmp 2) (.tmp 18) (by rfl) w.heap.size (pwL 97 0 t 0) (by rfl) (by rfl) _ 146 hq1 (by rfl) infoPW (pwL_one _ _ _ _) ?_; intro w3 hb3 ht3) | fail)
      have hld := run_loadVar_mid (P := Tryz.prog) w3 w.heap.size 0 146 (pwL 97 0 t 0) _ (range_blk hb3.out) Tryz.underlying146 rfl infoPW
      go_frame
      exact bodyPost_ret (v := .agg (pwL 97 0 t 0).toArray) (by simp [results, Tryz.results161, asAddr, hld]) rfl ⟨HPK.out, (hWb.trans (hb1.mono hWb.size)).trans (ht3.out.below (Nat.le_refl _))⟩
    | false =>
      have HGS : Hid (∀ w', Calls Tryz.prog 112 #[.string (mkS (t))] w' fun e w1 => e = .returned (.bool false) ∧ w1 = w') := fun w' => (goodSymbol_any (mkS t) w' hms).mono fun e w1 h => ⟨by rw [h.1, ← hgs]; rfl, h.2⟩
      by_cases h63 : t.head? = some 63
      · have HCP : Hid (∀ w', Calls Tryz.prog 217 #[.string (mkS t), .string ⟨#[63]⟩] w' fun e w1 => e = .returned (.tuple #[.string (mkS t.tail), .bool true]) ∧ w1 = w') := fun w' => (Tryz.strings_CutPrefix (mkS t) ⟨#[63]⟩ w').mono fun e w1 h => ⟨by rw [h.1, ← trim63 h63, ← show Lib.hasPrefix t [63] = true by rw [has63, decide_eq_true h63]]; rfl, h.2⟩
        have hmt : (mkS t.tail).size ≤ maxLen := by rw [mkS_size]; unfold maxLen; omega
        cases hgt : gSym t.tail with
        | true =>
          have hv : isVarW t = true := by unfold isVarW; rw [decide_eq_true h63, hgt]; rfl
          have HGT : Hid (∀ w', Calls Tryz.prog 112 #[.string (mkS (t.tail))] w' fun e w1 => e = .returned (.bool true) ∧ w1 = w') := fun w' => (goodSymbol_any (mkS t.tail) w' hmt).mono fun e w1 h => ⟨by rw [h.1, ← hgt]; rfl, h.2⟩
          have HPK : Hid (Ending.returned (.agg (pwL 63 0 t.tail 0).toArray) = .returned (pwV (pkind t) 0 (ptext t) (mnum t))) := pk_eq (by unfold pkind; simp [hn, hgs, hv]) (by unfold ptext; simp [hn, hgs, hv]) hmn
          go_upto_region 6 with (first | (go_at_call 216; refine HNO.out.mono ?_; intro e w1 hp; obtain ⟨m, rfl, hb1⟩ := hp.not hn; have hq1 := (hb1.block _ hgl).trans HQB.out) | (go_at_call 112; refine (HGS.out _).mono ?_; rintro e w2 ⟨rfl, hw⟩; rw [hw]; clear hw w2) | fail)
          go_wp2_with (first | (go_at_call 217; refine (HCP.out _).mono ?_; rintro e w2 ⟨rfl, hw⟩; rw [hw]; clear hw w2) | (go_at_call 112; refine (HGT.out _).mono ?_; rintro e w2 ⟨rfl, hw⟩; rw [hw]; clear hw w2) | (refine wpList_store_blk (by rfl) 146 (.tmp 2) (.tmp 30) (by rfl) w.heap.size (pwL 63 0 t.tail 0) (by rfl) (by rfl) _ 146 hq1 (by rfl) infoPW (pwL_one _ _ _ _) ?_; intro w3 hb3 ht3) | fail)
          have hld := run_loadVar_mid (P := Tryz.prog) w3 w.heap.size 0 146 (pwL 63 0 t.tail 0) _ (range_blk hb3.out) Tryz.underlying146 rfl infoPW
          go_frame
          exact bodyPost_ret (v := .agg (pwL 63 0 t.tail 0).toArray) (by simp [results, Tryz.results161, asAddr, hld]) rfl ⟨HPK.out, (hWb.trans (hb1.mono hWb.size)).trans (ht3.out.below (Nat.le_refl _))⟩
        | false =>
          have hv : isVarW t = false := by unfold isVarW; rw [hgt, Bool.and_false]
          have HGT : Hid (∀ w', Calls Tryz.prog 112 #[.string (mkS (t.tail))] w' fun e w1 => e = .returned (.bool false) ∧ w1 = w') := fun w' => (goodSymbol_any (mkS t.tail) w' hmt).mono fun e w1 h => ⟨by rw [h.1, ← hgt]; rfl, h.2⟩
          go_upto_region 6 with (first | (go_at_call 216; refine HNO.out.mono ?_; intro e w1 hp; obtain ⟨m, rfl, hb1⟩ := hp.not hn; have hq1 := (hb1.block _ hgl).trans HQB.out) | (go_at_call 112; refine (HGS.out _).mono ?_; rintro e w2 ⟨rfl, hw⟩; rw [hw]; clear hw w2) | fail)
          go_upto_region 9 with (first | (go_at_call 217; refine (HCP.out _).mono ?_; rintro e w2 ⟨rfl, hw⟩; rw [hw]; clear hw w2) | (go_at_call 112; refine (HGT.out _).mono ?_; rintro e w2 ⟨rfl, hw⟩; rw [hw]; clear hw w2) | fail)
          clear h63 hmt htl hms
          have HTO := hidX (testOf_any t w1 ((HTB.out.below hb1)))
          by_cases htx : testIx t = 0
          · have hti : ((testIx t : Int) != 0) = false := by rw [htx]; rfl
            go_upto_region 11 with (go_at_call 218; refine HTO.out.mono ?_; rintro e w2 ⟨rfl, hw⟩; rw [hw]; clear hw w2)
            by_cases har : t ∈ arTx
            · obtain ⟨b, hb⟩ := ar_one har
              have hs1 : (((mkS t).size : Int) == 1) = true := by rw [mkS_size, hb]; rfl
              have hs0 : 0 < (mkS t).size := by rw [mkS_size, hb]; exact Nat.one_pos
              have j0 : (0 : Int) < ((mkS t).size : Int) := by omega
              have HIA : Hid (∀ w', Calls Tryz.prog 219 #[.int .u8 ((mkS t)[0].toNat : Int)] w' fun e w1 => e = .returned (.bool true) ∧ w1 = w') := fun w' => (isArith_any _ (by omega) (by have := UInt8.toNat_lt (mkS t)[0]; omega) w').mono fun e w1 h => ⟨by rw [h.1, isAr_at hs0 (by rw [hb]; rfl), decide_eq_true har], h.2⟩
              have HPK : Hid (Ending.returned (.agg (pwL 43 0 t 0).toArray) = .returned (pwV (pkind t) 0 (ptext t) (mnum t))) := pk_eq (by unfold pkind; simp [hn, hgs, hv, htx, har]) (by unfold ptext; simp [hn, hgs, hv, htx, har]) hmn
              clear hb har htx
              go_wp2_with (first | (go_at_call 219; refine (HIA.out _).mono ?_; rintro e w2 ⟨rfl, hw⟩; rw [hw]; clear hw w2) | (refine wpList_store_blk (by rfl) 146 (.tmp 2) (.tmp 45) (by rfl) w.heap.size (pwL 43 0 t 0) (by rfl) (by rfl) _ 146 hq1 (by rfl) infoPW (pwL_one _ _ _ _) ?_; intro w3 hb3 ht3) | fail)
              have hld := run_loadVar_mid (P := Tryz.prog) w3 w.heap.size 0 146 (pwL 43 0 t 0) _ (range_blk hb3.out) Tryz.underlying146 rfl infoPW
              go_frame
              exact bodyPost_ret (v := .agg (pwL 43 0 t 0).toArray) (by simp [results, Tryz.results161, asAddr, hld]) rfl ⟨HPK.out, (hWb.trans (hb1.mono hWb.size)).trans (ht3.out.below (Nat.le_refl _))⟩
            · by_cases hs : (mkS t).size = 1
              · have hs1 : (((mkS t).size : Int) == 1) = true := by rw [hs]; rfl
                have hs0 : 0 < (mkS t).size := by omega
                have j0 : (0 : Int) < ((mkS t).size : Int) := by omega
                have HIA : Hid (∀ w', Calls Tryz.prog 219 #[.int .u8 ((mkS t)[0].toNat : Int)] w' fun e w1 => e = .returned (.bool false) ∧ w1 = w') := fun w' => (isArith_any _ (by omega) (by have := UInt8.toNat_lt (mkS t)[0]; omega) w').mono fun e w1 h => ⟨by rw [h.1, isAr_at hs0 (by rw [← mkS_size]; exact hs), decide_eq_false har], h.2⟩
                go_upto_region 13 with (go_at_call 219; refine (HIA.out _).mono ?_; rintro e w2 ⟨rfl, hw⟩; rw [hw]; clear hw w2)
                have he1 := beq_lit (mkS t) [95]
                have he2 := beq_lit (mkS t) [61, 62]
                rw [bs_mkS] at he1 he2
                by_cases h95 : t = [95]
                · rw [decide_eq_true h95] at he1
                  have HPK : Hid (Ending.returned (.agg (pwL 95 0 [] 0).toArray) = .returned (pwV (pkind t) 0 (ptext t) (mnum t))) := pk_eq (by unfold pkind; rw [if_neg (by rw [hn]; decide), if_neg (by rw [hgs]; decide), if_neg (by rw [hv]; decide), if_neg (fun h => h htx), if_neg har, if_pos h95]) (by unfold ptext; rw [if_neg (by rw [hn]; decide), if_neg (by rw [hgs]; decide), if_neg (by rw [hv]; decide), if_neg (fun h => h htx), if_neg har]) hmn
                  clear h95 he2
                  go_wp2_with (first | (refine wpList_store_blk (by rfl) 146 (.tmp 2) (.tmp 49) (by rfl) w.heap.size (pwL 95 0 [] 0) (by rfl) (by rfl) _ 146 hq1 (by rfl) infoPW (pwL_one _ _ _ _) ?_; intro w3 hb3 ht3) | fail)
                  have hld := run_loadVar_mid (P := Tryz.prog) w3 w.heap.size 0 146 (pwL 95 0 [] 0) _ (range_blk hb3.out) Tryz.underlying146 rfl infoPW
                  go_frame
                  exact bodyPost_ret (v := .agg (pwL 95 0 [] 0).toArray) (by simp [results, Tryz.results161, asAddr, hld]) rfl ⟨HPK.out, (hWb.trans (hb1.mono hWb.size)).trans (ht3.out.below (Nat.le_refl _))⟩
                · rw [decide_eq_false h95] at he1
                  by_cases h62 : t = [61, 62]
                  · rw [decide_eq_true h62] at he2
                    have HPK : Hid (Ending.returned (.agg (pwL 62 0 [] 0).toArray) = .returned (pwV (pkind t) 0 (ptext t) (mnum t))) := pk_eq (by unfold pkind; rw [if_neg (by rw [hn]; decide), if_neg (by rw [hgs]; decide), if_neg (by rw [hv]; decide), if_neg (fun h => h htx), if_neg har, if_neg h95, if_pos h62]) (by unfold ptext; rw [if_neg (by rw [hn]; decide), if_neg (by rw [hgs]; decide), if_neg (by rw [hv]; decide), if_neg (fun h => h htx), if_neg har]) hmn
                    clear h95 h62
                    go_wp2_with (first | (refine wpList_store_blk (by rfl) 146 (.tmp 2) (.tmp 52) (by rfl) w.heap.size (pwL 62 0 [] 0) (by rfl) (by rfl) _ 146 hq1 (by rfl) infoPW (pwL_one _ _ _ _) ?_; intro w3 hb3 ht3) | fail)
                    have hld := run_loadVar_mid (P := Tryz.prog) w3 w.heap.size 0 146 (pwL 62 0 [] 0) _ (range_blk hb3.out) Tryz.underlying146 rfl infoPW
                    go_frame
                    exact bodyPost_ret (v := .agg (pwL 62 0 [] 0).toArray) (by simp [results, Tryz.results161, asAddr, hld]) rfl ⟨HPK.out, (hWb.trans (hb1.mono hWb.size)).trans (ht3.out.below (Nat.le_refl _))⟩
                  · rw [decide_eq_false h62] at he2
                    have HPK : Hid (Ending.returned (.agg (pwL (-1) 0 [] 0).toArray) = .returned (pwV (pkind t) 0 (ptext t) (mnum t))) := pk_eq (by unfold pkind; rw [if_neg (by rw [hn]; decide), if_neg (by rw [hgs]; decide), if_neg (by rw [hv]; decide), if_neg (fun h => h htx), if_neg har, if_neg h95, if_neg h62]) (by unfold ptext; rw [if_neg (by rw [hn]; decide), if_neg (by rw [hgs]; decide), if_neg (by rw [hv]; decide), if_neg (fun h => h htx), if_neg har]) hmn
                    clear h95 h62
                    go_wp2_with (first | (refine wpList_store_blk (by rfl) 146 (.tmp 2) (.tmp 53) (by rfl) w.heap.size (pwL (-1) 0 [] 0) (by rfl) (by rfl) _ 146 hq1 (by rfl) infoPW (pwL_one _ _ _ _) ?_; intro w3 hb3 ht3) | fail)
                    have hld := run_loadVar_mid (P := Tryz.prog) w3 w.heap.size 0 146 (pwL (-1) 0 [] 0) _ (range_blk hb3.out) Tryz.underlying146 rfl infoPW
                    go_frame
                    exact bodyPost_ret (v := .agg (pwL (-1) 0 [] 0).toArray) (by simp [results, Tryz.results161, asAddr, hld]) rfl ⟨HPK.out, (hWb.trans (hb1.mono hWb.size)).trans (ht3.out.below (Nat.le_refl _))⟩
              · have hs1 : (((mkS t).size : Int) == 1) = false := beqF (by omega)
                go_upto_region 13 with fail
                have he1 := beq_lit (mkS t) [95]
                have he2 := beq_lit (mkS t) [61, 62]
                rw [bs_mkS] at he1 he2
                by_cases h95 : t = [95]
                · rw [decide_eq_true h95] at he1
                  have HPK : Hid (Ending.returned (.agg (pwL 95 0 [] 0).toArray) = .returned (pwV (pkind t) 0 (ptext t) (mnum t))) := pk_eq (by unfold pkind; rw [if_neg (by rw [hn]; decide), if_neg (by rw [hgs]; decide), if_neg (by rw [hv]; decide), if_neg (fun h => h htx), if_neg har, if_pos h95]) (by unfold ptext; rw [if_neg (by rw [hn]; decide), if_neg (by rw [hgs]; decide), if_neg (by rw [hv]; decide), if_neg (fun h => h htx), if_neg har]) hmn
                  clear h95 he2
                  go_wp2_with (first | (refine wpList_store_blk (by rfl) 146 (.tmp 2) (.tmp 49) (by rfl) w.heap.size (pwL 95 0 [] 0) (by rfl) (by rfl) _ 146 hq1 (by rfl) infoPW (pwL_one _ _ _ _) ?_; intro w3 hb3 ht3) | fail)
                  have hld := run_loadVar_mid (P := Tryz.prog) w3 w.heap.size 0 146 (pwL 95 0 [] 0) _ (range_blk hb3.out) Tryz.underlying146 rfl infoPW
                  go_frame
                  exact bodyPost_ret (v := .agg (pwL 95 0 [] 0).toArray) (by simp [results, Tryz.results161, asAddr, hld]) rfl ⟨HPK.out, (hWb.trans (hb1.mono hWb.size)).trans (ht3.out.below (Nat.le_refl _))⟩
                · rw [decide_eq_false h95] at he1
                  by_cases h62 : t = [61, 62]
                  · rw [decide_eq_true h62] at he2
                    have HPK : Hid (Ending.returned (.agg (pwL 62 0 [] 0).toArray) = .returned (pwV (pkind t) 0 (ptext t) (mnum t))) := pk_eq (by unfold pkind; rw [if_neg (by rw [hn]; decide), if_neg (by rw [hgs]; decide), if_neg (by rw [hv]; decide), if_neg (fun h => h htx), if_neg har, if_neg h95, if_pos h62]) (by unfold ptext; rw [if_neg (by rw [hn]; decide), if_neg (by rw [hgs]; decide), if_neg (by rw [hv]; decide), if_neg (fun h => h htx), if_neg har]) hmn
                    clear h95 h62
                    go_wp2_with (first | (refine wpList_store_blk (by rfl) 146 (.tmp 2) (.tmp 52) (by rfl) w.heap.size (pwL 62 0 [] 0) (by rfl) (by rfl) _ 146 hq1 (by rfl) infoPW (pwL_one _ _ _ _) ?_; intro w3 hb3 ht3) | fail)
                    have hld := run_loadVar_mid (P := Tryz.prog) w3 w.heap.size 0 146 (pwL 62 0 [] 0) _ (range_blk hb3.out) Tryz.underlying146 rfl infoPW
                    go_frame
                    exact bodyPost_ret (v := .agg (pwL 62 0 [] 0).toArray) (by simp [results, Tryz.results161, asAddr, hld]) rfl ⟨HPK.out, (hWb.trans (hb1.mono hWb.size)).trans (ht3.out.below (Nat.le_refl _))⟩
                  · rw [decide_eq_false h62] at he2
                    have HPK : Hid (Ending.returned (.agg (pwL (-1) 0 [] 0).toArray) = .returned (pwV (pkind t) 0 (ptext t) (mnum t))) := pk_eq (by unfold pkind; rw [if_neg (by rw [hn]; decide), if_neg (by rw [hgs]; decide), if_neg (by rw [hv]; decide), if_neg (fun h => h htx), if_neg har, if_neg h95, if_neg h62]) (by unfold ptext; rw [if_neg (by rw [hn]; decide), if_neg (by rw [hgs]; decide), if_neg (by rw [hv]; decide), if_neg (fun h => h htx), if_neg har]) hmn
                    clear h95 h62
                    go_wp2_with (first | (refine wpList_store_blk (by rfl) 146 (.tmp 2) (.tmp 53) (by rfl) w.heap.size (pwL (-1) 0 [] 0) (by rfl) (by rfl) _ 146 hq1 (by rfl) infoPW (pwL_one _ _ _ _) ?_; intro w3 hb3 ht3) | fail)
                    have hld := run_loadVar_mid (P := Tryz.prog) w3 w.heap.size 0 146 (pwL (-1) 0 [] 0) _ (range_blk hb3.out) Tryz.underlying146 rfl infoPW
                    go_frame
                    exact bodyPost_ret (v := .agg (pwL (-1) 0 [] 0).toArray) (by simp [results, Tryz.results161, asAddr, hld]) rfl ⟨HPK.out, (hWb.trans (hb1.mono hWb.size)).trans (ht3.out.below (Nat.le_refl _))⟩
          · have hti : ((testIx t : Int) != 0) = true := by simp; omega
            have HPK : Hid (Ending.returned (.agg (pwL 61 0 t 0).toArray) = .returned (pwV (pkind t) 0 (ptext t) (mnum t))) := pk_eq (by unfold pkind; simp [hn, hgs, hv, htx]) (by unfold ptext; simp [hn, hgs, hv, htx]) hmn
            clear htx
            go_wp2_with (first | (go_at_call 218; refine HTO.out.mono ?_; rintro e w2 ⟨rfl, hw⟩; rw [hw]; clear hw w2) | (refine wpList_store_blk (by rfl) 146 (.tmp 2) (.tmp 35) (by rfl) w.heap.size (pwL 61 0 t 0) (by rfl) (by rfl) _ 146 hq1 (by rfl) infoPW (pwL_one _ _ _ _) ?_; intro w3 hb3 ht3) | fail)
            have hld := run_loadVar_mid (P := Tryz.prog) w3 w.heap.size 0 146 (pwL 61 0 t 0) _ (range_blk hb3.out) Tryz.underlying146 rfl infoPW
            go_frame
            exact bodyPost_ret (v := .agg (pwL 61 0 t 0).toArray) (by simp [results, Tryz.results161, asAddr, hld]) rfl ⟨HPK.out, (hWb.trans (hb1.mono hWb.size)).trans (ht3.out.below (Nat.le_refl _))⟩
      · have hv : isVarW t = false := by unfold isVarW; rw [decide_eq_false h63, Bool.false_and]
        have HCP : Hid (∀ w', Calls Tryz.prog 217 #[.string (mkS t), .string ⟨#[63]⟩] w' fun e w1 => e = .returned (.tuple #[.string (mkS (Lib.trimPrefix t [63])), .bool false]) ∧ w1 = w') := fun w' => (Tryz.strings_CutPrefix (mkS t) ⟨#[63]⟩ w').mono fun e w1 h => ⟨by rw [h.1, ← show Lib.hasPrefix t [63] = false by rw [has63, decide_eq_false h63]]; rfl, h.2⟩
        go_upto_region 6 with (first | (go_at_call 216; refine HNO.out.mono ?_; intro e w1 hp; obtain ⟨m, rfl, hb1⟩ := hp.not hn; have hq1 := (hb1.block _ hgl).trans HQB.out) | (go_at_call 112; refine (HGS.out _).mono ?_; rintro e w2 ⟨rfl, hw⟩; rw [hw]; clear hw w2) | fail)
        go_upto_region 9 with (go_at_call 217; refine (HCP.out _).mono ?_; rintro e w2 ⟨rfl, hw⟩; rw [hw]; clear hw w2)
        clear h63 htl hms
        have HTO := hidX (testOf_any t w1 ((HTB.out.below hb1)))
        by_cases htx : testIx t = 0
        · have hti : ((testIx t : Int) != 0) = false := by rw [htx]; rfl
          go_upto_region 11 with (go_at_call 218; refine HTO.out.mono ?_; rintro e w2 ⟨rfl, hw⟩; rw [hw]; clear hw w2)
          by_cases har : t ∈ arTx
          · obtain ⟨b, hb⟩ := ar_one har
            have hs1 : (((mkS t).size : Int) == 1) = true := by rw [mkS_size, hb]; rfl
            have hs0 : 0 < (mkS t).size := by rw [mkS_size, hb]; exact Nat.one_pos
            have j0 : (0 : Int) < ((mkS t).size : Int) := by omega
            have HIA : Hid (∀ w', Calls Tryz.prog 219 #[.int .u8 ((mkS t)[0].toNat : Int)] w' fun e w1 => e = .returned (.bool true) ∧ w1 = w') := fun w' => (isArith_any _ (by omega) (by have := UInt8.toNat_lt (mkS t)[0]; omega) w').mono fun e w1 h => ⟨by rw [h.1, isAr_at hs0 (by rw [hb]; rfl), decide_eq_true har], h.2⟩
            have HPK : Hid (Ending.returned (.agg (pwL 43 0 t 0).toArray) = .returned (pwV (pkind t) 0 (ptext t) (mnum t))) := pk_eq (by unfold pkind; simp [hn, hgs, hv, htx, har]) (by unfold ptext; simp [hn, hgs, hv, htx, har]) hmn
            clear hb har htx
            go_wp2_with (first | (go_at_call 219; refine (HIA.out _).mono ?_; rintro e w2 ⟨rfl, hw⟩; rw [hw]; clear hw w2) | (refine wpList_store_blk (by rfl) 146 (.tmp 2) (.tmp 45) (by rfl) w.heap.size (pwL 43 0 t 0) (by rfl) (by rfl) _ 146 hq1 (by rfl) infoPW (pwL_one _ _ _ _) ?_; intro w3 hb3 ht3) | fail)
            have hld := run_loadVar_mid (P := Tryz.prog) w3 w.heap.size 0 146 (pwL 43 0 t 0) _ (range_blk hb3.out) Tryz.underlying146 rfl infoPW
            go_frame
            exact bodyPost_ret (v := .agg (pwL 43 0 t 0).toArray) (by simp [results, Tryz.results161, asAddr, hld]) rfl ⟨HPK.out, (hWb.trans (hb1.mono hWb.size)).trans (ht3.out.below (Nat.le_refl _))⟩
          · by_cases hs : (mkS t).size = 1
            · have hs1 : (((mkS t).size : Int) == 1) = true := by rw [hs]; rfl
              have hs0 : 0 < (mkS t).size := by omega
              have j0 : (0 : Int) < ((mkS t).size : Int) := by omega
              have HIA : Hid (∀ w', Calls Tryz.prog 219 #[.int .u8 ((mkS t)[0].toNat : Int)] w' fun e w1 => e = .returned (.bool false) ∧ w1 = w') := fun w' => (isArith_any _ (by omega) (by have := UInt8.toNat_lt (mkS t)[0]; omega) w').mono fun e w1 h => ⟨by rw [h.1, isAr_at hs0 (by rw [← mkS_size]; exact hs), decide_eq_false har], h.2⟩
              go_upto_region 13 with (go_at_call 219; refine (HIA.out _).mono ?_; rintro e w2 ⟨rfl, hw⟩; rw [hw]; clear hw w2)
              have he1 := beq_lit (mkS t) [95]
              have he2 := beq_lit (mkS t) [61, 62]
              rw [bs_mkS] at he1 he2
              by_cases h95 : t = [95]
              · rw [decide_eq_true h95] at he1
                have HPK : Hid (Ending.returned (.agg (pwL 95 0 [] 0).toArray) = .returned (pwV (pkind t) 0 (ptext t) (mnum t))) := pk_eq (by unfold pkind; rw [if_neg (by rw [hn]; decide), if_neg (by rw [hgs]; decide), if_neg (by rw [hv]; decide), if_neg (fun h => h htx), if_neg har, if_pos h95]) (by unfold ptext; rw [if_neg (by rw [hn]; decide), if_neg (by rw [hgs]; decide), if_neg (by rw [hv]; decide), if_neg (fun h => h htx), if_neg har]) hmn
                clear h95 he2
                go_wp2_with (first | (refine wpList_store_blk (by rfl) 146 (.tmp 2) (.tmp 49) (by rfl) w.heap.size (pwL 95 0 [] 0) (by rfl) (by rfl) _ 146 hq1 (by rfl) infoPW (pwL_one _ _ _ _) ?_; intro w3 hb3 ht3) | fail)
                have hld := run_loadVar_mid (P := Tryz.prog) w3 w.heap.size 0 146 (pwL 95 0 [] 0) _ (range_blk hb3.out) Tryz.underlying146 rfl infoPW
                go_frame
                exact bodyPost_ret (v := .agg (pwL 95 0 [] 0).toArray) (by simp [results, Tryz.results161, asAddr, hld]) rfl ⟨HPK.out, (hWb.trans (hb1.mono hWb.size)).trans (ht3.out.below (Nat.le_refl _))⟩
              · rw [decide_eq_false h95] at he1
                by_cases h62 : t = [61, 62]
                · rw [decide_eq_true h62] at he2
                  have HPK : Hid (Ending.returned (.agg (pwL 62 0 [] 0).toArray) = .returned (pwV (pkind t) 0 (ptext t) (mnum t))) := pk_eq (by unfold pkind; rw [if_neg (by rw [hn]; decide), if_neg (by rw [hgs]; decide), if_neg (by rw [hv]; decide), if_neg (fun h => h htx), if_neg har, if_neg h95, if_pos h62]) (by unfold ptext; rw [if_neg (by rw [hn]; decide), if_neg (by rw [hgs]; decide), if_neg (by rw [hv]; decide), if_neg (fun h => h htx), if_neg har]) hmn
                  clear h95 h62
                  go_wp2_with (first | (refine wpList_store_blk (by rfl) 146 (.tmp 2) (.tmp 52) (by rfl) w.heap.size (pwL 62 0 [] 0) (by rfl) (by rfl) _ 146 hq1 (by rfl) infoPW (pwL_one _ _ _ _) ?_; intro w3 hb3 ht3) | fail)
                  have hld := run_loadVar_mid (P := Tryz.prog) w3 w.heap.size 0 146 (pwL 62 0 [] 0) _ (range_blk hb3.out) Tryz.underlying146 rfl infoPW
                  go_frame
                  exact bodyPost_ret (v := .agg (pwL 62 0 [] 0).toArray) (by simp [results, Tryz.results161, asAddr, hld]) rfl ⟨HPK.out, (hWb.trans (hb1.mono hWb.size)).trans (ht3.out.below (Nat.le_refl _))⟩
                · rw [decide_eq_false h62] at he2
                  have HPK : Hid (Ending.returned (.agg (pwL (-1) 0 [] 0).toArray) = .returned (pwV (pkind t) 0 (ptext t) (mnum t))) := pk_eq (by unfold pkind; rw [if_neg (by rw [hn]; decide), if_neg (by rw [hgs]; decide), if_neg (by rw [hv]; decide), if_neg (fun h => h htx), if_neg har, if_neg h95, if_neg h62]) (by unfold ptext; rw [if_neg (by rw [hn]; decide), if_neg (by rw [hgs]; decide), if_neg (by rw [hv]; decide), if_neg (fun h => h htx), if_neg har]) hmn
                  clear h95 h62
                  go_wp2_with (first | (refine wpList_store_blk (by rfl) 146 (.tmp 2) (.tmp 53) (by rfl) w.heap.size (pwL (-1) 0 [] 0) (by rfl) (by rfl) _ 146 hq1 (by rfl) infoPW (pwL_one _ _ _ _) ?_; intro w3 hb3 ht3) | fail)
                  have hld := run_loadVar_mid (P := Tryz.prog) w3 w.heap.size 0 146 (pwL (-1) 0 [] 0) _ (range_blk hb3.out) Tryz.underlying146 rfl infoPW
                  go_frame
                  exact bodyPost_ret (v := .agg (pwL (-1) 0 [] 0).toArray) (by simp [results, Tryz.results161, asAddr, hld]) rfl ⟨HPK.out, (hWb.trans (hb1.mono hWb.size)).trans (ht3.out.below (Nat.le_refl _))⟩
            · have hs1 : (((mkS t).size : Int) == 1) = false := beqF (by omega)
              go_upto_region 13 with fail
              have he1 := beq_lit (mkS t) [95]
              have he2 := beq_lit (mkS t) [61, 62]
              rw [bs_mkS] at he1 he2
              by_cases h95 : t = [95]
              · rw [decide_eq_true h95] at he1
                have HPK : Hid (Ending.returned (.agg (pwL 95 0 [] 0).toArray) = .returned (pwV (pkind t) 0 (ptext t) (mnum t))) := pk_eq (by unfold pkind; rw [if_neg (by rw [hn]; decide), if_neg (by rw [hgs]; decide), if_neg (by rw [hv]; decide), if_neg (fun h => h htx), if_neg har, if_pos h95]) (by unfold ptext; rw [if_neg (by rw [hn]; decide), if_neg (by rw [hgs]; decide), if_neg (by rw [hv]; decide), if_neg (fun h => h htx), if_neg har]) hmn
                clear h95 he2
                go_wp2_with (first | (refine wpList_store_blk (by rfl) 146 (.tmp 2) (.tmp 49) (by rfl) w.heap.size (pwL 95 0 [] 0) (by rfl) (by rfl) _ 146 hq1 (by rfl) infoPW (pwL_one _ _ _ _) ?_; intro w3 hb3 ht3) | fail)
                have hld := run_loadVar_mid (P := Tryz.prog) w3 w.heap.size 0 146 (pwL 95 0 [] 0) _ (range_blk hb3.out) Tryz.underlying146 rfl infoPW
                go_frame
                exact bodyPost_ret (v := .agg (pwL 95 0 [] 0).toArray) (by simp [results, Tryz.results161, asAddr, hld]) rfl ⟨HPK.out, (hWb.trans (hb1.mono hWb.size)).trans (ht3.out.below (Nat.le_refl _))⟩
              · rw [decide_eq_false h95] at he1
                by_cases h62 : t = [61, 62]
                · rw [decide_eq_true h62] at he2
                  have HPK : Hid (Ending.returned (.agg (pwL 62 0 [] 0).toArray) = .returned (pwV (pkind t) 0 (ptext t) (mnum t))) := pk_eq (by unfold pkind; rw [if_neg (by rw [hn]; decide), if_neg (by rw [hgs]; decide), if_neg (by rw [hv]; decide), if_neg (fun h => h htx), if_neg har, if_neg h95, if_pos h62]) (by unfold ptext; rw [if_neg (by rw [hn]; decide), if_neg (by rw [hgs]; decide), if_neg (by rw [hv]; decide), if_neg (fun h => h htx), if_neg har]) hmn
                  clear h95 h62
                  go_wp2_with (first | (refine wpList_store_blk (by rfl) 146 (.tmp 2) (.tmp 52) (by rfl) w.heap.size (pwL 62 0 [] 0) (by rfl) (by rfl) _ 146 hq1 (by rfl) infoPW (pwL_one _ _ _ _) ?_; intro w3 hb3 ht3) | fail)
                  have hld := run_loadVar_mid (P := Tryz.prog) w3 w.heap.size 0 146 (pwL 62 0 [] 0) _ (range_blk hb3.out) Tryz.underlying146 rfl infoPW
                  go_frame
                  exact bodyPost_ret (v := .agg (pwL 62 0 [] 0).toArray) (by simp [results, Tryz.results161, asAddr, hld]) rfl ⟨HPK.out, (hWb.trans (hb1.mono hWb.size)).trans (ht3.out.below (Nat.le_refl _))⟩
                · rw [decide_eq_false h62] at he2
                  have HPK : Hid (Ending.returned (.agg (pwL (-1) 0 [] 0).toArray) = .returned (pwV (pkind t) 0 (ptext t) (mnum t))) := pk_eq (by unfold pkind; rw [if_neg (by rw [hn]; decide), if_neg (by rw [hgs]; decide), if_neg (by rw [hv]; decide), if_neg (fun h => h htx), if_neg har, if_neg h95, if_neg h62]) (by unfold ptext; rw [if_neg (by rw [hn]; decide), if_neg (by rw [hgs]; decide), if_neg (by rw [hv]; decide), if_neg (fun h => h htx), if_neg har]) hmn
                  clear h95 h62
                  go_wp2_with (first | (refine wpList_store_blk (by rfl) 146 (.tmp 2) (.tmp 53) (by rfl) w.heap.size (pwL (-1) 0 [] 0) (by rfl) (by rfl) _ 146 hq1 (by rfl) infoPW (pwL_one _ _ _ _) ?_; intro w3 hb3 ht3) | fail)
                  have hld := run_loadVar_mid (P := Tryz.prog) w3 w.heap.size 0 146 (pwL (-1) 0 [] 0) _ (range_blk hb3.out) Tryz.underlying146 rfl infoPW
                  go_frame
                  exact bodyPost_ret (v := .agg (pwL (-1) 0 [] 0).toArray) (by simp [results, Tryz.results161, asAddr, hld]) rfl ⟨HPK.out, (hWb.trans (hb1.mono hWb.size)).trans (ht3.out.below (Nat.le_refl _))⟩
        · have hti : ((testIx t : Int) != 0) = true := by simp; omega
          have HPK : Hid (Ending.returned (.agg (pwL 61 0 t 0).toArray) = .returned (pwV (pkind t) 0 (ptext t) (mnum t))) := pk_eq (by unfold pkind; simp [hn, hgs, hv, htx]) (by unfold ptext; simp [hn, hgs, hv, htx]) hmn
          clear htx
          go_wp2_with (first | (go_at_call 218; refine HTO.out.mono ?_; rintro e w2 ⟨rfl, hw⟩; rw [hw]; clear hw w2) | (refine wpList_store_blk (by rfl) 146 (.tmp 2) (.tmp 35) (by rfl) w.heap.size (pwL 61 0 t 0) (by rfl) (by rfl) _ 146 hq1 (by rfl) infoPW (pwL_one _ _ _ _) ?_; intro w3 hb3 ht3) | fail)
          have hld := run_loadVar_mid (P := Tryz.prog) w3 w.heap.size 0 146 (pwL 61 0 t 0) _ (range_blk hb3.out) Tryz.underlying146 rfl infoPW
          go_frame
          exact bodyPost_ret (v := .agg (pwL 61 0 t 0).toArray) (by simp [results, Tryz.results161, asAddr, hld]) rfl ⟨HPK.out, (hWb.trans (hb1.mono hWb.size)).trans (ht3.out.below (Nat.le_refl _))⟩
end Go.Proofs.YtgkoiojelckblaaGreatDoor

namespace Go.Proofs.YtgkoiojelckblaaGreatDoor
open Go.RowKit
attribute [local go_sem ↓] Go.wp_at_zero Go.wp_at_succ

theorem idx_line : ∀ l : Bs, (Lib.indexByte l 10 = -1 ∧ runOf lineP l = l.length) ∨ Lib.indexByte l 10 = (runOf lineP l : Int)
  | [] => .inl ⟨rfl, rfl⟩
  | b :: l => by
    unfold Lib.indexByte
    by_cases h : b = 10
    · right
      subst h
      rfl
    · have e1 : (b == 10) = false := beq_eq_false_iff_ne.2 h
      have e2 : runOf lineP (b :: l) = runOf lineP l + 1 := by
        unfold runOf
        rw [List.takeWhile_cons_of_pos (by unfold lineP; simpa using h)]
        rfl
      rw [e1, e2]
      rcases idx_line l with ⟨h1, h2⟩ | h1
      · left
        rw [h1, h2]
        exact ⟨rfl, rfl⟩
      · right
        have h3 : (Lib.indexByte l 10 == -1) = false := beq_eq_false_iff_ne.2 (by omega)
        rw [h3, h1]
        simp
/-- A comment's end. -/
def lineEnd (src : Bs) (k : Nat) : Nat := k + runOf lineP (src.drop k)
theorem index_rest {src : Bs} {b o : Nat} {w : World} (hv : BysAt w (some ⟨b, o, none⟩) src) (k : Nat) (c : Nat) (hk : k ≤ src.length) : Calls Tryz.prog 257 #[.slice (some ⟨b, o + k, none⟩) (src.length - k) c, .int .u8 10] w fun e w' => e = .returned (.int .i64 (Lib.indexByte (src.drop k) 10)) ∧ w' = w := by
  refine (Tryz.bytes_IndexByte b (o + k) (src.length - k) c ((src.drop k).map fun x => (x.toNat : Int)) 10 w (by simp) (fun i hi => ?_)).mono fun e w1 h => ⟨?_, h.2⟩
  · have hx : src[k + i]? = some (src[k + i]'(by omega)) := by simp
    obtain ⟨b', o', e, _, hc⟩ := hv (k + i) _ hx
    simp only [Option.some.injEq, Addr.mk.injEq, and_true] at e
    obtain ⟨rfl, rfl⟩ := e
    rw [Nat.add_assoc, hc]
    simp [hi]
  · have e1 : Lib.bytesOf ((src.drop k).map fun x => (x.toNat : Int)) = src.drop k := by
      unfold Lib.bytesOf
      rw [List.map_map]
      exact List.map_id'' (fun x => by simp) _
    rw [h.1, e1]
    rfl
theorem turned_drew {w w' : World} {b : Nat} (h : Turned w.drew w' b) : Turned w w' b := ⟨h.os, h.tape, h.output, h.size, h.block⟩
set_option maxRecDepth 100000 in
set_option maxHeartbeats 3200000 in
theorem skipComment_any (src : Bs) (b o c sb so k : Nat) (t : TypeId) (cs : Array Value) (w : World) (hv : BysAt w (some ⟨b, o, none⟩) src) (hl : src.length ≤ 20000) (hcap : src.length ≤ c) (hk : k < src.length) (hb : w.heap[sb]? = some (.cells cs t (0, 0))) (h0 : cs[so]? = some (.slice (some ⟨b, o, none⟩) src.length c)) (h1 : cs[so + 1]? = some (.int .i64 (k : Int))) : Calls Tryz.prog 215 #[.pointer (some ⟨sb, so, none⟩)] w fun e w' => e = .returned (.tuple #[]) ∧ w'.heap[sb]? = some (.cells (cs.setIfInBounds (so + 1) (.int .i64 (lineEnd src k : Int))) t (0, 0)) ∧ Turned w w' sb := by
  have c0 : w.cell? ⟨sb, so, none⟩ = some (.slice (some ⟨b, o, none⟩) src.length c) := by simp [World.cell?, hb, h0]
  have c1 : w.cell? ⟨sb, so + 1, none⟩ = some (.int .i64 (k : Int)) := by simp [World.cell?, hb, h1]
  have z1 : w.frozen? ⟨sb, so + 1, none⟩ = false := by simp [World.frozen?, hb]
  have HI : Hid (∀ c', Calls Tryz.prog 257 #[.slice (some ⟨b, o + k, none⟩) (src.length - k) c', .int .u8 10] w.drew fun e w' => e = .returned (.int .i64 (Lib.indexByte (src.drop k) 10)) ∧ w' = w.drew) := fun c' => index_rest (hv.below (below_drew1 (Below.refl _ _))) k c' (by omega)
  have hck : ¬ c = k := by omega
  have s0 : (0 : Int) ≤ (k : Int) := by omega
  have s1 : (k : Int) ≤ (src.length : Int) := by omega
  have s2 : (src.length : Int) ≤ (c : Int) := by omega
  go_enter Tryz.func215, Tryz.ntmps215
  go_wp2_with fail
  go_region_held3 (fun w' => w'.cell? ⟨sb, so, none⟩ = some (.slice (some ⟨b, o, none⟩) src.length c) ∧ w'.cell? ⟨sb, so + 1, none⟩ = some (.int .i64 (k : Int))) ((go_split_ands; refine ⟨?_, ?_⟩ <;> first | assumption | (simp [*]; done)))
    (first | (go_at_call 257; refine (HI.out _).mono ?_; rintro e w1 ⟨rfl, hw⟩; rw [hw]; clear hw w1))
  have hrl : runOf lineP (src.drop k) ≤ src.length - k := by
    have := (List.takeWhile_sublist lineP (l := src.drop k)).length_le
    rw [List.length_drop] at this
    exact this
  have d1 : w.drew.cell? ⟨sb, so + 1, none⟩ = some (.int .i64 (k : Int)) := c1
  have d0 : w.drew.cell? ⟨sb, so, none⟩ = some (.slice (some ⟨b, o, none⟩) src.length c) := c0
  have y1 : w.drew.frozen? ⟨sb, so + 1, none⟩ = false := z1
  rcases idx_line (src.drop k) with ⟨g1, g2⟩ | g1
  · have HLE : Hid (lineEnd src k = src.length) := show _ = _ from by
      unfold lineEnd
      rw [g2, List.length_drop]
      omega
    have g3 : Lib.indexByte (src.drop k) 10 < 0 := by omega
    clear g1 g2
    go_wp2
    refine bodyPost_ret (v := .tuple #[]) (by simp [results, Tryz.results215]) rfl ⟨rfl, ?_, ?_⟩
    · rw [HLE.out]
      exact heap_setCell_same (w := w.drew) hb _
    · exact turned_drew (Turned.setCells [_] (so + 1) w.drew sb)
  · have g3 : ¬ Lib.indexByte (src.drop k) 10 < 0 := by omega
    have hadd : wrap64 ((k : Int) + Lib.indexByte (src.drop k) 10) = (lineEnd src k : Int) := by
      rw [g1]
      unfold lineEnd wrap64
      omega
    clear g1
    go_wp2
    refine bodyPost_end (results_none rfl _ _ _) rfl ⟨rfl, ?_, ?_⟩
    · exact heap_setCell_same (w := w.drew) hb _
    · exact turned_drew (Turned.setCells [_] (so + 1) w.drew sb)
end Go.Proofs.YtgkoiojelckblaaGreatDoor

namespace Go.Proofs.YtgkoiojelckblaaGreatDoor
open Go.RowKit
attribute [local go_sem ↓] Go.wp_at_zero Go.wp_at_succ

theorem set_same {cs : Array Value} {i : Nat} {v : Value} (h : cs[i]? = some v) : cs.setIfInBounds i v = cs := by
  apply Array.ext_getElem?
  intro j
  rw [Array.getElem?_setIfInBounds]
  by_cases hj : i = j
  · subst hj
    obtain ⟨h1, h2⟩ := Array.getElem?_eq_some_iff.1 h
    simp [h1, h2]
  · simp [hj]
theorem set_twice (cs : Array Value) (i : Nat) (u v : Value) : (cs.setIfInBounds i u).setIfInBounds i v = cs.setIfInBounds i v := by
  apply Array.ext_getElem?
  intro j
  by_cases hj : i = j
  · subst hj
    simp [Array.getElem?_setIfInBounds]
  · simp [hj]
theorem Turned.drew' {w w' : World} {b : Nat} (h : Turned w w' b) : Turned w w'.drew b := ⟨h.os, h.tape, h.output, h.size, h.block⟩
theorem Turned.trans' {w w' w'' : World} {b : Nat} (h : Turned w w' b) (g : Turned w' w'' b) : Turned w w'' b := ⟨g.os.trans h.os, g.tape.trans h.tape, g.output.trans h.output, g.size.trans h.size, fun k hk => (g.block k hk).trans (h.block k hk)⟩
theorem atOf_at {sb so n : Nat} {w : World} {t : TypeId} {cs : Array Value} (h : w.heap[sb]? = some (.cells (cs.setIfInBounds (so + 1) (.int .i64 (n : Int))) t (0, 0))) (hso : so + 1 < cs.size) : w.cell? ⟨sb, so + 1, none⟩ = some (.int .i64 (n : Int)) := by
  simp [World.cell?, h, hso]
theorem lineEnd_gt {src : Bs} {j : Nat} (h : src[j]? = some 59) : j < lineEnd src j ∧ lineEnd src j ≤ src.length := by
  have hj : j < src.length := (List.getElem?_eq_some_iff.1 h).1
  have e : src.drop j = 59 :: src.drop (j + 1) := by
    rw [List.drop_eq_getElem_cons hj, (List.getElem?_eq_some_iff.1 h).2]
  have h2 := run_le lineP (src.drop j)
  have h3 : 1 ≤ runOf lineP (src.drop j) := by
    rw [e]
    unfold runOf
    rw [List.takeWhile_cons_of_pos line59]
    simp
  rw [List.length_drop] at h2
  unfold lineEnd
  omega
def atOf (sb so : Nat) (w : World) : Nat := match w.cell? ⟨sb, so + 1, none⟩ with
  | some v => (intOf v).toNat
  | none => 0
theorem moved {sb so n j : Nat} {w : World} {t : TypeId} {cs : Array Value} (h : w.heap[sb]? = some (.cells (cs.setIfInBounds (so + 1) (.int .i64 (j : Int))) t (0, 0))) (v : Value) (hv : v = .int .i64 (n : Int)) : ((w.drew.drew).setCell ⟨sb, so + 1, none⟩ v).heap[sb]? = some (.cells (cs.setIfInBounds (so + 1) (.int .i64 (n : Int))) t (0, 0)) := by
  subst hv
  have := heap_setCell_same (w := w.drew.drew) (i := so + 1) h (.int .i64 (n : Int))
  rw [set_twice] at this
  exact this
theorem atOf_moved {sb so n j : Nat} {w : World} {t : TypeId} {cs : Array Value} (hso : so + 1 < cs.size) (h : w.heap[sb]? = some (.cells (cs.setIfInBounds (so + 1) (.int .i64 (j : Int))) t (0, 0))) (v : Value) (hv : v = .int .i64 (n : Int)) : atOf sb so ((w.drew.drew).setCell ⟨sb, so + 1, none⟩ v) = n := by
  unfold atOf
  rw [atOf_at (moved h v hv) hso]
  simp [intOf]
/-- What skip leaves: the offset of the next word. -/
def SkPost (src : Bs) (k sb so : Nat) (t : TypeId) (cs : Array Value) (w : World) (w' : World) : Prop := ∃ j, k ≤ j ∧ j ≤ src.length ∧ wordsAt src j = wordsAt src k ∧ (∀ x, src[j]? = some x → blankB x = false ∧ x ≠ 59) ∧ w'.heap[sb]? = some (.cells (cs.setIfInBounds (so + 1) (.int .i64 (j : Int))) t (0, 0)) ∧ Turned w w' sb
set_option maxRecDepth 100000 in
set_option maxHeartbeats 3200000 in
theorem skip_any (src : Bs) (a : Option Addr) (c sb so k : Nat) (t : TypeId) (cs : Array Value) (w : World) (hv : BysAt w a src) (hfar : ∀ b o, a = some ⟨b, o, none⟩ → b ≠ sb) (hl : src.length ≤ 20000) (hcap : src.length ≤ c) (hk : k ≤ src.length) (hb : w.heap[sb]? = some (.cells cs t (0, 0))) (h0 : cs[so]? = some (.slice a src.length c)) (h1 : cs[so + 1]? = some (.int .i64 (k : Int))) : Calls Tryz.prog 159 #[.pointer (some ⟨sb, so, none⟩)] w fun e w' => e = .returned (.tuple #[]) ∧ SkPost src k sb so t cs w w' := by
  have HV := hidX hv
  have HFAR := hidX hfar
  have HB := hidX hb
  have H0 := hidX h0
  have H1 := hidX h1
  have hso : so + 1 < cs.size := (Array.getElem?_eq_some_iff.1 h1).1
  clear hv hfar hb h0 h1
  go_enter Tryz.func159, Tryz.ntmps159
  go_step3
  go_wp2
  go_step3
  go_wp2
  go_loopw [2] (fun _ wr => ∃ j : Nat, k ≤ j ∧ j ≤ src.length ∧ wordsAt src j = wordsAt src k ∧ wr.heap[sb]? = some (.cells (cs.setIfInBounds (so + 1) (.int .i64 (j : Int))) t (0, 0)) ∧ Turned w wr sb) (fun _ wr => src.length - atOf sb so wr)
  case atStart => exact ⟨k, Nat.le_refl _, hk, rfl, by rw [set_same H1.out]; exact HB.out, ⟨rfl, rfl, rfl, rfl, fun _ _ => rfl⟩⟩
  case round =>
    obtain ⟨j, hkj, hj, hwd, hbr, htr⟩ := hrel
    have c0 : wr.cell? ⟨sb, so, none⟩ = some (.slice a src.length c) := by
      simp [World.cell?, hbr, H0.out]
    have c1 : wr.cell? ⟨sb, so + 1, none⟩ = some (.int .i64 (j : Int)) := by
      simp [World.cell?, hbr, hso]
    by_cases hjl : j < src.length
    · obtain ⟨x, hx⟩ : ∃ x, src[j]? = some x := ⟨src[j], by simp [hjl]⟩
      have hstep := wordsAt_step hx
      obtain ⟨b, o, rfl, hlt, hcw⟩ := HV.out j x hx
      have hbs : b ≠ sb := HFAR.out b o rfl
      have hc : wr.cell? ⟨b, o + j, none⟩ = some (.int .u8 (x.toNat : Int)) := (htr.cell hbs).trans hcw
      have z1 : wr.frozen? ⟨sb, so + 1, none⟩ = false := by simp [World.frozen?, hbr]
      have k0 : (0 : Int) ≤ (j : Int) := by omega
      have k1 : (j : Int) < (src.length : Int) := by omega
      have HBR := hidX hbr
      have HTR := hidX htr
      have HBL := hidX (isBlank_any x)
      have HM : Hid (atOf sb so wr = j) := show _ = _ from by unfold atOf; rw [c1]; simp [intOf]
      have hbv : BysAt wr (some ⟨b, o, none⟩) src := fun i y hy => by
        obtain ⟨b', o', e, h1, h2⟩ := HV.out i y hy
        exact ⟨b', o', e, by rw [HTR.out.size]; exact h1, (HTR.out.cell (HFAR.out b' o' e)).trans h2⟩
      have HBV := hidX hbv
      clear hcw hbr htr hlt hbv
      by_cases hbl : blankB x = true
      · rw [if_pos hbl] at hstep
        have HS : Hid (wordsAt src (j + 1) = wordsAt src k) := show _ = _ from by rw [← hstep, hwd]
        rw [hbl] at HBL
        clear hstep hbl hwd
        go_wp2_with fail
        go_region
        go_wp2_with fail
        go_region
        go_wp2_with (go_at_call 214; refine (HBL.out _).mono ?_; rintro e w1 ⟨rfl, hw⟩; rw [hw]; clear hw w1)
        go_roundw
        case rel => exact ⟨j + 1, by omega, by omega, HS.out, moved HBR.out _ (by go_num), HTR.out.drew'.drew'.trans' (Turned.setCells [_] (so + 1) _ sb)⟩
        case measure =>
          rw [HM.out]
          have e := atOf_moved (n := j + 1) hso HBR.out (.int .i64 ((j : Int) + 1)) (by go_num)
          change _ - atOf sb so ((wr.drew.drew).setCell ⟨sb, so + 1, none⟩ (.int .i64 ((j : Int) + 1))) < _
          rw [e]
          omega
      · have hbf : blankB x = false := by simpa using hbl
        rw [if_neg hbl] at hstep
        rw [hbf] at HBL
        by_cases h59 : x = 59
        · rw [if_pos h59] at hstep
          have HS : Hid (wordsAt src (lineEnd src j) = wordsAt src k) := show _ = _ from by unfold lineEnd; rw [← hstep, hwd]
          obtain ⟨hg1, hg2⟩ := lineEnd_gt (h59 ▸ hx)
          have he : ((x.toNat : Int) == 59) = true := by rw [h59]; rfl
          have HSC := hidX (skipComment_any src b o c sb so j t (cs.setIfInBounds (so + 1) (.int .i64 (j : Int))) wr.drew.drew (fun i y hy => HBV.out i y hy) hl hcap hjl HBR.out (by simp [H0.out]) (by simp [hso]))
          clear hstep hbl hbf hwd h59
          go_wp2_with fail
          go_region
          go_wp2_with fail
          go_region
          go_wp2_with (first | (go_at_call 214; refine (HBL.out _).mono ?_; rintro e w1 ⟨rfl, hw⟩; rw [hw]; clear hw w1) | (go_at_call 215; refine HSC.out.mono ?_; rintro e w1 ⟨rfl, hb1, ht1⟩) | fail)
          rw [set_twice] at hb1
          go_roundw
          case rel => exact ⟨lineEnd src j, by omega, hg2, HS.out, hb1, HTR.out.drew'.drew'.trans' ht1⟩
          case measure =>
            rw [HM.out, show atOf sb so w1 = lineEnd src j by unfold atOf; rw [atOf_at hb1 hso]; simp [intOf]]
            omega
        · have he : ((x.toNat : Int) == 59) = false := beqF fun h => h59 (byteN.1 (by rw [h]; rfl))
          clear hstep hbl
          go_wp2_with fail
          go_region
          go_wp2_with fail
          go_region
          go_wp2_with (go_at_call 214; refine (HBL.out _).mono ?_; rintro e w1 ⟨rfl, hw⟩; rw [hw]; clear hw w1)
          rw [Exit.noGoto_normal]
          refine bodyPost_end (results_none rfl _ _ _) rfl ⟨rfl, j, hkj, hj, hwd, fun y hy => ?_, HBR.out, HTR.out.drew'.drew'⟩
          rw [hx] at hy
          injection hy with hy
          subst hy
          exact ⟨hbf, h59⟩
    · obtain rfl : j = src.length := by omega
      have j1 : ¬ (src.length : Int) < (src.length : Int) := by omega
      go_wp2_with fail
      go_region
      go_wp2
      rw [Exit.noGoto_normal]
      refine bodyPost_end (results_none rfl _ _ _) rfl ⟨rfl, src.length, hkj, Nat.le_refl _, hwd, fun x hx => ?_, hbr, htr.drew'⟩
      rw [List.getElem?_eq_none (Nat.le_refl _)] at hx
      cases hx
end Go.Proofs.YtgkoiojelckblaaGreatDoor

namespace Go.Proofs.YtgkoiojelckblaaGreatDoor

/-- A fault: its code and its place. -/
abbrev Flt := Int × Nat
/-- What reading tells: a fault, or what was read and the words that are left. -/
abbrev Px (α : Type) := Except Flt (α × List Wd)
def andP {α β : Type} (r : Px α) (f : α → List Wd → Px β) : Px β := match r with
  | .error e => .error e
  | .ok (x, l) => f x l
/-- A word's kind as the program counts it, and what it keeps of its text. -/
def pkW (x : Wd) : Int := if x.kind = 0 then 0 else if x.kind = 1 then 40 else if x.kind = 2 then 41 else pkind x.text
def ptW (x : Wd) : Bs := if x.kind = 0 then [] else if x.kind = 1 then [] else if x.kind = 2 then [] else ptext x.text
def badW (x : Wd) : Option Flt := if x.kind = 7 then some (1, x.pos) else if x.kind = 8 then some (2, x.pos) else none
def nextW : List Wd → Px Wd
  | [] => .error (0, 0)
  | x :: r => match badW x with
    | some f => .error f
    | none => .ok (x, if x.kind = 0 then x :: r else r)
def takeW (k : Int) (l : List Wd) : Px Wd := match nextW l with
  | .error f => .error f
  | .ok (x, r) => if pkW x = k then .ok (x, r) else .error (3, x.pos)
/-- A word is as the cutting makes it. -/
def WdOk (x : Wd) : Prop := (x.text = [] ∧ x.num = 0 ∧ (x.kind = 0 ∨ x.kind = 1 ∨ x.kind = 2 ∨ x.kind = 7)) ∨ (x.kind = mkind x.text ∧ x.num = mnum x.text)
theorem mkind_ne (t : Bs) : mkind t ≠ 0 ∧ mkind t ≠ 1 ∧ mkind t ≠ 2 ∧ mkind t ≠ 7 := by
  unfold mkind
  repeat' split
  all_goals decide
theorem opTx_ix (t : Bs) : decide (t ∈ opTx) = decide (testIx t ≠ 0) := by
  by_cases h : testIx t = 0
  · rw [show decide (testIx t ≠ 0) = false from decide_eq_false fun hh => hh h]
    refine decide_eq_false fun hm => ?_
    obtain ⟨i, hi, e⟩ := List.getElem_of_mem hm
    have hi' : i < 6 := hi
    have := testIx_hit (t := t) (n := i + 1) (by omega) (by omega) (by rw [← e]; simp [List.getD, hi])
    omega
  · rw [show decide (testIx t ≠ 0) = true from decide_eq_true h]
    refine decide_eq_true ?_
    apply Classical.byContradiction
    intro hm
    refine h (testIx_none fun j hj e => hm ?_)
    rw [← e]
    have hj' : j < opTx.length := hj
    simp [List.getD, hj']
/-- What is no word by one count is none by the other. -/
theorem pkind_bad (t : Bs) : pkind t = -1 ↔ mkind t = 8 := by
  have hix := opTx_ix t
  unfold pkind mkind isOtherW
  rw [hix]
  by_cases h1 : (numOf t).isSome = true
  · simp [h1]
  · by_cases h2 : gSym t = true
    · by_cases h3 : isVarW t = true <;> simp [h1, h2, h3]
    · by_cases h3 : isVarW t = true
      · simp [h1, h2, h3]
      · by_cases h4 : testIx t ≠ 0
        · simp [h1, h2, h3, h4]
        · by_cases h5 : t ∈ arTx
          · simp [h1, h2, h3, h4, h5]
          · by_cases h6 : t = [95]
            · rw [if_neg h1, if_neg h2, if_neg h3, if_neg h4, if_neg h5, if_pos h6, if_neg h1, if_neg h3, if_neg h2, if_pos (by rw [decide_eq_true h6]; rfl)]
              decide
            · by_cases h7 : t = [61, 62]
              · rw [if_neg h1, if_neg h2, if_neg h3, if_neg h4, if_neg h5, if_neg h6, if_pos h7, if_neg h1, if_neg h3, if_neg h2, if_pos (by rw [decide_eq_true h7]; simp)]
                decide
              · simp [h1, h2, h3, h4, h5, h6, h7]
end Go.Proofs.YtgkoiojelckblaaGreatDoor

namespace Go.Proofs.YtgkoiojelckblaaGreatDoor
open Go.RowKit
attribute [local go_sem ↓] Go.wp_at_zero Go.wp_at_succ

theorem cells4X {w : World} {b : Nat} {k pos : Int} {t : Bs} {n : Int} {ty : TypeId} (h : w.heap[b]? = some (.cells (pwL k pos t n).toArray ty (0, 0))) : w.cell? ⟨b, 0, none⟩ = some (.int .i32 k) ∧ w.cell? ⟨b, 1, none⟩ = some (.int .i64 pos) ∧ w.cell? ⟨b, 2, none⟩ = some (.string (mkS t)) ∧ w.cell? ⟨b, 3, none⟩ = some (.int .i64 n) := by
  refine ⟨?_, ?_, ?_, ?_⟩ <;> simp [World.cell?, h, pwL]
set_option maxHeartbeats 1600000 in
theorem wfault_any (k pos : Int) (t : Bs) (n code : Int) (w : World) : Calls Tryz.prog 70 #[pwV k pos t n, .int .i64 code] w fun e w' => e = .returned (.agg #[.int .i64 code, .int .i64 pos]) ∧ Below w.heap.size w w' := by
  unfold pwV
  go_enter Tryz.func70, Tryz.ntmps70
  go_wp2
  exact bodyPost_ret (v := .agg #[.int .i64 code, .int .i64 pos]) (by simp [results, Tryz.results70, go_sem]) rfl ⟨rfl, ((Below.refl _ _).alloc (Nat.le_refl _) _).alloc (by simp) _⟩
/-- A word's value. -/
def wVal (k n : Int) (t : Bs) : V := if k = 48 then (0, n, mkS []) else (1, 0, mkS t)
set_option maxHeartbeats 1600000 in
theorem wvalue_any (k pos : Int) (t : Bs) (n : Int) (w : World) : Calls Tryz.prog 106 #[pwV k pos t n] w fun e w' => e = .returned (.agg (wVal k n t).cells.toArray) ∧ Below w.heap.size w w' := by
  unfold pwV
  by_cases hk : k = 48
  · have h1 : (k == 48) = true := by simpa using hk
    go_enter Tryz.func106, Tryz.ntmps106
    go_wp2
    exact bodyPost_ret (v := .agg #[.int .i64 0, .int .i64 n, .string ⟨#[]⟩]) (by simp [results, Tryz.results106, go_sem]) rfl ⟨by simp [wVal, hk, V.cells, V.kind, V.num, V.sym, mkS], ((Below.refl _ _).alloc (Nat.le_refl _) _).alloc (by simp) _⟩
  · have h1 : (k == 48) = false := by simpa using hk
    go_enter Tryz.func106, Tryz.ntmps106
    go_wp2
    exact bodyPost_ret (v := .agg #[.int .i64 1, .int .i64 0, .string (mkS t)]) (by simp [results, Tryz.results106, go_sem]) rfl ⟨by simp [wVal, hk, V.cells, V.kind, V.num, V.sym], ((Below.refl _ _).alloc (Nat.le_refl _) _).alloc (by simp) _⟩
end Go.Proofs.YtgkoiojelckblaaGreatDoor

namespace Go.Proofs.YtgkoiojelckblaaGreatDoor
open Go.RowKit
attribute [local go_sem ↓] Go.wp_at_zero Go.wp_at_succ

/-- The scanner in cells so, so + 1 of block sb, ahead of the words l. -/
structure ScAt (w : World) (sb so : Nat) (t : TypeId) (cs : Array Value) (src : Bs) (a : Option Addr) (c : Nat) (l : List Wd) : Prop where
  blk : w.heap[sb]? = some (.cells cs t (0, 0))
  src0 : cs[so]? = some (.slice a src.length c)
  cap : src.length ≤ c
  len : src.length ≤ 20000
  bys : BysAt w a src
  far : ∀ b o, a = some ⟨b, o, none⟩ → b < sb
  pos : ∃ k : Nat, k ≤ src.length ∧ cs[so + 1]? = some (.int .i64 (k : Int)) ∧ wordsAt src k = l
/-- What the scanner asks of the program's own variables. -/
structure EnvAt (w : World) (sb : Nat) : Prop where
  err : ErrAt w
  tests : TestsAt w 1 1
  g1 : 1 < sb
  g2 : 4 < sb
theorem ErrAt.keep {w w' : World} {B : Nat} (h : ErrAt w) (hg : 4 < B) (hb : Below B w w') : ErrAt w' := by
  obtain ⟨tp, p, h⟩ := h
  exact ⟨tp, p, var?_below hb errNamed hg h⟩
theorem TestsAt.keep {w w' : World} {B : Nat} (h : TestsAt w 1 1) (hg : 1 < B) (hb : Below B w w') : TestsAt w' 1 1 := fun k hk => by
  rw [← h k hk]
  exact World.cell?_of_block (w := w) (hb.block _ hg)
theorem BysAt.keep {w w' : World} {a : Option Addr} {src : Bs} {B : Nat} (h : BysAt w a src) (hf : ∀ b o, a = some ⟨b, o, none⟩ → b < B) (hb : Below B w w') : BysAt w' a src := fun i y hy => by
  obtain ⟨b, o, e, h1, h2⟩ := h i y hy
  exact ⟨b, o, e, Nat.lt_of_lt_of_le h1 hb.size, (World.cell?_of_block (w := w) (hb.block b (hf b o e))).trans h2⟩
theorem EnvAt.keep {w w' : World} {sb : Nat} (h : EnvAt w sb) (hb : Below sb w w') : EnvAt w' sb := ⟨h.err.keep h.g2 hb, h.tests.keep h.g1 hb, h.g1, h.g2⟩
def fltE (f : Flt) : Ending := .panicked [{ v := .iface 62 (.agg #[.int .i64 f.1, .int .i64 (f.2 : Int)]), recovered := false }]
def NxPost (w : World) (sb so : Nat) (t : TypeId) (cs : Array Value) (src : Bs) (a : Option Addr) (c : Nat) (r : Px Wd) (e : Ending) (w' : World) : Prop := MkO (some sb) w w' ∧ match r with
  | .error f => e = fltE f
  | .ok (x, l) => e = .returned (pwV (pkW x) x.pos (ptW x) x.num) ∧ ∃ j : Nat, ScAt w' sb so t (cs.setIfInBounds (so + 1) (.int .i64 (j : Int))) src a c l
theorem Turned.mko {w w' : World} {b : Nat} (h : Turned w w' b) : MkO (some b) w w' := ⟨h.below (Nat.zero_le _), fun g _ hg => h.block g (fun e => hg (by rw [e]))⟩
theorem MkO.bel {w w' : World} {sb : Nat} (h : MkO (some sb) w w') (hs : sb < w.heap.size) : Below sb w w' := h.below (by omega) (fun g e => by cases e; exact Nat.le_refl _)
theorem MkO.turn {b : Option Nat} {w w2 w3 : World} {r : Nat} (h : MkO b w w2) (ht : Turned w2 w3 r) (hr : w.heap.size ≤ r) : MkO b w w3 :=
  ⟨h.rest.trans (ht.below (Nat.zero_le _)), fun g hg hb => (ht.block g (by omega)).trans (h.block g hg hb)⟩
theorem MkO.drew {b : Option Nat} {w w' : World} (h : MkO b w w') : MkO b w w'.drew := ⟨h.rest.drew, h.block⟩
theorem lift_setW {P : World → Prop} {w : World} {b i : Nat} {v : Value} {cs : Array Value} {t : TypeId} (h : w.heap[b]? = some (.cells cs t (0, 0))) (hP : ∀ wt, wt.heap[b]? = some (.cells (cs.setIfInBounds i v) t (0, 0)) → Turned w wt b → P wt) : P (w.setCell ⟨b, i, none⟩ v) := hP _ (heap_setCell_same h _) (Turned.setCells [_] i w b)
theorem lift_allocD {P : World → Prop} {w1 : World} {o : Obj} (h : ∀ wt, Below w1.heap.size w1 wt → wt.heap[w1.heap.size]? = some o → P wt) : P (w1.alloc o).drew.drew := h _ ((Below.refl _ _).alloc (Nat.le_refl _) _).drew.drew (heap_alloc_new _ _)
theorem step_store_blk {P : Program} {w : World} {ops : Array Oper} {o : Oper} {a : Act} {K : Act → World → Prop} {Q : Exit → Act → World → Prop} {E : Prop} (hgd : o.guard = none) (ty : TypeId) (x y : Operand) (ho : o.op = .store ty x y)
    (b : Nat) (L : List Value) (hx : a.eval x = .pointer (some ⟨b, 0, none⟩)) (hy : a.eval y = .agg L.toArray) (c : Array Value) (t : TypeId) (hb : w.heap[b]? = some (.cells c t (0, 0)))
    (hs : c.size = L.length) (hi : (P.info? ty).map (·.size) = some L.length) (h1 : ∀ v ∈ L, v.oneCell' = true)
    (h : ∀ w', Hid (w'.heap[b]? = some (.cells L.toArray t (0, 0))) → Hid (Turned w w' b) → K (a.put o.dst undef) w') :
    if Region.wanted o (yielded ops a.tmps) = true then Oper.wp P o a w K Q else E := by
  have hw : Region.wanted o (yielded ops a.tmps) = true := by simp [Region.wanted, hgd]
  rw [if_pos hw]
  refine wp_store_mid ty x y ho b 0 L.toArray hx hy (there_blk hb (by simp; omega)) (by simpa using hi) (all_oneCell_toArray h1) (h _ ?_ (Turned.setCells _ _ _ _))
  show _ = _
  have := heap_setCells_splice hb (o := 0) L (by omega)
  rw [this]
  have hd : c.toList.drop (0 + L.length) = [] := List.drop_eq_nil_of_le (by simp; omega)
  rw [hd]
  simp
theorem ScAt.moved {w w' : World} {sb so j : Nat} {t : TypeId} {cs : Array Value} {src : Bs} {a : Option Addr} {c : Nat} {l l' : List Wd} (h : ScAt w sb so t cs src a c l) (hm : MkO (some sb) w w') (hb : w'.heap[sb]? = some (.cells (cs.setIfInBounds (so + 1) (.int .i64 (j : Int))) t (0, 0))) (hj : j ≤ src.length) (hw : wordsAt src j = l') : ScAt w' sb so t (cs.setIfInBounds (so + 1) (.int .i64 (j : Int))) src a c l' := by
  obtain ⟨k, _, hk, _⟩ := h.pos
  have hso : so + 1 < cs.size := (Array.getElem?_eq_some_iff.1 hk).1
  refine ⟨hb, ?_, h.cap, h.len, h.bys.keep h.far (hm.bel (lt_of_block' h.blk)), h.far, j, hj, ?_, hw⟩
  · rw [Array.getElem?_setIfInBounds_ne (by omega)]
    exact h.src0
  · simp [hso]
theorem set_at {sb so n j : Nat} {w : World} {t : TypeId} {cs : Array Value} (h : w.heap[sb]? = some (.cells (cs.setIfInBounds (so + 1) (.int .i64 (j : Int))) t (0, 0))) (v : Value) (hv : v = .int .i64 (n : Int)) : (w.setCell ⟨sb, so + 1, none⟩ v).heap[sb]? = some (.cells (cs.setIfInBounds (so + 1) (.int .i64 (n : Int))) t (0, 0)) := by
  subst hv
  have := heap_setCell_same (i := so + 1) h (.int .i64 (n : Int))
  rw [set_twice] at this
  exact this
theorem nextW_cons {x : Wd} {r : List Wd} (h : badW x = none) (h0 : x.kind ≠ 0) : nextW (x :: r) = .ok (x, r) := by
  show (match badW x with | some f => Except.error f | none => Except.ok (x, if x.kind = 0 then x :: r else r)) = _
  rw [h]
  simp [h0]
theorem wordB_not {x : UInt8} (h : wordB x = false) (h1 : ¬ x = 59) (h2 : ¬ x = 40) (h3 : ¬ x = 41) : x.toNat < 33 ∨ 126 < x.toNat := by
  apply Classical.byContradiction
  intro h4
  rw [wordB_of h1 h2 h3 h4] at h
  cases h
theorem wordB_yes {x : UInt8} (h : wordB x = true) : ¬ (x.toNat < 33 ∨ 126 < x.toNat) := by
  unfold wordB at h
  simp at h
  omega
set_option maxRecDepth 100000 in
set_option maxHeartbeats 12800000 in
theorem scNext_any (w : World) (sb so : Nat) (t : TypeId) (cs : Array Value) (src : Bs) (a : Option Addr) (c : Nat) (l : List Wd) (h : ScAt w sb so t cs src a c l) (hE : EnvAt w sb) : Calls Tryz.prog 105 #[.pointer (some ⟨sb, so, none⟩)] w (NxPost w sb so t cs src a c (nextW l)) := by
  have HE := hidX hE
  have HL := hidX h
  obtain ⟨hblk, hsrc, hcap, hlen, hbys, hfar, k, hkl, hk, hwl⟩ := h
  have hsb : sb < w.heap.size := lt_of_block' hblk
  have hso : so + 1 < cs.size := (Array.getElem?_eq_some_iff.1 hk).1
  clear hE
  go_enter Tryz.func105, Tryz.ntmps105
  go_upto_region 1 with fail
  refine lift_alloc ?_
  intro w1 hW1 hq1
  have HSK := hidX (skip_any src a c sb so k t cs w1 (hbys.below hW1) (fun b o e => Nat.ne_of_lt (hfar b o e)) hlen hcap hkl ((hW1.block sb hsb).trans hblk) hsrc hk)
  have HW1 := hidX hW1
  have hrb : w.heap.size < w1.heap.size := lt_of_block' hq1
  obtain ⟨Z, hZ⟩ : ∃ Z : Array Value, Z = #[.int .i32 0, .int .i64 0, .string ⟨#[]⟩, .int .i64 0] := ⟨_, rfl⟩
  rw [← hZ] at hq1
  have hZs : Z.size = 4 := by rw [hZ]; rfl
  have HQ1 := hidX hq1
  have HWL := hidX hwl
  clear hW1 hq1 hblk hbys hk hkl hwl hZ
  go_upto_region 2 with (first | (go_at_call 159; refine HSK.out.mono ?_; rintro e w2 ⟨rfl, j, hkj, hjl, hwj, hnb, hb2, ht2⟩) | fail)
  have M2 := hidX ((MkO.of_below HW1.out : MkO (some sb) w w1).trans ht2.mko)
  have hq2 := (ht2.block w.heap.size (by omega)).trans HQ1.out
  have hs2 : w.heap.size < w2.heap.size := lt_of_block' hq2
  have HB2 := hidX hb2
  have HJ := hidX (hwj.trans HWL.out)
  have c0 : w2.cell? ⟨sb, so, none⟩ = some (.slice a src.length c) := by simp [World.cell?, hb2, hsrc]
  have c1 : w2.cell? ⟨sb, so + 1, none⟩ = some (.int .i64 (j : Int)) := by simp [World.cell?, hb2, hso]
  have z1 : w2.frozen? ⟨sb, so + 1, none⟩ = false := by simp [World.frozen?, hb2]
  have HBY := hidX (HL.out.bys.keep HL.out.far (M2.out.bel hsb))
  clear hb2 ht2 HSK hwj
  by_cases hje : j = src.length
  · subst hje
    have hl0 : l = [⟨0, src.length, [], 0⟩] := by rw [← HJ.out, wordsAt_end]
    have e1 : ((src.length : Int) == (src.length : Int)) = true := by simp
    go_wp2_with (first | (refine wpList_store_blk (by rfl) 146 (.tmp 2) (.tmp 20) (by rfl) w.heap.size (pwL 0 (src.length : Int) [] 0) (by rfl) (by rfl) _ 146 hq2 hZs infoPW (pwL_one _ _ _ _) ?_; intro w3 hb3 ht3) | fail)
    have hld := run_loadVar_mid (P := Tryz.prog) w3 w.heap.size 0 146 (pwL 0 (src.length : Int) [] 0) _ (range_blk hb3.out) Tryz.underlying146 rfl infoPW
    have M3 := M2.out.turn ht3.out (Nat.le_refl _)
    go_frame
    refine bodyPost_ret (v := .agg (pwL 0 (src.length : Int) [] 0).toArray) (by simp [results, Tryz.results105, asAddr, hld]) rfl ⟨M3, ?_⟩
    rw [hl0]
    exact ⟨rfl, src.length, HL.out.moved M3 ((ht3.out.block sb (by omega)).trans HB2.out) (Nat.le_refl _) (wordsAt_end src)⟩
  · have hjl' : j < src.length := by omega
    obtain ⟨x, hx⟩ : ∃ x, src[j]? = some x := ⟨src[j], by simp [hjl']⟩
    obtain ⟨hnb1, hnb2⟩ := hnb x hx
    have hst := wordsAt_step hx
    rw [if_neg (by simp [hnb1]), if_neg hnb2, HJ.out] at hst
    obtain ⟨b, o, rfl, hlt, hcw⟩ := HBY.out j x hx
    have e1 : ((j : Int) == (src.length : Int)) = false := beqF (by omega)
    have k0 : (0 : Int) ≤ (j : Int) := by omega
    have k1 : (j : Int) < (src.length : Int) := by omega
    by_cases h40 : x = 40 ∨ x = 41
    · have HN : ∃ d : Wd, Hid (nextW l = .ok (d, wordsAt src (j + 1))) ∧ Hid (pwV (pkW d) d.pos (ptW d) d.num = .agg (pwL (x.toNat : Int) (j : Int) [] 0).toArray) := by
        rcases h40 with h | h
        · refine ⟨⟨1, j, [], 0⟩, ?_, ?_⟩
          · show nextW l = _
            rw [hst, if_pos h]
            rfl
          · subst h
            rfl
        · refine ⟨⟨2, j, [], 0⟩, ?_, ?_⟩
          · show nextW l = _
            rw [hst, if_neg (by rw [h]; decide), if_pos h]
            rfl
          · subst h
            rfl
      obtain ⟨d, HN, HD⟩ := HN
      have hcnv : IntKind.i32.wrap (x.toNat : Int) = (x.toNat : Int) := by rw [IntKind.wrap_i32]; have := x.toNat_lt; omega
      have hor : ((x.toNat : Int) == 40) = true ∨ (((x.toNat : Int) == 40) = false ∧ ((x.toNat : Int) == 41) = true) := by
        rcases h40 with h | h
        · left; subst h; rfl
        · right; subst h; exact ⟨rfl, rfl⟩
      clear h40 hst hnb hnb1 hnb2 HJ
      have hxn : ∃ X : Int, X = (x.toNat : Int) := ⟨_, rfl⟩
      obtain ⟨X, hX⟩ := hxn
      rw [← hX] at hcnv hor hcw HD
      clear hX
      rcases hor with e2 | ⟨e2, e3⟩
      all_goals
        go_upto_region 8 with fail
        refine lift_setW HB2.out ?_
        intro w4 hb4 ht4
        rw [set_twice] at hb4
        have hq4 := (ht4.block w.heap.size (by omega)).trans hq2
        have M4 := hidX (M2.out.trans ht4.mko)
        have HB4 := hidX hb4
        clear hb4 ht4 c0 c1 z1 hcw
        go_wp2_with (first | (refine wpList_store_blk (by rfl) 146 (.tmp 2) (.tmp 44) (by rfl) w.heap.size (pwL X (j : Int) [] 0) (by rfl) (by rfl) _ 146 hq4 hZs infoPW (pwL_one _ _ _ _) ?_; intro w3 hb3 ht3) | fail)
        have hld := run_loadVar_mid (P := Tryz.prog) w3 w.heap.size 0 146 (pwL X (j : Int) [] 0) _ (range_blk hb3.out) Tryz.underlying146 rfl infoPW
        have M3 := M4.out.turn ht3.out (Nat.le_refl _)
        go_frame
        refine bodyPost_ret (v := .agg (pwL X (j : Int) [] 0).toArray) (by simp [results, Tryz.results105, asAddr, hld]) rfl ⟨M3, ?_⟩
        rw [HN.out]
        exact ⟨by rw [HD.out], j + 1, HL.out.moved M3 ((ht3.out.block sb (by omega)).trans (by rw [HB4.out]; rfl)) (by omega) rfl⟩
    · have h40a : ¬ x = 40 := fun e => h40 (.inl e)
      have h41a : ¬ x = 41 := fun e => h40 (.inr e)
      rw [if_neg h40a, if_neg h41a] at hst
      have e2 : ((x.toNat : Int) == 40) = false := beqF fun e => h40a (byteN.1 (by rw [e]; rfl))
      have e3 : ((x.toNat : Int) == 41) = false := beqF fun e => h41a (byteN.1 (by rw [e]; rfl))
      have HST := hidX hst
      clear hst hnb hnb1 h40
      go_upto_region 9 with fail
      clear e1 e2 e3 c0 c1 z1 hcw k0 k1
      go_loopw [45] (fun _ wr => ∃ i : Nat, j ≤ i ∧ i ≤ src.length ∧ (∀ m y, j ≤ m → m < i → src[m]? = some y → wordB y = true) ∧ wr.heap[sb]? = some (.cells (cs.setIfInBounds (so + 1) (.int .i64 (i : Int))) t (0, 0)) ∧ Turned w2 wr sb) (fun _ wr => src.length - atOf sb so wr)
      case atStart => exact ⟨j, Nat.le_refl _, hjl, fun m y h1 h2 => absurd h1 (by omega), HB2.out, ⟨rfl, rfl, rfl, rfl, fun _ _ => rfl⟩⟩
      case round =>
        obtain ⟨i, hji, hil, hall, hbr, htr⟩ := hrel
        have d0 : wr.cell? ⟨sb, so, none⟩ = some (.slice (some ⟨b, o, none⟩) src.length c) := by simp [World.cell?, hbr, hsrc]
        have d1 : wr.cell? ⟨sb, so + 1, none⟩ = some (.int .i64 (i : Int)) := by simp [World.cell?, hbr, hso]
        have z1 : wr.frozen? ⟨sb, so + 1, none⟩ = false := by simp [World.frozen?, hbr]
        have HBR := hidX hbr
        have HTR := hidX htr
        have HALL := hidX hall
        have HM : Hid (atOf sb so wr = i) := show _ = _ from by unfold atOf; rw [d1]; simp [intOf]
        have MR := hidX (M2.out.trans htr.mko)
        have hqr := (htr.block w.heap.size (by omega)).trans hq2
        have hsr : w2.heap.size = wr.heap.size := htr.size.symm
        clear hbr htr hall
        by_cases hie : i < src.length
        · obtain ⟨y, hy⟩ : ∃ y, src[i]? = some y := ⟨src[i], by simp [hie]⟩
          obtain ⟨b', o', eb, hlt', hcy'⟩ := HBY.out i y hy
          simp only [Option.some.injEq, Addr.mk.injEq, and_true] at eb
          obtain ⟨rfl, rfl⟩ := eb
          have hcy : wr.cell? ⟨b, o + i, none⟩ = some (.int .u8 (y.toNat : Int)) := (HTR.out.cell (Nat.ne_of_lt (hfar b o rfl))).trans hcy'
          have k0 : (0 : Int) ≤ (i : Int) := by omega
          have k1 : (i : Int) < (src.length : Int) := by omega
          have HIW := hidX (inWord_any y)
          clear hcy' hlt'
          cases hyw : wordB y with
          | true =>
            rw [hyw] at HIW
            go_wp2_with fail
            refine wp_region_noPanic ?_
            refine wp_region_held_drew (S := (fun u => u.cell? ⟨sb, so, none⟩ = some (.slice (some ⟨b, o, none⟩) src.length c) ∧ u.cell? ⟨sb, so + 1, none⟩ = some (.int .i64 (i : Int)) ∧ u.cell? ⟨b, o + i, none⟩ = some (.int .u8 (y.toNat : Int)))) (by kernel_rfl) ?_ (fun hHeld => ?_)
            · (try dsimp only)
              (exact ⟨d0, d1, hcy⟩)
            refine tk 0 hHeld ?_
            (try simp only [pA, pZ, pS])
            refine tk 1 hHeld ?_
            (try simp only [pA, pZ, pS])
            refine tk 2 hHeld ?_
            (try simp only [pA, pZ, pS])
            refine tk 3 hHeld ?_
            (try simp only [pA, pZ, pS])
            refine tk 4 hHeld ?_
            (try simp only [pA, pZ, pS])
            refine tk 5 hHeld ?_
            (try simp only [pA, pZ, pS])
            refine tk 6 hHeld ?_
            (try simp only [pA, pZ, pS])
            refine tk 7 hHeld ?_
            (try simp only [pA, pZ, pS])
            refine tk 8 hHeld ?_
            (try simp only [pA, pZ, pS])
            refine tk 9 hHeld ?_
            (try simp only [pA, pZ, pS])
            refine tk 10 hHeld ?_
            (try simp only [pA, pZ, pS])
            refine tk 11 hHeld ?_
            (try simp only [pA, pZ, pS])
            refine tk 12 hHeld ?_
            (try simp only [pA, pZ, pS])
            refine tk 13 hHeld ?_
            (try simp only [pA, pZ, pS])
            refine tk 14 hHeld ?_
            (try simp only [pA, pZ, pS])
            refine tk 15 hHeld ?_
            (try simp only [pA, pZ, pS])
            refine tk 16 hHeld ?_
            (try simp only [pA, pZ, pS])
            refine tk 17 hHeld ?_
            (try simp only [pA, pZ, pS])
            refine tk 18 hHeld ?_
            (try simp only [pA, pZ, pS])
            refine tk 19 hHeld ?_
            (try simp only [pA, pZ, pS])
            refine tk 20 hHeld ?_
            (try simp only [pA, pZ, pS])
            refine wpAnyH_ready (rs := [21]) (by kernel_rfl) (by simp) ?_
            refine AllReadyH.cons (o := ?o1) ?ho1 (fun K hK => ?step1) AllReadyH.nil
            case ho1 => (simp only [List.getElem?_toArray, List.getElem?_cons_succ, List.getElem?_cons_zero]; rfl)
            go_simp
            (go_at_call 160; refine (HIW.out _).mono ?_; rintro e w5 ⟨rfl, hw⟩; rw [hw]; clear hw w5)
            (try go_wp2_with fail)
            refine hK.out _ _ ?hS1 (fun hHeld' => ?rest1)
            case hS1 => ((try dsimp only); (exact ⟨d0, d1, hcy⟩))
            clear hK K
            (first | simp only [pA, pZ, pS] | simp only [pN] | skip)
            clear hHeld
            have hHeld := hHeld'
            clear hHeld'
            refine tk 22 hHeld ?_
            (try simp only [pA, pZ, pS])
            refine wpAnyH_done (by kernel_rfl) ?_ _
            refine NoPanic.normal ?_
            go_wp2_with fail
            go_roundw
            case rel =>
              refine ⟨i + 1, by omega, by omega, fun m y' h1 h2 h3 => ?_, set_at HBR.out _ (by go_num), HTR.out.drew'.trans' (Turned.setCells [_] (so + 1) _ sb)⟩
              by_cases hmi : m = i
              · subst hmi
                rw [hy] at h3
                injection h3 with h3
                rw [← h3]
                exact hyw
              · exact HALL.out m y' h1 (by omega) h3
            case measure =>
              have e : atOf sb so ((wr.drew).setCell ⟨sb, so + 1, none⟩ (.int .i64 ((i : Int) + 1))) = i + 1 := by
                unfold atOf
                rw [atOf_at (set_at (n := i + 1) (w := wr.drew) HBR.out _ (by go_num)) hso]
                simp [intOf]
              rw [HM.out]
              change _ - atOf sb so ((wr.drew).setCell ⟨sb, so + 1, none⟩ (.int .i64 ((i : Int) + 1))) < _
              rw [e]
              omega
          | false =>
            rw [hyw] at HIW
            go_wp2_with fail
            refine wp_region_noPanic ?_
            refine wp_region_held_drew (S := (fun u => u.cell? ⟨sb, so, none⟩ = some (.slice (some ⟨b, o, none⟩) src.length c) ∧ u.cell? ⟨sb, so + 1, none⟩ = some (.int .i64 (i : Int)) ∧ u.cell? ⟨b, o + i, none⟩ = some (.int .u8 (y.toNat : Int)))) (by kernel_rfl) ?_ (fun hHeld => ?_)
            · (try dsimp only)
              (exact ⟨d0, d1, hcy⟩)
            refine tk 0 hHeld ?_
            (try simp only [pA, pZ, pS])
            refine tk 1 hHeld ?_
            (try simp only [pA, pZ, pS])
            refine tk 2 hHeld ?_
            (try simp only [pA, pZ, pS])
            refine tk 3 hHeld ?_
            (try simp only [pA, pZ, pS])
            refine tk 4 hHeld ?_
            (try simp only [pA, pZ, pS])
            refine tk 5 hHeld ?_
            (try simp only [pA, pZ, pS])
            refine tk 6 hHeld ?_
            (try simp only [pA, pZ, pS])
            refine tk 7 hHeld ?_
            (try simp only [pA, pZ, pS])
            refine tk 8 hHeld ?_
            (try simp only [pA, pZ, pS])
            refine tk 9 hHeld ?_
            (try simp only [pA, pZ, pS])
            refine tk 10 hHeld ?_
            (try simp only [pA, pZ, pS])
            refine tk 11 hHeld ?_
            (try simp only [pA, pZ, pS])
            refine tk 12 hHeld ?_
            (try simp only [pA, pZ, pS])
            refine tk 13 hHeld ?_
            (try simp only [pA, pZ, pS])
            refine tk 14 hHeld ?_
            (try simp only [pA, pZ, pS])
            refine tk 15 hHeld ?_
            (try simp only [pA, pZ, pS])
            refine tk 16 hHeld ?_
            (try simp only [pA, pZ, pS])
            refine tk 17 hHeld ?_
            (try simp only [pA, pZ, pS])
            refine tk 18 hHeld ?_
            (try simp only [pA, pZ, pS])
            refine tk 19 hHeld ?_
            (try simp only [pA, pZ, pS])
            refine tk 20 hHeld ?_
            (try simp only [pA, pZ, pS])
            refine wpAnyH_ready (rs := [21]) (by kernel_rfl) (by simp) ?_
            refine AllReadyH.cons (o := ?o2) ?ho2 (fun K hK => ?step2) AllReadyH.nil
            case ho2 => (simp only [List.getElem?_toArray, List.getElem?_cons_succ, List.getElem?_cons_zero]; rfl)
            go_simp
            (go_at_call 160; refine (HIW.out _).mono ?_; rintro e w5 ⟨rfl, hw⟩; rw [hw]; clear hw w5)
            (try go_wp2_with fail)
            refine hK.out _ _ ?hS2 (fun hHeld' => ?rest2)
            case hS2 => ((try dsimp only); (exact ⟨d0, d1, hcy⟩))
            clear hK K
            (first | simp only [pA, pZ, pS] | simp only [pN] | skip)
            clear hHeld
            have hHeld := hHeld'
            clear hHeld'
            refine tk 22 hHeld ?_
            (try simp only [pA, pZ, pS])
            refine wpAnyH_done (by kernel_rfl) ?_ _
            refine NoPanic.normal ?_
            by_cases hij : i = j
            · subst hij
              obtain rfl : x = y := by rw [hx] at hy; injection hy
              have hne := wordB_not hyw hnb2 h40a h41a
              have HN : Hid (nextW l = .error (1, i)) := show nextW l = _ from by
                rw [HST.out, if_pos hne]
                rfl
              have e5 : ((i : Int) == (i : Int)) = true := by simp
              clear hne hHeld
              go_wp2_with fail
              refine ⟨rfl, MR.out.drew, ?_⟩
              rw [HN.out]
              rfl
            · have hstop : ∀ z, src[i]? = some z → wordB z = false := fun z hz => by
                rw [hy] at hz
                injection hz with hz
                rw [← hz]
                exact hyw
              have e5 : ((i : Int) == (j : Int)) = false := beqF (by omega)
              have hjlt : j < i := by omega
              clear hyw HIW hcy k0 k1 hy hHeld
              go_wp2_with fail
              have hTr := run_at (p := wordB) (s := src) (k := j) (j := i) hji hil (fun m z h1 h2 h3 => HALL.out m z h1 h2 h3) hstop
              have hjw : wordB x = true := HALL.out j x (Nat.le_refl _) (by omega) hx
              obtain ⟨T, hT⟩ : ∃ T, T = (src.drop j).take (i - j) := ⟨_, rfl⟩
              have hTl : T.length ≤ 20000 := by rw [hT, List.length_take, List.length_drop]; omega
              have HN0 : Hid (l = ⟨mkind T, j, T, mnum T⟩ :: wordsAt src i) := show l = _ from by
                rw [HST.out, if_neg (wordB_yes hjw), hTr.1, hTr.2, ← hT]
              have HBYr := hidX (HBY.out.keep hfar (HTR.out.below (Nat.le_refl sb)))
              have hsbr : sb < wr.heap.size := by omega
              have CS := hidX (fun u (hu : Below wr.heap.size wr u) => (show u.cell? ⟨sb, so, none⟩ = some (.slice (some ⟨b, o, none⟩) src.length c) ∧ u.cell? ⟨sb, so + 1, none⟩ = some (.int .i64 (i : Int)) ∧ (convert 22 9 (.slice (some ⟨b, o + j, none⟩) (i - j) (c - j))).run Tryz.prog u = .ok (.string (mkS T)) u from ⟨cell_below hu d0, cell_below hu d1, by rw [hT]; exact conv_word src u b o (c - j) j i (HBYr.out.below hu) hji hil⟩))
              have HWO := hidX (fun u (hu : Below wr.heap.size wr u) => (show Calls Tryz.prog 161 #[.string (mkS T)] u fun e w' => e = .returned (.agg (pwL (pkind T) 0 (ptext T) (mnum T)).toArray) ∧ Below u.heap.size u w' from wordOf_any T u hTl ((HE.out.keep (MR.out.bel hsb)).keep (hu.mono (by omega))).err ((HE.out.keep (MR.out.bel hsb)).keep (hu.mono (by omega))).tests))
              have BD := hidX ((Below.refl wr.heap.size wr).drew.drew : Below wr.heap.size wr wr.drew.drew)
              have s0 : (0 : Int) ≤ (j : Int) := by omega
              have s1 : (j : Int) ≤ (i : Int) := by omega
              have s2 : (i : Int) ≤ (c : Int) := by omega
              have s3 : ¬ c = j := by omega
              clear hTr hjw hT hstop d0 d1 z1
              refine wp_region_noPanic ?_
              refine wp_region_held_drew (S := (fun u => u.cell? ⟨sb, so, none⟩ = some (.slice (some ⟨b, o, none⟩) src.length c) ∧ u.cell? ⟨sb, so + 1, none⟩ = some (.int .i64 (i : Int)) ∧ (convert 22 9 (.slice (some ⟨b, o + j, none⟩) (i - j) (c - j))).run Tryz.prog u = .ok (.string (mkS T)) u)) (by kernel_rfl) ?_ (fun hHeld => ?_)
              · (try dsimp only)
                exact CS.out _ BD.out
              refine tk 0 hHeld ?_
              (try simp only [pA, pZ, pS])
              refine tk 1 hHeld ?_
              (try simp only [pA, pZ, pS])
              refine tk 2 hHeld ?_
              (try simp only [pA, pZ, pS])
              refine tk 3 hHeld ?_
              (try simp only [pA, pZ, pS])
              refine tk 4 hHeld ?_
              (try simp only [pA, pZ, pS])
              refine tk 5 hHeld ?_
              (try simp only [pA, pZ, pS])
              refine tk 6 hHeld ?_
              (try simp only [pA, pZ, pS])
              refine tk 7 hHeld ?_
              (try simp only [pA, pZ, pS])
              refine tk 8 hHeld ?_
              (try simp only [pA, pZ, pS])
              refine tk 9 hHeld ?_
              (try simp only [pA, pZ, pS])
              refine tk 10 hHeld ?_
              (try simp only [pA, pZ, pS])
              refine wpAnyH_ready (rs := [11, 12]) (by kernel_rfl) (by simp) ?_
              refine AllReadyH.cons (o := ?o3) ?ho3 (fun K hK => ?step3) (AllReadyH.cons (o := ?o4) ?ho4 (fun K hK => ?step4) AllReadyH.nil)
              case ho3 => (simp only [List.getElem?_toArray, List.getElem?_cons_succ, List.getElem?_cons_zero]; rfl)
              case ho4 => (simp only [List.getElem?_toArray, List.getElem?_cons_succ, List.getElem?_cons_zero]; rfl)
              case step3 =>
                go_simp
                (go_at_call 161; refine (HWO.out _ BD.out).mono ?_; rintro e w5 ⟨rfl, hb5⟩; have B5 := hidX (BD.out.trans (hb5.mono BD.out.size)))
                refine hK.out _ _ ?hS5 (fun hHeld' => ?rest5)
                case hS5 => ((try dsimp only); exact CS.out _ B5.out)
                clear hK K
                (try simp only [pA, pZ, pS])
                clear hHeld
                have hHeld := hHeld'
                clear hHeld'
                refine wpAnyH_ready (rs := [12]) (by kernel_rfl) (by simp) ?_
                refine AllReadyH.cons (o := ?o6) ?ho6 (fun K hK => ?step6) AllReadyH.nil
                case ho6 => (simp only [List.getElem?_toArray, List.getElem?_cons_succ, List.getElem?_cons_zero]; rfl)
                go_simp
                refine hK.out _ _ ?hS7 (fun hHeld' => ?rest7)
                case hS7 => ((try dsimp only); exact CS.out _ (B5.out.alloc B5.out.size _))
                clear hK K
                (try simp only [pA, pZ, pS])
                clear hHeld
                have hHeld := hHeld'
                clear hHeld'
                refine lift_alloc ?_
                intro w6 hW6 hq6
                have B6 := hidX (B5.out.trans (hW6.mono B5.out.size))
                refine wpAnyH_ready (rs := [13]) (by kernel_rfl) (by simp) ?_
                refine AllReadyH.cons (o := ?o8) ?ho8 (fun K hK => ?step8) AllReadyH.nil
                case ho8 => (simp only [List.getElem?_toArray, List.getElem?_cons_succ, List.getElem?_cons_zero]; rfl)
                (refine step_store_blk (by rfl) 146 (.tmp 5) (.tmp 95) (by rfl) w5.heap.size (pwL (pkind T) 0 (ptext T) (mnum T)) (by rfl) (by rfl) _ 146 hq6 (by rfl) infoPW (pwL_one _ _ _ _) ?_; intro w7 hb7 ht7; have B7 := hidX (B6.out.trans (ht7.out.below B5.out.size)))
                refine hK.out _ _ ?hS9 (fun hHeld' => ?rest9)
                case hS9 => ((try dsimp only); exact CS.out _ B7.out)
                clear hK K
                (try dsimp only)
                clear hHeld
                have hHeld := hHeld'
                clear hHeld'
                refine wpAnyH_done (by kernel_rfl) ?_ _
                refine NoPanic.normal ?_
                have hg5 : wr.heap.size ≤ w5.heap.size := B5.out.size
                have hb7' := hb7.out
                have hbB7 := B7.out
                clear hHeld s0 s1 s2 s3 CS HWO BD
                have y7 := (cells4X hb7').2.1
                have f7 : w7.frozen? ⟨w5.heap.size, 1, none⟩ = false := by simp [World.frozen?, hb7']
                go_upto_region 15 with fail
                refine lift_setW hb7' ?_
                intro w8 hb8 ht8
                replace hb8 : w8.heap[w5.heap.size]? = some (.cells (pwL (pkind T) (j : Int) (ptext T) (mnum T)).toArray 146 (0, 0)) := hb8
                have hB8 := hbB7.trans (ht8.below hg5)
                have M8 := hidX (MR.out.trans (MkO.of_below hB8))
                have HS8 := hidX ((hB8.block sb hsbr).trans HBR.out)
                have hq8 := (hB8.block w.heap.size (by omega)).trans hqr
                have k8 := (cells4X hb8).1
                have hg8 : w5.heap.size < w8.heap.size := lt_of_block' hb8
                clear y7 f7 hb7' hbB7 ht8 hB8 hb7 ht7 B7
                by_cases hpk : pkind T = -1
                · have HN : Hid (nextW l = .error (2, j)) := show nextW l = _ from by
                    rw [HN0.out]
                    have h8 := (pkind_bad T).1 hpk
                    unfold nextW badW
                    simp [h8]
                  have e6 : (pkind T == -1) = true := by simp [hpk]
                  clear hpk
                  go_wp2_with (first | (refine wpList_load_blk (by rfl) 146 (.tmp 5) (by rfl) w5.heap.size (pwL (pkind T) (j : Int) (ptext T) (mnum T)) (by rfl) 146 (0, 0) hb8 _ Tryz.underlying146 rfl infoPW ?_) | (go_at_call 70; refine (wfault_any (pkind T) (j : Int) (ptext T) (mnum T) 2 _).mono ?_; rintro e w9 ⟨rfl, hb9⟩) | fail)
                  refine ⟨rfl, M8.out.trans (MkO.of_below hb9), ?_⟩
                  rw [HN.out]
                  rfl
                · have h8 : mkind T ≠ 8 := fun h => hpk ((pkind_bad T).2 h)
                  obtain ⟨n0, n1, n2, n7⟩ := mkind_ne T
                  have HN : Hid (nextW l = .ok (⟨mkind T, j, T, mnum T⟩, wordsAt src i)) := show nextW l = _ from by
                    rw [HN0.out]
                    exact nextW_cons (by unfold badW; simp [h8, n7]) n0
                  have HV : Hid (Ending.returned (.agg (pwL (pkind T) (j : Int) (ptext T) (mnum T)).toArray) = .returned (pwV (pkW ⟨mkind T, j, T, mnum T⟩) (j : Int) (ptW ⟨mkind T, j, T, mnum T⟩) (mnum T))) := show _ = _ from by
                    have e1 : pkW ⟨mkind T, j, T, mnum T⟩ = pkind T := by unfold pkW; simp [n0, n1, n2]
                    have e2 : ptW ⟨mkind T, j, T, mnum T⟩ = ptext T := by unfold ptW; simp [n0, n1, n2]
                    rw [e1, e2]
                    rfl
                  have e6 : (pkind T == -1) = false := by simpa using hpk
                  clear hpk h8 n0 n1 n2 n7
                  go_wp2_with (first | (refine wpList_load_blk (by rfl) 146 (.tmp 5) (by rfl) w5.heap.size (pwL (pkind T) (j : Int) (ptext T) (mnum T)) (by rfl) 146 (0, 0) hb8 _ Tryz.underlying146 rfl infoPW ?_) | (refine wpList_store_blk (by rfl) 146 (.tmp 2) (.tmp 104) (by rfl) w.heap.size (pwL (pkind T) (j : Int) (ptext T) (mnum T)) (by rfl) (by rfl) _ 146 hq8 hZs infoPW (pwL_one _ _ _ _) ?_; intro w3 hb3 ht3) | fail)
                  have hld := run_loadVar_mid (P := Tryz.prog) w3 w.heap.size 0 146 (pwL (pkind T) (j : Int) (ptext T) (mnum T)) _ (range_blk hb3.out) Tryz.underlying146 rfl infoPW
                  have M3 := M8.out.turn ht3.out (Nat.le_refl _)
                  go_frame
                  refine bodyPost_ret (v := .agg (pwL (pkind T) (j : Int) (ptext T) (mnum T)).toArray) (by simp [results, Tryz.results105, asAddr, hld]) rfl ⟨M3, ?_⟩
                  rw [HN.out]
                  exact ⟨HV.out, i, HL.out.moved M3 ((ht3.out.block sb (by omega)).trans HS8.out) hil rfl⟩
              case step4 =>
                go_simp
                refine hK.out _ _ ?hS10 (fun hHeld' => ?rest10)
                case hS10 => ((try dsimp only); exact CS.out _ (BD.out.alloc BD.out.size _))
                clear hK K
                (try simp only [pA, pZ, pS])
                clear hHeld
                have hHeld := hHeld'
                clear hHeld'
                refine lift_allocD ?_
                intro w6 hW6 hq6
                have B6 := hidX hW6
                have hl6 : wr.heap.size < w6.heap.size := lt_of_block' hq6
                refine wpAnyH_ready (rs := [11]) (by kernel_rfl) (by simp) ?_
                refine AllReadyH.cons (o := ?o11) ?ho11 (fun K hK => ?step11) AllReadyH.nil
                case ho11 => (simp only [List.getElem?_toArray, List.getElem?_cons_succ, List.getElem?_cons_zero]; rfl)
                go_simp
                (go_at_call 161; refine (HWO.out _ B6.out).mono ?_; rintro e w5 ⟨rfl, hb5⟩; have B5 := hidX (B6.out.trans (hb5.mono B6.out.size)); have hq5 := (hb5.block wr.heap.size hl6).trans hq6)
                refine hK.out _ _ ?hS12 (fun hHeld' => ?rest12)
                case hS12 => ((try dsimp only); exact CS.out _ B5.out)
                clear hK K
                (try simp only [pA, pZ, pS])
                clear hHeld
                have hHeld := hHeld'
                clear hHeld'
                refine wpAnyH_ready (rs := [13]) (by kernel_rfl) (by simp) ?_
                refine AllReadyH.cons (o := ?o13) ?ho13 (fun K hK => ?step13) AllReadyH.nil
                case ho13 => (simp only [List.getElem?_toArray, List.getElem?_cons_succ, List.getElem?_cons_zero]; rfl)
                (refine step_store_blk (by rfl) 146 (.tmp 5) (.tmp 95) (by rfl) wr.heap.size (pwL (pkind T) 0 (ptext T) (mnum T)) (by rfl) (by rfl) _ 146 hq5 (by rfl) infoPW (pwL_one _ _ _ _) ?_; intro w7 hb7 ht7; have B7 := hidX (B5.out.trans (ht7.out.below (Nat.le_refl _))))
                refine hK.out _ _ ?hS14 (fun hHeld' => ?rest14)
                case hS14 => ((try dsimp only); exact CS.out _ B7.out)
                clear hK K
                (try dsimp only)
                clear hHeld
                have hHeld := hHeld'
                clear hHeld'
                refine wpAnyH_done (by kernel_rfl) ?_ _
                refine NoPanic.normal ?_
                have hg5 : wr.heap.size ≤ wr.heap.size := (Nat.le_refl wr.heap.size)
                have hb7' := hb7.out
                have hbB7 := B7.out
                clear hHeld s0 s1 s2 s3 CS HWO BD
                have y7 := (cells4X hb7').2.1
                have f7 : w7.frozen? ⟨wr.heap.size, 1, none⟩ = false := by simp [World.frozen?, hb7']
                go_upto_region 15 with fail
                refine lift_setW hb7' ?_
                intro w8 hb8 ht8
                replace hb8 : w8.heap[wr.heap.size]? = some (.cells (pwL (pkind T) (j : Int) (ptext T) (mnum T)).toArray 146 (0, 0)) := hb8
                have hB8 := hbB7.trans (ht8.below hg5)
                have M8 := hidX (MR.out.trans (MkO.of_below hB8))
                have HS8 := hidX ((hB8.block sb hsbr).trans HBR.out)
                have hq8 := (hB8.block w.heap.size (by omega)).trans hqr
                have k8 := (cells4X hb8).1
                have hg8 : wr.heap.size < w8.heap.size := lt_of_block' hb8
                clear y7 f7 hb7' hbB7 ht8 hB8 hb7 ht7 B7
                by_cases hpk : pkind T = -1
                · have HN : Hid (nextW l = .error (2, j)) := show nextW l = _ from by
                    rw [HN0.out]
                    have h8 := (pkind_bad T).1 hpk
                    unfold nextW badW
                    simp [h8]
                  have e6 : (pkind T == -1) = true := by simp [hpk]
                  clear hpk
                  go_wp2_with (first | (refine wpList_load_blk (by rfl) 146 (.tmp 5) (by rfl) wr.heap.size (pwL (pkind T) (j : Int) (ptext T) (mnum T)) (by rfl) 146 (0, 0) hb8 _ Tryz.underlying146 rfl infoPW ?_) | (go_at_call 70; refine (wfault_any (pkind T) (j : Int) (ptext T) (mnum T) 2 _).mono ?_; rintro e w9 ⟨rfl, hb9⟩) | fail)
                  refine ⟨rfl, M8.out.trans (MkO.of_below hb9), ?_⟩
                  rw [HN.out]
                  rfl
                · have h8 : mkind T ≠ 8 := fun h => hpk ((pkind_bad T).2 h)
                  obtain ⟨n0, n1, n2, n7⟩ := mkind_ne T
                  have HN : Hid (nextW l = .ok (⟨mkind T, j, T, mnum T⟩, wordsAt src i)) := show nextW l = _ from by
                    rw [HN0.out]
                    exact nextW_cons (by unfold badW; simp [h8, n7]) n0
                  have HV : Hid (Ending.returned (.agg (pwL (pkind T) (j : Int) (ptext T) (mnum T)).toArray) = .returned (pwV (pkW ⟨mkind T, j, T, mnum T⟩) (j : Int) (ptW ⟨mkind T, j, T, mnum T⟩) (mnum T))) := show _ = _ from by
                    have e1 : pkW ⟨mkind T, j, T, mnum T⟩ = pkind T := by unfold pkW; simp [n0, n1, n2]
                    have e2 : ptW ⟨mkind T, j, T, mnum T⟩ = ptext T := by unfold ptW; simp [n0, n1, n2]
                    rw [e1, e2]
                    rfl
                  have e6 : (pkind T == -1) = false := by simpa using hpk
                  clear hpk h8 n0 n1 n2 n7
                  go_wp2_with (first | (refine wpList_load_blk (by rfl) 146 (.tmp 5) (by rfl) wr.heap.size (pwL (pkind T) (j : Int) (ptext T) (mnum T)) (by rfl) 146 (0, 0) hb8 _ Tryz.underlying146 rfl infoPW ?_) | (refine wpList_store_blk (by rfl) 146 (.tmp 2) (.tmp 104) (by rfl) w.heap.size (pwL (pkind T) (j : Int) (ptext T) (mnum T)) (by rfl) (by rfl) _ 146 hq8 hZs infoPW (pwL_one _ _ _ _) ?_; intro w3 hb3 ht3) | fail)
                  have hld := run_loadVar_mid (P := Tryz.prog) w3 w.heap.size 0 146 (pwL (pkind T) (j : Int) (ptext T) (mnum T)) _ (range_blk hb3.out) Tryz.underlying146 rfl infoPW
                  have M3 := M8.out.turn ht3.out (Nat.le_refl _)
                  go_frame
                  refine bodyPost_ret (v := .agg (pwL (pkind T) (j : Int) (ptext T) (mnum T)).toArray) (by simp [results, Tryz.results105, asAddr, hld]) rfl ⟨M3, ?_⟩
                  rw [HN.out]
                  exact ⟨HV.out, i, HL.out.moved M3 ((ht3.out.block sb (by omega)).trans HS8.out) hil rfl⟩
        · have hstop : ∀ z, src[i]? = some z → wordB z = false := fun z hz => absurd (List.getElem?_eq_some_iff.1 hz).1 (by omega)
          have hz0 : decide ((i : Int) < (src.length : Int)) = false := by simp; omega
          have hz1 : decide (i < src.length) = false := by simp; omega
          have e5 : ((i : Int) == (j : Int)) = false := beqF (by omega)
          have hjlt : j < i := by omega
          clear hie
          go_wp2_with fail
          refine wp_region_noPanic ?_
          refine wp_region_held_drew (S := (fun u => u.cell? ⟨sb, so, none⟩ = some (.slice (some ⟨b, o, none⟩) src.length c) ∧ u.cell? ⟨sb, so + 1, none⟩ = some (.int .i64 (i : Int)))) (by kernel_rfl) ?_ (fun hHeld => ?_)
          · (try dsimp only)
            (exact ⟨d0, d1⟩)
          refine tk 0 hHeld ?_
          (try simp only [pA, pZ, pS])
          refine tk 1 hHeld ?_
          (try simp only [pA, pZ, pS])
          refine tk 2 hHeld ?_
          (try simp only [pA, pZ, pS])
          refine tk 3 hHeld ?_
          (try simp only [pA, pZ, pS])
          refine tk 4 hHeld ?_
          (try simp only [pA, pZ, pS])
          refine tk 5 hHeld ?_
          (try simp only [pA, pZ, pS])
          refine tk 6 hHeld ?_
          (try simp only [pA, pZ, pS])
          refine tk 7 hHeld ?_
          (try simp only [pA, pZ, pS])
          refine tk 8 hHeld ?_
          (try simp only [pA, pZ, pS])
          refine tk 9 hHeld ?_
          (try simp only [pA, pZ, pS])
          refine tk 10 hHeld ?_
          refine tn 11 hHeld ?_
          refine tn 12 hHeld ?_
          refine tn 13 hHeld ?_
          (try simp only [pA, pZ, pS])
          refine tn 14 hHeld ?_
          refine tn 15 hHeld ?_
          refine tn 16 hHeld ?_
          refine tn 17 hHeld ?_
          (try simp only [pA, pZ, pS])
          refine tn 18 hHeld ?_
          refine tn 19 hHeld ?_
          refine tn 20 hHeld ?_
          refine tn 21 hHeld ?_
          (try simp only [pA, pZ, pS])
          refine tk 22 hHeld ?_
          (try simp only [pA, pZ, pS])
          refine wpAnyH_done (by kernel_rfl) ?_ _
          refine NoPanic.normal ?_
          clear hHeld hz0 hz1
          go_wp2_with fail
          have hTr := run_at (p := wordB) (s := src) (k := j) (j := i) hji hil (fun m z h1 h2 h3 => HALL.out m z h1 h2 h3) hstop
          have hjw : wordB x = true := HALL.out j x (Nat.le_refl _) (by omega) hx
          obtain ⟨T, hT⟩ : ∃ T, T = (src.drop j).take (i - j) := ⟨_, rfl⟩
          have hTl : T.length ≤ 20000 := by rw [hT, List.length_take, List.length_drop]; omega
          have HN0 : Hid (l = ⟨mkind T, j, T, mnum T⟩ :: wordsAt src i) := show l = _ from by
            rw [HST.out, if_neg (wordB_yes hjw), hTr.1, hTr.2, ← hT]
          have HBYr := hidX (HBY.out.keep hfar (HTR.out.below (Nat.le_refl sb)))
          have hsbr : sb < wr.heap.size := by omega
          have CS := hidX (fun u (hu : Below wr.heap.size wr u) => (show u.cell? ⟨sb, so, none⟩ = some (.slice (some ⟨b, o, none⟩) src.length c) ∧ u.cell? ⟨sb, so + 1, none⟩ = some (.int .i64 (i : Int)) ∧ (convert 22 9 (.slice (some ⟨b, o + j, none⟩) (i - j) (c - j))).run Tryz.prog u = .ok (.string (mkS T)) u from ⟨cell_below hu d0, cell_below hu d1, by rw [hT]; exact conv_word src u b o (c - j) j i (HBYr.out.below hu) hji hil⟩))
          have HWO := hidX (fun u (hu : Below wr.heap.size wr u) => (show Calls Tryz.prog 161 #[.string (mkS T)] u fun e w' => e = .returned (.agg (pwL (pkind T) 0 (ptext T) (mnum T)).toArray) ∧ Below u.heap.size u w' from wordOf_any T u hTl ((HE.out.keep (MR.out.bel hsb)).keep (hu.mono (by omega))).err ((HE.out.keep (MR.out.bel hsb)).keep (hu.mono (by omega))).tests))
          have BD := hidX ((Below.refl wr.heap.size wr).drew.drew : Below wr.heap.size wr wr.drew.drew)
          have s0 : (0 : Int) ≤ (j : Int) := by omega
          have s1 : (j : Int) ≤ (i : Int) := by omega
          have s2 : (i : Int) ≤ (c : Int) := by omega
          have s3 : ¬ c = j := by omega
          clear hTr hjw hT hstop d0 d1 z1
          refine wp_region_noPanic ?_
          refine wp_region_held_drew (S := (fun u => u.cell? ⟨sb, so, none⟩ = some (.slice (some ⟨b, o, none⟩) src.length c) ∧ u.cell? ⟨sb, so + 1, none⟩ = some (.int .i64 (i : Int)) ∧ (convert 22 9 (.slice (some ⟨b, o + j, none⟩) (i - j) (c - j))).run Tryz.prog u = .ok (.string (mkS T)) u)) (by kernel_rfl) ?_ (fun hHeld => ?_)
          · (try dsimp only)
            exact CS.out _ BD.out
          refine tk 0 hHeld ?_
          (try simp only [pA, pZ, pS])
          refine tk 1 hHeld ?_
          (try simp only [pA, pZ, pS])
          refine tk 2 hHeld ?_
          (try simp only [pA, pZ, pS])
          refine tk 3 hHeld ?_
          (try simp only [pA, pZ, pS])
          refine tk 4 hHeld ?_
          (try simp only [pA, pZ, pS])
          refine tk 5 hHeld ?_
          (try simp only [pA, pZ, pS])
          refine tk 6 hHeld ?_
          (try simp only [pA, pZ, pS])
          refine tk 7 hHeld ?_
          (try simp only [pA, pZ, pS])
          refine tk 8 hHeld ?_
          (try simp only [pA, pZ, pS])
          refine tk 9 hHeld ?_
          (try simp only [pA, pZ, pS])
          refine tk 10 hHeld ?_
          (try simp only [pA, pZ, pS])
          refine wpAnyH_ready (rs := [11, 12]) (by kernel_rfl) (by simp) ?_
          refine AllReadyH.cons (o := ?o15) ?ho15 (fun K hK => ?step15) (AllReadyH.cons (o := ?o16) ?ho16 (fun K hK => ?step16) AllReadyH.nil)
          case ho15 => (simp only [List.getElem?_toArray, List.getElem?_cons_succ, List.getElem?_cons_zero]; rfl)
          case ho16 => (simp only [List.getElem?_toArray, List.getElem?_cons_succ, List.getElem?_cons_zero]; rfl)
          case step15 =>
            go_simp
            (go_at_call 161; refine (HWO.out _ BD.out).mono ?_; rintro e w5 ⟨rfl, hb5⟩; have B5 := hidX (BD.out.trans (hb5.mono BD.out.size)))
            refine hK.out _ _ ?hS17 (fun hHeld' => ?rest17)
            case hS17 => ((try dsimp only); exact CS.out _ B5.out)
            clear hK K
            (try simp only [pA, pZ, pS])
            clear hHeld
            have hHeld := hHeld'
            clear hHeld'
            refine wpAnyH_ready (rs := [12]) (by kernel_rfl) (by simp) ?_
            refine AllReadyH.cons (o := ?o18) ?ho18 (fun K hK => ?step18) AllReadyH.nil
            case ho18 => (simp only [List.getElem?_toArray, List.getElem?_cons_succ, List.getElem?_cons_zero]; rfl)
            go_simp
            refine hK.out _ _ ?hS19 (fun hHeld' => ?rest19)
            case hS19 => ((try dsimp only); exact CS.out _ (B5.out.alloc B5.out.size _))
            clear hK K
            (try simp only [pA, pZ, pS])
            clear hHeld
            have hHeld := hHeld'
            clear hHeld'
            refine lift_alloc ?_
            intro w6 hW6 hq6
            have B6 := hidX (B5.out.trans (hW6.mono B5.out.size))
            refine wpAnyH_ready (rs := [13]) (by kernel_rfl) (by simp) ?_
            refine AllReadyH.cons (o := ?o20) ?ho20 (fun K hK => ?step20) AllReadyH.nil
            case ho20 => (simp only [List.getElem?_toArray, List.getElem?_cons_succ, List.getElem?_cons_zero]; rfl)
            (refine step_store_blk (by rfl) 146 (.tmp 5) (.tmp 95) (by rfl) w5.heap.size (pwL (pkind T) 0 (ptext T) (mnum T)) (by rfl) (by rfl) _ 146 hq6 (by rfl) infoPW (pwL_one _ _ _ _) ?_; intro w7 hb7 ht7; have B7 := hidX (B6.out.trans (ht7.out.below B5.out.size)))
            refine hK.out _ _ ?hS21 (fun hHeld' => ?rest21)
            case hS21 => ((try dsimp only); exact CS.out _ B7.out)
            clear hK K
            (try dsimp only)
            clear hHeld
            have hHeld := hHeld'
            clear hHeld'
            refine wpAnyH_done (by kernel_rfl) ?_ _
            refine NoPanic.normal ?_
            have hg5 : wr.heap.size ≤ w5.heap.size := B5.out.size
            have hb7' := hb7.out
            have hbB7 := B7.out
            clear hHeld s0 s1 s2 s3 CS HWO BD
            have y7 := (cells4X hb7').2.1
            have f7 : w7.frozen? ⟨w5.heap.size, 1, none⟩ = false := by simp [World.frozen?, hb7']
            go_upto_region 15 with fail
            refine lift_setW hb7' ?_
            intro w8 hb8 ht8
            replace hb8 : w8.heap[w5.heap.size]? = some (.cells (pwL (pkind T) (j : Int) (ptext T) (mnum T)).toArray 146 (0, 0)) := hb8
            have hB8 := hbB7.trans (ht8.below hg5)
            have M8 := hidX (MR.out.trans (MkO.of_below hB8))
            have HS8 := hidX ((hB8.block sb hsbr).trans HBR.out)
            have hq8 := (hB8.block w.heap.size (by omega)).trans hqr
            have k8 := (cells4X hb8).1
            have hg8 : w5.heap.size < w8.heap.size := lt_of_block' hb8
            clear y7 f7 hb7' hbB7 ht8 hB8 hb7 ht7 B7
            by_cases hpk : pkind T = -1
            · have HN : Hid (nextW l = .error (2, j)) := show nextW l = _ from by
                rw [HN0.out]
                have h8 := (pkind_bad T).1 hpk
                unfold nextW badW
                simp [h8]
              have e6 : (pkind T == -1) = true := by simp [hpk]
              clear hpk
              go_wp2_with (first | (refine wpList_load_blk (by rfl) 146 (.tmp 5) (by rfl) w5.heap.size (pwL (pkind T) (j : Int) (ptext T) (mnum T)) (by rfl) 146 (0, 0) hb8 _ Tryz.underlying146 rfl infoPW ?_) | (go_at_call 70; refine (wfault_any (pkind T) (j : Int) (ptext T) (mnum T) 2 _).mono ?_; rintro e w9 ⟨rfl, hb9⟩) | fail)
              refine ⟨rfl, M8.out.trans (MkO.of_below hb9), ?_⟩
              rw [HN.out]
              rfl
            · have h8 : mkind T ≠ 8 := fun h => hpk ((pkind_bad T).2 h)
              obtain ⟨n0, n1, n2, n7⟩ := mkind_ne T
              have HN : Hid (nextW l = .ok (⟨mkind T, j, T, mnum T⟩, wordsAt src i)) := show nextW l = _ from by
                rw [HN0.out]
                exact nextW_cons (by unfold badW; simp [h8, n7]) n0
              have HV : Hid (Ending.returned (.agg (pwL (pkind T) (j : Int) (ptext T) (mnum T)).toArray) = .returned (pwV (pkW ⟨mkind T, j, T, mnum T⟩) (j : Int) (ptW ⟨mkind T, j, T, mnum T⟩) (mnum T))) := show _ = _ from by
                have e1 : pkW ⟨mkind T, j, T, mnum T⟩ = pkind T := by unfold pkW; simp [n0, n1, n2]
                have e2 : ptW ⟨mkind T, j, T, mnum T⟩ = ptext T := by unfold ptW; simp [n0, n1, n2]
                rw [e1, e2]
                rfl
              have e6 : (pkind T == -1) = false := by simpa using hpk
              clear hpk h8 n0 n1 n2 n7
              go_wp2_with (first | (refine wpList_load_blk (by rfl) 146 (.tmp 5) (by rfl) w5.heap.size (pwL (pkind T) (j : Int) (ptext T) (mnum T)) (by rfl) 146 (0, 0) hb8 _ Tryz.underlying146 rfl infoPW ?_) | (refine wpList_store_blk (by rfl) 146 (.tmp 2) (.tmp 104) (by rfl) w.heap.size (pwL (pkind T) (j : Int) (ptext T) (mnum T)) (by rfl) (by rfl) _ 146 hq8 hZs infoPW (pwL_one _ _ _ _) ?_; intro w3 hb3 ht3) | fail)
              have hld := run_loadVar_mid (P := Tryz.prog) w3 w.heap.size 0 146 (pwL (pkind T) (j : Int) (ptext T) (mnum T)) _ (range_blk hb3.out) Tryz.underlying146 rfl infoPW
              have M3 := M8.out.turn ht3.out (Nat.le_refl _)
              go_frame
              refine bodyPost_ret (v := .agg (pwL (pkind T) (j : Int) (ptext T) (mnum T)).toArray) (by simp [results, Tryz.results105, asAddr, hld]) rfl ⟨M3, ?_⟩
              rw [HN.out]
              exact ⟨HV.out, i, HL.out.moved M3 ((ht3.out.block sb (by omega)).trans HS8.out) hil rfl⟩
          case step16 =>
            go_simp
            refine hK.out _ _ ?hS22 (fun hHeld' => ?rest22)
            case hS22 => ((try dsimp only); exact CS.out _ (BD.out.alloc BD.out.size _))
            clear hK K
            (try simp only [pA, pZ, pS])
            clear hHeld
            have hHeld := hHeld'
            clear hHeld'
            refine lift_allocD ?_
            intro w6 hW6 hq6
            have B6 := hidX hW6
            have hl6 : wr.heap.size < w6.heap.size := lt_of_block' hq6
            refine wpAnyH_ready (rs := [11]) (by kernel_rfl) (by simp) ?_
            refine AllReadyH.cons (o := ?o23) ?ho23 (fun K hK => ?step23) AllReadyH.nil
            case ho23 => (simp only [List.getElem?_toArray, List.getElem?_cons_succ, List.getElem?_cons_zero]; rfl)
            go_simp
            (go_at_call 161; refine (HWO.out _ B6.out).mono ?_; rintro e w5 ⟨rfl, hb5⟩; have B5 := hidX (B6.out.trans (hb5.mono B6.out.size)); have hq5 := (hb5.block wr.heap.size hl6).trans hq6)
            refine hK.out _ _ ?hS24 (fun hHeld' => ?rest24)
            case hS24 => ((try dsimp only); exact CS.out _ B5.out)
            clear hK K
            (try simp only [pA, pZ, pS])
            clear hHeld
            have hHeld := hHeld'
            clear hHeld'
            refine wpAnyH_ready (rs := [13]) (by kernel_rfl) (by simp) ?_
            refine AllReadyH.cons (o := ?o25) ?ho25 (fun K hK => ?step25) AllReadyH.nil
            case ho25 => (simp only [List.getElem?_toArray, List.getElem?_cons_succ, List.getElem?_cons_zero]; rfl)
            (refine step_store_blk (by rfl) 146 (.tmp 5) (.tmp 95) (by rfl) wr.heap.size (pwL (pkind T) 0 (ptext T) (mnum T)) (by rfl) (by rfl) _ 146 hq5 (by rfl) infoPW (pwL_one _ _ _ _) ?_; intro w7 hb7 ht7; have B7 := hidX (B5.out.trans (ht7.out.below (Nat.le_refl _))))
            refine hK.out _ _ ?hS26 (fun hHeld' => ?rest26)
            case hS26 => ((try dsimp only); exact CS.out _ B7.out)
            clear hK K
            (try dsimp only)
            clear hHeld
            have hHeld := hHeld'
            clear hHeld'
            refine wpAnyH_done (by kernel_rfl) ?_ _
            refine NoPanic.normal ?_
            have hg5 : wr.heap.size ≤ wr.heap.size := (Nat.le_refl wr.heap.size)
            have hb7' := hb7.out
            have hbB7 := B7.out
            clear hHeld s0 s1 s2 s3 CS HWO BD
            have y7 := (cells4X hb7').2.1
            have f7 : w7.frozen? ⟨wr.heap.size, 1, none⟩ = false := by simp [World.frozen?, hb7']
            go_upto_region 15 with fail
            refine lift_setW hb7' ?_
            intro w8 hb8 ht8
            replace hb8 : w8.heap[wr.heap.size]? = some (.cells (pwL (pkind T) (j : Int) (ptext T) (mnum T)).toArray 146 (0, 0)) := hb8
            have hB8 := hbB7.trans (ht8.below hg5)
            have M8 := hidX (MR.out.trans (MkO.of_below hB8))
            have HS8 := hidX ((hB8.block sb hsbr).trans HBR.out)
            have hq8 := (hB8.block w.heap.size (by omega)).trans hqr
            have k8 := (cells4X hb8).1
            have hg8 : wr.heap.size < w8.heap.size := lt_of_block' hb8
            clear y7 f7 hb7' hbB7 ht8 hB8 hb7 ht7 B7
            by_cases hpk : pkind T = -1
            · have HN : Hid (nextW l = .error (2, j)) := show nextW l = _ from by
                rw [HN0.out]
                have h8 := (pkind_bad T).1 hpk
                unfold nextW badW
                simp [h8]
              have e6 : (pkind T == -1) = true := by simp [hpk]
              clear hpk
              go_wp2_with (first | (refine wpList_load_blk (by rfl) 146 (.tmp 5) (by rfl) wr.heap.size (pwL (pkind T) (j : Int) (ptext T) (mnum T)) (by rfl) 146 (0, 0) hb8 _ Tryz.underlying146 rfl infoPW ?_) | (go_at_call 70; refine (wfault_any (pkind T) (j : Int) (ptext T) (mnum T) 2 _).mono ?_; rintro e w9 ⟨rfl, hb9⟩) | fail)
              refine ⟨rfl, M8.out.trans (MkO.of_below hb9), ?_⟩
              rw [HN.out]
              rfl
            · have h8 : mkind T ≠ 8 := fun h => hpk ((pkind_bad T).2 h)
              obtain ⟨n0, n1, n2, n7⟩ := mkind_ne T
              have HN : Hid (nextW l = .ok (⟨mkind T, j, T, mnum T⟩, wordsAt src i)) := show nextW l = _ from by
                rw [HN0.out]
                exact nextW_cons (by unfold badW; simp [h8, n7]) n0
              have HV : Hid (Ending.returned (.agg (pwL (pkind T) (j : Int) (ptext T) (mnum T)).toArray) = .returned (pwV (pkW ⟨mkind T, j, T, mnum T⟩) (j : Int) (ptW ⟨mkind T, j, T, mnum T⟩) (mnum T))) := show _ = _ from by
                have e1 : pkW ⟨mkind T, j, T, mnum T⟩ = pkind T := by unfold pkW; simp [n0, n1, n2]
                have e2 : ptW ⟨mkind T, j, T, mnum T⟩ = ptext T := by unfold ptW; simp [n0, n1, n2]
                rw [e1, e2]
                rfl
              have e6 : (pkind T == -1) = false := by simpa using hpk
              clear hpk h8 n0 n1 n2 n7
              go_wp2_with (first | (refine wpList_load_blk (by rfl) 146 (.tmp 5) (by rfl) wr.heap.size (pwL (pkind T) (j : Int) (ptext T) (mnum T)) (by rfl) 146 (0, 0) hb8 _ Tryz.underlying146 rfl infoPW ?_) | (refine wpList_store_blk (by rfl) 146 (.tmp 2) (.tmp 104) (by rfl) w.heap.size (pwL (pkind T) (j : Int) (ptext T) (mnum T)) (by rfl) (by rfl) _ 146 hq8 hZs infoPW (pwL_one _ _ _ _) ?_; intro w3 hb3 ht3) | fail)
              have hld := run_loadVar_mid (P := Tryz.prog) w3 w.heap.size 0 146 (pwL (pkind T) (j : Int) (ptext T) (mnum T)) _ (range_blk hb3.out) Tryz.underlying146 rfl infoPW
              have M3 := M8.out.turn ht3.out (Nat.le_refl _)
              go_frame
              refine bodyPost_ret (v := .agg (pwL (pkind T) (j : Int) (ptext T) (mnum T)).toArray) (by simp [results, Tryz.results105, asAddr, hld]) rfl ⟨M3, ?_⟩
              rw [HN.out]
              exact ⟨HV.out, i, HL.out.moved M3 ((ht3.out.block sb (by omega)).trans HS8.out) hil rfl⟩
end Go.Proofs.YtgkoiojelckblaaGreatDoor

namespace Go.Proofs.YtgkoiojelckblaaGreatDoor
open Go.RowKit
attribute [local go_sem ↓] Go.wp_at_zero Go.wp_at_succ

/-- The parser in its box, ahead of the words l; R: its other cells. -/
structure PSt (w : World) (pb : Nat) (src : Bs) (a : Option Addr) (c : Nat) (l : List Wd) (R : List Value) : Prop where
  sc : ∃ k : Nat, ScAt w pb 0 70 (.slice a src.length c :: .int .i64 (k : Int) :: R).toArray src a c l
  env : EnvAt w pb
theorem ScAt.below {w w' : World} {sb so : Nat} {t : TypeId} {cs : Array Value} {src : Bs} {a : Option Addr} {c : Nat} {l : List Wd} (h : ScAt w sb so t cs src a c l) (hb : Below w.heap.size w w') : ScAt w' sb so t cs src a c l :=
  ⟨(hb.block sb (lt_of_block' h.blk)).trans h.blk, h.src0, h.cap, h.len, h.bys.below hb, h.far, h.pos⟩
theorem PSt.lt {w : World} {pb : Nat} {src : Bs} {a : Option Addr} {c : Nat} {l : List Wd} {R : List Value} (h : PSt w pb src a c l R) : pb < w.heap.size := by
  obtain ⟨k, hs⟩ := h.sc
  exact lt_of_block' hs.blk
theorem PSt.below {w w' : World} {pb : Nat} {src : Bs} {a : Option Addr} {c : Nat} {l : List Wd} {R : List Value} (h : PSt w pb src a c l R) (hb : Below w.heap.size w w') : PSt w' pb src a c l R := by
  obtain ⟨k, hs⟩ := h.sc
  exact ⟨⟨k, hs.below hb⟩, h.env.keep (hb.mono (Nat.le_of_lt h.lt))⟩
/-- What a look leaves. -/
def PkPost (w : World) (r : Px Wd) (e : Ending) (w' : World) : Prop := Below w.heap.size w w' ∧ match r with
  | .error f => e = fltE f
  | .ok (x, _) => e = .returned (pwV (pkW x) x.pos (ptW x) x.num)
/-- What reading leaves. -/
def PPost {α : Type} (w : World) (pb : Nat) (src : Bs) (a : Option Addr) (c : Nat) (R : List Value) (Q : α → Ending → World → Prop) (r : Px α) (e : Ending) (w' : World) : Prop := MkO (some pb) w w' ∧ match r with
  | .error f => e = fltE f
  | .ok (x, l) => Q x e w' ∧ PSt w' pb src a c l R
set_option maxHeartbeats 1600000 in
theorem peek_any (w : World) (pb k : Nat) (src : Bs) (a : Option Addr) (c : Nat) (l : List Wd) (R : List Value) (hs : ScAt w pb 0 70 (.slice a src.length c :: .int .i64 (k : Int) :: R).toArray src a c l) (hE : EnvAt w pb) : Calls Tryz.prog 69 #[.agg #[.slice a src.length c, .int .i64 (k : Int)]] w (PkPost w (nextW l)) := by
  have hpb : pb < w.heap.size := lt_of_block' hs.blk
  have HS := hidX hs
  have HE := hidX hE
  clear hs hE
  go_enter Tryz.func69, Tryz.ntmps69
  go_upto_region 1 with fail
  refine lift_alloc ?_
  intro w2 hW2 hq2
  have hB0 : Below w.heap.size w (w.alloc (.cells #[.slice a src.length c, .int .i64 (k : Int)] 65)) := (Below.refl _ _).alloc (Nat.le_refl _) _
  have hB2 : Below w.heap.size w w2 := hB0.trans (hW2.mono (by simp))
  have hsz : (w.alloc (.cells #[.slice a src.length c, .int .i64 (k : Int)] 65)).heap.size = w.heap.size + 1 := by simp
  have hbx : w2.heap[w.heap.size]? = some (.cells #[.slice a src.length c, .int .i64 (k : Int)] 65 (0, 0)) := (hW2.block w.heap.size (by rw [hsz]; omega)).trans (heap_alloc_new _ _)
  rw [hsz] at hq2
  obtain ⟨k', hk', e', hw'⟩ := HS.out.pos
  have hs2 : ScAt w2 w.heap.size 0 65 #[.slice a src.length c, .int .i64 (k : Int)] src a c l := by
    refine ⟨hbx, rfl, HS.out.cap, HS.out.len, HS.out.bys.below hB2, fun b o e => Nat.lt_trans (HS.out.far b o e) hpb, k, ?_, rfl, ?_⟩
    · simp at e'
      omega
    · simp at e'
      have : k' = k := by omega
      rw [← this]
      exact hw'
  have hE2 : EnvAt w2 w.heap.size := ⟨HE.out.err.keep HE.out.g2 (hB2.mono (Nat.le_of_lt hpb)), HE.out.tests.keep HE.out.g1 (hB2.mono (Nat.le_of_lt hpb)), Nat.lt_trans HE.out.g1 hpb, Nat.lt_trans HE.out.g2 hpb⟩
  have HNX := hidX (scNext_any w2 w.heap.size 0 65 #[.slice a src.length c, .int .i64 (k : Int)] src a c l hs2 hE2)
  have HB2 := hidX hB2
  have hl2 : w.heap.size + 1 < w2.heap.size := lt_of_block' hq2
  obtain ⟨Z, hZ⟩ : ∃ Z : Array Value, Z = #[.int .i32 0, .int .i64 0, .string ⟨#[]⟩, .int .i64 0] := ⟨_, rfl⟩
  rw [← hZ] at hq2
  have hZs : Z.size = 4 := by rw [hZ]; rfl
  clear hW2 hB0 hB2 hbx hs2 hE2 hsz e' hw' hZ hk'
  cases hr : nextW l with
  | error f =>
    rw [hr] at HNX
    go_wp2_with (first | (go_at_call 105; refine HNX.out.mono ?_; rintro e w3 ⟨hm3, rfl⟩; unfold fltE) | fail)
    exact ⟨rfl, HB2.out.trans (hm3.below (Nat.le_of_lt (by omega)) (fun g e => by cases e; exact Nat.le_refl _)), (by first | rfl | (rw [hr]; rfl))⟩
  | ok p =>
    obtain ⟨x, r⟩ := p
    rw [hr] at HNX
    go_wp2_with (first | (go_at_call 105; refine HNX.out.mono ?_; rintro e w3 ⟨hm3, rfl, _⟩; have hq3 := (hm3.block (w.heap.size + 1) hl2 (by simp)).trans hq2) | (refine wpList_store_blk (by rfl) 146 (.tmp 2) (.tmp 3) (by rfl) (w.heap.size + 1) (pwL (pkW x) x.pos (ptW x) x.num) (by rfl) (by rfl) _ 146 hq3 hZs infoPW (pwL_one _ _ _ _) ?_; intro w4 hb4 ht4) | fail)
    have hld := run_loadVar_mid (P := Tryz.prog) w4 (w.heap.size + 1) 0 146 (pwL (pkW x) x.pos (ptW x) x.num) _ (range_blk hb4.out) Tryz.underlying146 rfl infoPW
    have hB3 := HB2.out.trans (hm3.below (Nat.le_of_lt (by omega)) (fun g e => by cases e; exact Nat.le_refl _))
    go_frame
    exact bodyPost_ret (v := .agg (pwL (pkW x) x.pos (ptW x) x.num).toArray) (by simp [results, Tryz.results69, asAddr, hld]) rfl ⟨hB3.trans (ht4.out.below (by omega)), (by first | rfl | (rw [hr]; rfl))⟩
/-- The scanner's two cells, as one. -/
theorem ScAt.range {w : World} {pb k : Nat} {src : Bs} {a : Option Addr} {c : Nat} {l : List Wd} {R : List Value} (h : ScAt w pb 0 70 (.slice a src.length c :: .int .i64 (k : Int) :: R).toArray src a c l) : w.rangeAt pb 0 [.slice a src.length c, .int .i64 (k : Int)] := by
  intro j v hj
  rcases j with _ | _ | j
  · simp at hj
    subst hj
    simp [World.cell?, h.blk]
  · simp at hj
    subst hj
    simp [World.cell?, h.blk]
  · simp at hj
theorem wfield0 (x0 x1 x2 x3 : Value) (w : World) : (Instr.field 146 (.agg #[x0, x1, x2, x3]) 0).run Tryz.prog w = .ok x0 w := by kernel_rfl
theorem wfield2 (x0 x1 x2 x3 : Value) (w : World) : (Instr.field 146 (.agg #[x0, x1, x2, x3]) 2).run Tryz.prog w = .ok x2 w := by kernel_rfl
theorem wfield3 (x0 x1 x2 x3 : Value) (w : World) : (Instr.field 146 (.agg #[x0, x1, x2, x3]) 3).run Tryz.prog w = .ok x3 w := by kernel_rfl
theorem infoSc : (Tryz.prog.info? 65).map (·.size) = some 2 := by kernel_rfl
set_option maxRecDepth 100000 in
set_option maxHeartbeats 1600000 in
theorem ahead_any (w : World) (pb : Nat) (src : Bs) (a : Option Addr) (c : Nat) (l : List Wd) (R : List Value) (kd : Int) (h : PSt w pb src a c l R) : Calls Tryz.prog 38 #[.pointer (some ⟨pb, 0, none⟩), .int .i32 kd] w fun e w' => Below w.heap.size w w' ∧ match nextW l with
    | .error f => e = fltE f
    | .ok (x, _) => e = .returned (.bool (decide (pkW x = kd))) := by
  have HE := hidX h.env
  obtain ⟨k, hs⟩ := h.sc
  have HPK := hidX (peek_any w pb k src a c l R hs HE.out)
  have HRG := hidX hs.range
  clear h hs
  cases hr : nextW l with
  | error f =>
    rw [hr] at HPK
    go_enter Tryz.func38, Tryz.ntmps38
    go_wp2_with (first | (refine wpList_load_mid (by rfl) 65 (.tmp 7) (by rfl) pb 0 (by rfl) [.slice a src.length c, .int .i64 (k : Int)] _ HRG.out Tryz.underlying65 rfl infoSc ?_) | (go_at_call 69; refine HPK.out.mono ?_; rintro e w3 ⟨hb3, rfl⟩; unfold fltE) | fail)
    exact ⟨rfl, hb3, rfl⟩
  | ok p =>
    obtain ⟨x, r⟩ := p
    rw [hr] at HPK
    obtain ⟨X, hX⟩ : ∃ X, X = pkW x := ⟨_, rfl⟩
    show Calls Tryz.prog 38 #[.pointer (some ⟨pb, 0, none⟩), .int .i32 kd] w fun e w' => Below w.heap.size w w' ∧ e = .returned (.bool (decide (pkW x = kd)))
    rw [← hX]
    replace HPK : Hid (Calls Tryz.prog 69 #[.agg #[.slice a src.length c, .int .i64 (k : Int)]] w fun e w' => Below w.heap.size w w' ∧ e = .returned (.agg #[.int .i32 X, .int .i64 (x.pos : Int), .string (mkS (ptW x)), .int .i64 x.num])) := by
      rw [hX]
      exact HPK
    clear hX
    have hfd := wfield0
    go_enter Tryz.func38, Tryz.ntmps38
    go_wp2_with (first | (refine wpList_load_mid (by rfl) 65 (.tmp 7) (by rfl) pb 0 (by rfl) [.slice a src.length c, .int .i64 (k : Int)] _ HRG.out Tryz.underlying65 rfl infoSc ?_) | (go_at_call 69; refine HPK.out.mono ?_; rintro e w3 ⟨hb3, rfl⟩) | fail)
    go_ret
    exact ⟨hb3, ret_bool (by rw [Bool.eq_iff_iff, beq_iff_eq, decide_eq_true_iff])⟩
end Go.Proofs.YtgkoiojelckblaaGreatDoor

namespace Go.Proofs.YtgkoiojelckblaaGreatDoor
open Go.RowKit
attribute [local go_sem ↓] Go.wp_at_zero Go.wp_at_succ

/-- A word as the walk meets it. -/
def pwA (x : Wd) : Value := .agg #[.int .i32 (pkW x), .int .i64 (x.pos : Int), .string (mkS (ptW x)), .int .i64 x.num]
def Rw (x : Wd) (e : Ending) (_ : World) : Prop := e = .returned (pwV (pkW x) x.pos (ptW x) x.num)
theorem PPost.err {α : Type} {w w' : World} {pb : Nat} {src : Bs} {a : Option Addr} {c : Nat} {R : List Value} {Q : α → Ending → World → Prop} {r : Px α} {f : Flt} (hr : r = .error f) (hm : MkO (some pb) w w') : PPost w pb src a c R Q r (fltE f) w' := by
  subst hr
  exact ⟨hm, rfl⟩
theorem PPost.good {α : Type} {w w' : World} {pb : Nat} {src : Bs} {a : Option Addr} {c : Nat} {R : List Value} {Q : α → Ending → World → Prop} {r : Px α} {x : α} {l : List Wd} {e : Ending} (hr : r = .ok (x, l)) (hm : MkO (some pb) w w') (hq : Q x e w') (hp : PSt w' pb src a c l R) : PPost w pb src a c R Q r e w' := by
  subst hr
  exact ⟨hm, hq, hp⟩
theorem PSt.turned {w w' : World} {pb g : Nat} {src : Bs} {a : Option Addr} {c : Nat} {l : List Wd} {R : List Value} (h : PSt w pb src a c l R) (ht : Turned w w' g) (hg : pb < g) : PSt w' pb src a c l R := by
  obtain ⟨k, hs⟩ := h.sc
  have hb : Below g w w' := ht.below (Nat.le_refl _)
  exact ⟨⟨k, (hb.block pb hg).trans hs.blk, hs.src0, hs.cap, hs.len, hs.bys.keep (fun b o e => Nat.lt_trans (hs.far b o e) hg) hb, hs.far, hs.pos⟩, h.env.keep (hb.mono (Nat.le_of_lt hg))⟩
/-- A word in its box: its cells behind a name, its kind behind another. -/
theorem wd_box {w : World} {b : Nat} {x : Wd} (h : w.heap[b]? = some (.cells #[.int .i32 (pkW x), .int .i64 (x.pos : Int), .string (mkS (ptW x)), .int .i64 x.num] 146 (0, 0))) : ∃ (L : List Value) (X : Int), Hid (X = pkW x ∧ L = pwL (pkW x) x.pos (ptW x) x.num) ∧ (((Tryz.prog.info? 146).map (·.size) = some L.length) ∧ (L.length = 4 ∧ ∀ v ∈ L, v.oneCell' = true)) ∧ w.heap[b]? = some (.cells L.toArray 146 (0, 0)) ∧ w.cell? ⟨b, 0, none⟩ = some (.int .i32 X) :=
  ⟨_, _, ⟨rfl, rfl⟩, ⟨infoPW, rfl, pwL_one _ _ _ _⟩, h, by simp [World.cell?, h]⟩
theorem pnext_any (w : World) (pb : Nat) (src : Bs) (a : Option Addr) (c : Nat) (l : List Wd) (R : List Value) (h : PSt w pb src a c l R) : Calls Tryz.prog 105 #[.pointer (some ⟨pb, 0, none⟩)] w (PPost w pb src a c R Rw (nextW l)) := by
  obtain ⟨k, hs⟩ := h.sc
  refine (scNext_any w pb 0 _ _ src a c l hs h.env).mono ?_
  rintro e w' ⟨hm, hp⟩
  cases hr : nextW l with
  | error f =>
    rw [hr] at hp
    exact ⟨hm, hp⟩
  | ok p =>
    obtain ⟨x, r⟩ := p
    rw [hr] at hp
    obtain ⟨he, j, hj⟩ := hp
    exact ⟨hm, he, ⟨j, by simpa using hj⟩, h.env.keep (hm.bel h.lt)⟩
set_option maxRecDepth 100000 in
set_option maxHeartbeats 1600000 in
theorem take_any (w : World) (pb : Nat) (src : Bs) (a : Option Addr) (c : Nat) (l : List Wd) (R : List Value) (kd : Int) (h : PSt w pb src a c l R) : Calls Tryz.prog 62 #[.pointer (some ⟨pb, 0, none⟩), .int .i32 kd] w (PPost w pb src a c R Rw (takeW kd l)) := by
  have HP := hidX h
  have hpb := h.lt
  clear h
  go_enter Tryz.func62, Tryz.ntmps62
  go_upto_region 1 with fail
  refine lift_alloc ?_
  intro w1 hW1 hq1
  have HPN := hidX (pnext_any w1 pb src a c l R (HP.out.below hW1))
  have M1 := hidX (MkO.of_below hW1 : MkO (some pb) w w1)
  have hrb : w.heap.size < w1.heap.size := lt_of_block' hq1
  obtain ⟨Z, hZ⟩ : ∃ Z : Array Value, Z = #[.int .i32 0, .int .i64 0, .string ⟨#[]⟩, .int .i64 0] := ⟨_, rfl⟩
  rw [← hZ] at hq1
  have hZs : Z.size = 4 := by rw [hZ]; rfl
  clear hW1 hZ
  cases hr : nextW l with
  | error f =>
    have HT : Hid (takeW kd l = .error f) := show _ = _ from by unfold takeW; rw [hr]
    rw [hr] at HPN
    go_wp2_with (first | (go_at_call 105; refine HPN.out.mono ?_; rintro e w2 ⟨hm2, rfl⟩; unfold fltE) | fail)
    exact ⟨rfl, PPost.err HT.out (M1.out.trans hm2)⟩
  | ok p =>
    obtain ⟨x, r⟩ := p
    rw [hr] at HPN
    go_upto_region 2 with (first | (go_at_call 105; refine HPN.out.mono ?_; rintro e w2 ⟨hm2, hw2, hp2⟩; replace hw2 : e = .returned (pwA x) := hw2; subst hw2; unfold pwA) | fail)
    refine lift_alloc ?_
    intro w3 hW3 hq3
    obtain ⟨L, X, HLX, hLl, hq3, y0⟩ := wd_box hq3
    have M3 := hidX ((M1.out.trans hm2).trans (MkO.of_below hW3))
    have P3 := hidX (hp2.below hW3)
    have hs2 := hm2.rest.size
    have hqr := (hW3.block w.heap.size (by omega)).trans ((hm2.block w.heap.size hrb (fun e => by injection e; omega)).trans hq1)
    have hl3 : w2.heap.size < w3.heap.size := lt_of_block' hq3
    clear hW3 hm2 hp2 hq1 HPN HP M1
    by_cases hk : X = kd
    · have HT : Hid (takeW kd l = .ok (x, r)) := show _ = _ from by unfold takeW; rw [hr]; simp [← HLX.out.1, hk]
      have e1 : (X != kd) = false := by simp [hk]
      clear hk
      go_wp2_with (first | (refine wpList_load_blk (by rfl) 146 (.tmp 5) (by rfl) w2.heap.size L (by rfl) 146 (0, 0) hq3 _ Tryz.underlying146 rfl hLl.1 ?_) | (refine wpList_store_blk (by rfl) 146 (.tmp 4) (.tmp 17) (by rfl) w.heap.size L (by rfl) (by rfl) _ 146 hqr (hZs.trans hLl.2.1.symm) hLl.1 hLl.2.2 ?_; intro w4 hb4 ht4) | fail)
      have hld := run_loadVar_mid (P := Tryz.prog) w4 w.heap.size 0 146 L _ (range_blk hb4.out) Tryz.underlying146 rfl hLl.1
      go_frame
      refine bodyPost_ret (v := .agg L.toArray) (by simp [results, Tryz.results62, asAddr, hld]) rfl (PPost.good HT.out (M3.out.turn ht4.out (Nat.le_refl _)) ?_ (P3.out.turned ht4.out (by omega)))
      rw [HLX.out.2]
      rfl
    · have HT : Hid (takeW kd l = .error (3, x.pos)) := show _ = _ from by unfold takeW; rw [hr]; simp [← HLX.out.1, hk]
      have e1 : (X != kd) = true := by simp [hk]
      have HF := hidX (fun u => (show Calls Tryz.prog 70 #[.agg L.toArray, .int .i64 3] u fun e w' => e = .returned (.agg #[.int .i64 3, .int .i64 (x.pos : Int)]) ∧ Below u.heap.size u w' from by rw [HLX.out.2]; exact wfault_any _ _ _ _ _ _))
      clear hk
      go_wp2_with (first | (refine wpList_load_blk (by rfl) 146 (.tmp 5) (by rfl) w2.heap.size L (by rfl) 146 (0, 0) hq3 _ Tryz.underlying146 rfl hLl.1 ?_) | (go_at_call 70; refine (HF.out _).mono ?_; rintro e w4 ⟨rfl, hb4⟩) | fail)
      exact ⟨rfl, PPost.err HT.out (M3.out.trans (MkO.of_below hb4))⟩
end Go.Proofs.YtgkoiojelckblaaGreatDoor

namespace Go.Proofs.YtgkoiojelckblaaGreatDoor

/-- Words with an end behind them, and none but there. -/
def WsOk (l : List Wd) : Prop := ∃ (pre : List Wd) (e : Wd), l = pre ++ [e] ∧ e.kind = 0 ∧ ∀ x ∈ pre, x.kind ≠ 0
theorem WsOk.cons {l : List Wd} {x : Wd} (h : WsOk l) (hx : x.kind ≠ 0) : WsOk (x :: l) := by
  obtain ⟨pre, e, h1, h2, h3⟩ := h
  refine ⟨x :: pre, e, by rw [h1]; rfl, h2, fun y hy => ?_⟩
  rcases List.mem_cons.1 hy with rfl | hy
  · exact hx
  · exact h3 y hy
theorem WsOk.tail {l : List Wd} {x : Wd} (h : WsOk (x :: l)) (hx : x.kind ≠ 0) : WsOk l := by
  obtain ⟨pre, e, h1, h2, h3⟩ := h
  cases pre with
  | nil =>
    simp at h1
    exact absurd (by rw [h1.1]; exact h2) hx
  | cons y pre =>
    simp at h1
    exact ⟨pre, e, h1.2, h2, fun z hz => h3 z (List.mem_cons_of_mem _ hz)⟩
theorem WsOk.ne {l : List Wd} (h : WsOk l) : l ≠ [] := by
  obtain ⟨pre, e, h1, _⟩ := h
  rw [h1]
  simp
theorem wordsGo_ok : ∀ (n : Nat) (l : Bs) (k : Nat), l.length < n → (∀ x ∈ wordsGo n l k, WdOk x ∧ x.text.length ≤ l.length) ∧ WsOk (wordsGo n l k) := by
  intro n
  induction n with
  | zero => intro l k h; omega
  | succ n ih =>
    intro l k hn
    cases l with
    | nil =>
      refine ⟨fun x hx => ?_, [], ⟨0, k, [], 0⟩, rfl, rfl, fun x hx => by simp at hx⟩
      simp [wordsGo] at hx
      subst hx
      exact ⟨.inl ⟨rfl, rfl, .inl rfl⟩, by simp⟩
    | cons b r =>
      have hr : r.length < n := by simp at hn; omega
      have lone : ∀ (kd : Int), (kd = 1 ∨ kd = 2 ∨ kd = 7) → (∀ x ∈ (⟨kd, k, [], 0⟩ :: wordsGo n r (k + 1) : List Wd), WdOk x ∧ x.text.length ≤ (b :: r).length) ∧ WsOk (⟨kd, k, [], 0⟩ :: wordsGo n r (k + 1)) := by
        intro kd hk
        obtain ⟨h1, h2⟩ := ih r (k + 1) hr
        refine ⟨fun x hx => ?_, h2.cons ?_⟩
        · rcases List.mem_cons.1 hx with rfl | hx
          · exact ⟨.inl ⟨rfl, rfl, .inr hk⟩, by simp⟩
          · obtain ⟨h3, h4⟩ := h1 x hx
            exact ⟨h3, by simp; omega⟩
        · show kd ≠ 0
          omega
      unfold wordsGo
      by_cases h1 : blankB b = true
      · rw [if_pos h1]
        obtain ⟨h2, h3⟩ := ih r (k + 1) hr
        exact ⟨fun x hx => ⟨(h2 x hx).1, by have := (h2 x hx).2; simp; omega⟩, h3⟩
      rw [if_neg h1]
      by_cases h2 : b = 59
      · rw [if_pos h2]
        have hp : 1 ≤ runOf lineP (b :: r) := run_pos (by rw [h2]; exact line59)
        have hd : ((b :: r).drop (runOf lineP (b :: r))).length < n := by rw [List.length_drop]; simp only [List.length_cons] at *; omega
        obtain ⟨h3, h4⟩ := ih _ (k + runOf lineP (b :: r)) hd
        exact ⟨fun x hx => ⟨(h3 x hx).1, by have := (h3 x hx).2; rw [List.length_drop] at this; omega⟩, h4⟩
      rw [if_neg h2]
      by_cases h3 : b = 40
      · rw [if_pos h3]
        exact lone 1 (.inl rfl)
      rw [if_neg h3]
      by_cases h4 : b = 41
      · rw [if_pos h4]
        exact lone 2 (.inr (.inl rfl))
      rw [if_neg h4]
      by_cases h5 : b.toNat < 33 ∨ 126 < b.toNat
      · rw [if_pos h5]
        exact lone 7 (.inr (.inr rfl))
      rw [if_neg h5]
      have hp : 1 ≤ runOf wordB (b :: r) := run_pos (wordB_of h2 h3 h4 h5)
      have hd : ((b :: r).drop (runOf wordB (b :: r))).length < n := by rw [List.length_drop]; simp only [List.length_cons] at *; omega
      obtain ⟨h6, h7⟩ := ih _ (k + runOf wordB (b :: r)) hd
      refine ⟨fun x hx => ?_, h7.cons (mkind_ne _).1⟩
      rcases List.mem_cons.1 hx with rfl | hx
      · exact ⟨.inr ⟨rfl, rfl⟩, run_le wordB (b :: r)⟩
      · exact ⟨(h6 x hx).1, by have := (h6 x hx).2; rw [List.length_drop] at this; omega⟩
theorem wordsAt_ok (s : Bs) (k : Nat) (hk : k ≤ s.length) : (∀ x ∈ wordsAt s k, WdOk x ∧ x.text.length ≤ s.length) ∧ WsOk (wordsAt s k) := by
  obtain ⟨h1, h2⟩ := wordsGo_ok (s.length + 1 - k) (s.drop k) k (by rw [List.length_drop]; omega)
  exact ⟨fun x hx => ⟨(h1 x hx).1, by have := (h1 x hx).2; rw [List.length_drop] at this; omega⟩, h2⟩
theorem nextW_mem {l r : List Wd} {x : Wd} (h : nextW l = .ok (x, r)) : x ∈ l := by
  cases l with
  | nil => cases h
  | cons y t =>
    unfold nextW at h
    cases hb : badW y with
    | some f => simp [hb] at h
    | none =>
      simp [hb] at h
      rw [h.1]
      exact List.mem_cons_self
theorem ptext_le (t : Bs) : (ptext t).length ≤ t.length := by
  unfold ptext
  repeat' split
  all_goals simp
theorem ptW_le (x : Wd) : (ptW x).length ≤ x.text.length := by
  unfold ptW
  repeat' split
  all_goals first | exact ptext_le _ | simp
end Go.Proofs.YtgkoiojelckblaaGreatDoor
