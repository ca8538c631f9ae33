/-
  OUR OWN TEXT. Sx3, Sx4, Sx5, one behind the other.
-/
import Derived.Test.YtdhpoagjmiligaaGreatDoorKag
import Derived.Deep.DeepCutAuto
import Derived.Test.YtdhpoagjmiligaaGreatDoorHwm
namespace Go.Proofs.YtdhpoagjmiligaaGreatDoor
open Go.RowKit
attribute [local go_sem ↓] Go.wp_at_zero Go.wp_at_succ

def arTx : List Bs := [[43], [45], [42], [47], [37]]
def isVarW (s : Bs) : Bool := decide (s.head? = some 63) && gSym s.tail
def isOtherW (s : Bs) : Bool := decide (s = [95]) || (decide (s = [61, 62]) || (decide (s ∈ opTx) || decide (s ∈ arTx)))
/-- A word's kind, as the model counts it. -/
def mkind (s : Bs) : Int := if (numOf s).isSome then 3 else if isVarW s then 4 else if gSym s then 5 else if isOtherW s then 6 else 8
def mnum (s : Bs) : Int := (numOf s).getD 0
theorem StrsAt.of {w : World} {g o : Nat} {l : List Bs} (h : ∀ (j : Nat) x, l[j]? = some x → w.cell? ⟨g, o + j, none⟩ = some (.string (mkS x))) : StrsAt none w (some ⟨g, o, none⟩) (l.map mkS) := by
  intro i x hx
  rw [List.getElem?_map] at hx
  obtain ⟨y, hy, rfl⟩ := Option.map_eq_some_iff.1 hx
  refine ⟨g, o, [.string (mkS y)], rfl, Qb.bare _ _ _, rfl, ?_, rfl⟩
  intro j v hj
  have hj0 : j = 0 := by
    have := (List.getElem?_eq_some_iff.1 hj).1
    simp at this
    exact this
  subst hj0
  simp at hj
  subst hj
  simpa using h i y hy
theorem memB_map (s : ByteArray) (l : List Bs) : memB s (l.map mkS) = decide (bsOf s ∈ l) := by
  induction l with
  | nil => rfl
  | cons x r ih =>
    have h1 : memB s ((x :: r).map mkS) = (decide (mkS x = s) || memB s (r.map mkS)) := rfl
    rw [h1, ih]
    by_cases h : mkS x = s
    · have : bsOf s = x := by rw [← h]; rfl
      simp [h, this]
    · have : ¬ bsOf s = x := fun e => h (by rw [← e, mkS_bs])
      simp [h, this]
theorem TestsAt.strs {w : World} {g : Nat} (h : TestsAt w g 0) : StrsAt none w (some ⟨g, 0, none⟩) (opTx.map mkS) :=
  StrsAt.of fun j x hx => by
    have hj : j < 6 := (List.getElem?_eq_some_iff.1 hx).1
    have := h j hj
    rw [List.getD, hx] at this
    exact this
theorem ariths_strs (w : World) : StrsAt none (w.alloc (.cells #[.string ⟨#[43]⟩, .string ⟨#[45]⟩, .string ⟨#[42]⟩, .string ⟨#[47]⟩, .string ⟨#[37]⟩] 9)) (some ⟨w.heap.size, 0, none⟩) (arTx.map mkS) :=
  StrsAt.of fun j x hx => by
    have hj : j < 5 := (List.getElem?_eq_some_iff.1 hx).1
    rcases (show j = 0 ∨ j = 1 ∨ j = 2 ∨ j = 3 ∨ j = 4 by omega) with rfl | rfl | rfl | rfl | rfl <;> (cases hx; simp [go_sem]; rfl)
theorem byte63 {b : UInt8} : ((b.toNat : Int) = 63) ↔ b = 63 := by
  constructor
  · intro h
    exact UInt8.toNat_inj.1 (by have : (63 : UInt8).toNat = 63 := rfl; omega)
  · rintro rfl
    rfl
theorem beq_lit (s : ByteArray) (l : Bs) : (s.toList == l) = decide (bsOf s = l) := by
  rw [ByteArray.toList_eq]
  by_cases h : bsOf s = l
  · rw [decide_eq_true h]
    exact beq_iff_eq.2 h
  · rw [decide_eq_false h]
    exact beq_eq_false_iff_ne.2 h

theorem IPost.got {s : Bs} {w w' : World} {e : Ending} {n : Int} (h : IPost s w e w') (hn : numOf s = some n) : e = .returned (.tuple #[.int .i64 n, .bool true]) ∧ Below w.heap.size w w' := by
  obtain ⟨m, b, rfl, hmb, hb⟩ := h
  rw [hn] at hmb
  cases b with
  | true =>
    have : n = m := by simpa using hmb
    subst this
    exact ⟨rfl, hb⟩
  | false => cases hmb
theorem IPost.not {s : Bs} {w w' : World} {e : Ending} (h : IPost s w e w') (hn : numOf s = none) : ∃ m, e = .returned (.tuple #[.int .i64 m, .bool false]) ∧ Below w.heap.size w w' := by
  obtain ⟨m, b, rfl, hmb, hb⟩ := h
  rw [hn] at hmb
  cases b with
  | true => cases hmb
  | false => exact ⟨m, rfl, hb⟩

set_option maxHeartbeats 3200000 in
theorem l2Kind_any (s : ByteArray) (w : World) (hs : s.size ≤ 20000) (h0 : 0 < s.size) : Calls Tryz.prog 33 #[.string s] w fun e w' => e = .returned (.tuple #[.int .i64 (mkind (bsOf s)), .int .i64 (mnum (bsOf s))]) ∧ Below w.heap.size w w' := by
  have hsm : s.size ≤ maxLen := by unfold maxLen; omega
  have i0 : (0 : Int) < (s.size : Int) := by omega
  have i1 : (1 : Int) ≤ (s.size : Int) := by omega
  have HI := hidX (l2Int_any s w hs)
  cases hn : numOf (bsOf s) with
  | some n =>
    have HK : Hid (mkind (bsOf s) = 3 ∧ mnum (bsOf s) = n) := show _ ∧ _ from by simp [mkind, mnum, hn]
    have HN := hidX hn
    clear hn
    go_enter Tryz.func33, Tryz.ntmps33
    go_wp2_with (go_at_call 66; refine HI.out.mono ?_; intro e w1 hp; obtain ⟨rfl, hb1⟩ := hp.got HN.out; clear hp)
    go_ret2
    exact ⟨by rw [HK.out.1, HK.out.2]; rfl, hb1⟩
  | none =>
    have HM : Hid (mnum (bsOf s) = 0) := show _ = _ from by simp [mnum, hn]
    have HN := hidX hn
    by_cases hv : isVarW (bsOf s) = true
    · have HK : Hid (mkind (bsOf s) = 4) := show _ = _ from by simp [mkind, hn, hv]
      have hv' := hv
      unfold isVarW at hv'
      simp only [Bool.and_eq_true, decide_eq_true_eq] at hv'
      have h63 : (s[0].toNat : Int) = 63 := by
        have := hv'.1
        rw [bs_head s h0] at this
        exact byte63.2 (by injection this)
      have HG : Hid (∀ w', Calls Tryz.prog 67 #[.string (s.extract 1 s.size)] w' fun e w'' => e = .returned (.bool true) ∧ w'' = w') := fun w' => by
        have h1 := l1GoodSym_any (s.extract 1 s.size) w' (by unfold maxLen; simp; omega)
        have e : (s.extract 1 s.size).data.toList = (bsOf s).tail := bs_extract s h0
        rw [e, hv'.2] at h1
        exact h1
      clear hn hv hv'
      go_enter Tryz.func33, Tryz.ntmps33
      go_wp2_with (first | (go_at_call 66; refine HI.out.mono ?_; intro e w1 hp; obtain ⟨m, rfl, hb1⟩ := hp.not HN.out; clear hp) | (go_at_call 67; refine (HG.out _).mono ?_; rintro e w2 ⟨rfl, rfl⟩))
      go_ret2
      exact ⟨by rw [HK.out, HM.out]; rfl, hb1⟩
    · have hvf : isVarW (bsOf s) = false := by simpa using hv
      have HGS : Hid (∀ w', Calls Tryz.prog 67 #[.string s] w' fun e w'' => e = .returned (.bool (gSym (bsOf s))) ∧ w'' = w') := fun w' => l1GoodSym_any s w' hsm
      have HG : Hid (∀ w', Calls Tryz.prog 67 #[.string (s.extract 1 s.size)] w' fun e w'' => e = .returned (.bool (gSym (bsOf s).tail)) ∧ w'' = w') := fun w' => by
        have h1 := l1GoodSym_any (s.extract 1 s.size) w' (by unfold maxLen; simp; omega)
        have e : (s.extract 1 s.size).data.toList = (bsOf s).tail := bs_extract s h0
        rw [e] at h1
        exact h1
      have HQ : Hid ((s[0].toNat : Int) = 63 → gSym (bsOf s).tail = false) := fun h => by
        unfold isVarW at hvf
        rw [bs_head s h0, byte63.1 h] at hvf
        simpa using hvf
      have HKG : Hid (mkind (bsOf s) = if gSym (bsOf s) then 5 else if isOtherW (bsOf s) then 6 else 8) := show _ = _ from by simp [mkind, hn, hvf]
      clear hn hv hvf
      obtain ⟨tg, htg⟩ : ∃ b, b = gSym (bsOf s).tail := ⟨_, rfl⟩
      rw [← htg] at HG HQ
      clear htg
      cases hg : gSym (bsOf s)
      · rw [hg] at HGS HKG
        have HKO : Hid (mkind (bsOf s) = if isOtherW (bsOf s) then 6 else 8) := HKG.out
        clear hg HKG
        have HT : Hid (∀ (w' : World) (g : Nat), TestsAt w' g 0 → Calls Tryz.prog 68 #[.string s, .slice (some ⟨g, 0, none⟩) 6 6] w' fun e w'' => e = .returned (.bool (decide (bsOf s ∈ opTx))) ∧ w'' = w') := fun w' g h => by rw [← memB_map]; exact l2Is_any s (some ⟨g, 0, none⟩) 6 (opTx.map mkS) w' h.strs (by decide)
        have HR : Hid (∀ (w' : World), Calls Tryz.prog 68 #[.string s, .slice (some ⟨w'.heap.size, 0, none⟩) 5 5] (w'.alloc (.cells #[.string ⟨#[43]⟩, .string ⟨#[45]⟩, .string ⟨#[42]⟩, .string ⟨#[47]⟩, .string ⟨#[37]⟩] 9)) fun e w'' => e = .returned (.bool (decide (bsOf s ∈ arTx))) ∧ w'' = (w'.alloc (.cells #[.string ⟨#[43]⟩, .string ⟨#[45]⟩, .string ⟨#[42]⟩, .string ⟨#[47]⟩, .string ⟨#[37]⟩] 9))) := fun w' => by rw [← memB_map]; exact l2Is_any s (some ⟨w'.heap.size, 0, none⟩) 5 (arTx.map mkS) _ (ariths_strs w') (by decide)
        have e95 := beq_lit s [95]
        have eTh := beq_lit s [61, 62]
        by_cases h63 : (s[0].toNat : Int) = 63
        · have := HQ.out h63
          subst this
          by_cases hA : bsOf s = [95]
          · have HO : Hid (isOtherW (bsOf s) = true) := show _ = _ from by simp [isOtherW, hA]
            rw [decide_eq_true hA] at e95
            clear hA eTh
            go_enter Tryz.func33, Tryz.ntmps33
            go_upto_region 6 with (first | (go_at_call 66; refine HI.out.mono ?_; intro e w1 hp; obtain ⟨m, rfl, hb1⟩ := hp.not HN.out; clear hp) | (go_at_call 67; refine (HG.out _).mono ?_; rintro e w2 ⟨rfl, rfl⟩))
            go_upto_region 8 with (go_at_call 67; refine (HGS.out _).mono ?_; rintro e w2 ⟨rfl, rfl⟩)
            go_wp2
            go_ret2
            exact ⟨by rw [HKO.out, HM.out, HO.out]; rfl, hb1⟩
          rw [decide_eq_false hA] at e95
          by_cases hB : bsOf s = [61, 62]
          · have HO : Hid (isOtherW (bsOf s) = true) := show _ = _ from by simp [isOtherW, hB]
            rw [decide_eq_true hB] at eTh
            clear hA hB
            go_enter Tryz.func33, Tryz.ntmps33
            go_upto_region 6 with (first | (go_at_call 66; refine HI.out.mono ?_; intro e w1 hp; obtain ⟨m, rfl, hb1⟩ := hp.not HN.out; clear hp) | (go_at_call 67; refine (HG.out _).mono ?_; rintro e w2 ⟨rfl, rfl⟩))
            go_upto_region 8 with (go_at_call 67; refine (HGS.out _).mono ?_; rintro e w2 ⟨rfl, rfl⟩)
            go_wp2
            go_ret2
            exact ⟨by rw [HKO.out, HM.out, HO.out]; rfl, hb1⟩
          rw [decide_eq_false hB] at eTh
          by_cases hC : bsOf s ∈ opTx
          · have HO : Hid (isOtherW (bsOf s) = true) := show _ = _ from by simp [isOtherW, hC]
            rw [decide_eq_true hC] at HT
            clear hA hB hC
            go_enter Tryz.func33, Tryz.ntmps33
            go_upto_region 6 with (first | (go_at_call 66; refine HI.out.mono ?_; intro e w1 hp; obtain ⟨m, rfl, hb1⟩ := hp.not HN.out; clear hp) | (go_at_call 67; refine (HG.out _).mono ?_; rintro e w2 ⟨rfl, rfl⟩))
            go_upto_region 8 with (go_at_call 67; refine (HGS.out _).mono ?_; rintro e w2 ⟨rfl, rfl⟩)
            go_wp2_with (first | (go_at_call 69; refine (l2Tests_txt _).mono ?_; rintro e w3 ⟨rfl, ht3, hb3⟩) | (go_at_call 68; refine (HT.out _ _ ht3).mono ?_; rintro e w4 ⟨rfl, rfl⟩))
            go_ret2
            exact ⟨by rw [HKO.out, HM.out, HO.out]; rfl, hb1.trans (hb3.mono hb1.size)⟩
          rw [decide_eq_false hC] at HT
          by_cases hD : bsOf s ∈ arTx
          · have HO : Hid (isOtherW (bsOf s) = true) := show _ = _ from by simp [isOtherW, hD]
            rw [decide_eq_true hD] at HR
            clear hA hB hC hD
            go_enter Tryz.func33, Tryz.ntmps33
            go_upto_region 6 with (first | (go_at_call 66; refine HI.out.mono ?_; intro e w1 hp; obtain ⟨m, rfl, hb1⟩ := hp.not HN.out; clear hp) | (go_at_call 67; refine (HG.out _).mono ?_; rintro e w2 ⟨rfl, rfl⟩))
            go_upto_region 8 with (go_at_call 67; refine (HGS.out _).mono ?_; rintro e w2 ⟨rfl, rfl⟩)
            go_wp2_with (first | (go_at_call 69; refine (l2Tests_txt _).mono ?_; rintro e w3 ⟨rfl, ht3, hb3⟩) | (go_at_call 68; first | (with_reducible refine (HT.out _ _ ht3).mono ?_; rintro e w4 ⟨rfl, rfl⟩) | (with_reducible refine (HR.out _).mono ?_; rintro e w4 ⟨rfl, rfl⟩)) | (go_at_call 70; refine (l2Ariths_any _).mono ?_; rintro e w5 ⟨rfl, rfl⟩))
            go_ret2
            exact ⟨by rw [HKO.out, HM.out, HO.out]; rfl, hb1.trans ((hb3.alloc hb3.size _).mono hb1.size)⟩
          · have HO : Hid (isOtherW (bsOf s) = false) := show _ = _ from by simp [isOtherW, hA, hB, hC, hD]
            rw [decide_eq_false hD] at HR
            clear hA hB hC hD
            go_enter Tryz.func33, Tryz.ntmps33
            go_upto_region 6 with (first | (go_at_call 66; refine HI.out.mono ?_; intro e w1 hp; obtain ⟨m, rfl, hb1⟩ := hp.not HN.out; clear hp) | (go_at_call 67; refine (HG.out _).mono ?_; rintro e w2 ⟨rfl, rfl⟩))
            go_upto_region 8 with (go_at_call 67; refine (HGS.out _).mono ?_; rintro e w2 ⟨rfl, rfl⟩)
            go_wp2_with (first | (go_at_call 69; refine (l2Tests_txt _).mono ?_; rintro e w3 ⟨rfl, ht3, hb3⟩) | (go_at_call 68; first | (with_reducible refine (HT.out _ _ ht3).mono ?_; rintro e w4 ⟨rfl, rfl⟩) | (with_reducible refine (HR.out _).mono ?_; rintro e w4 ⟨rfl, rfl⟩)) | (go_at_call 70; refine (l2Ariths_any _).mono ?_; rintro e w5 ⟨rfl, rfl⟩))
            go_ret2
            exact ⟨by rw [HKO.out, HM.out, HO.out]; rfl, hb1.trans ((hb3.alloc hb3.size _).mono hb1.size)⟩
        · by_cases hA : bsOf s = [95]
          · have HO : Hid (isOtherW (bsOf s) = true) := show _ = _ from by simp [isOtherW, hA]
            rw [decide_eq_true hA] at e95
            clear hA eTh
            go_enter Tryz.func33, Tryz.ntmps33
            go_upto_region 8 with (first | (go_at_call 66; refine HI.out.mono ?_; intro e w1 hp; obtain ⟨m, rfl, hb1⟩ := hp.not HN.out; clear hp) | (go_at_call 67; refine (HGS.out _).mono ?_; rintro e w2 ⟨rfl, rfl⟩))
            go_wp2
            go_ret2
            exact ⟨by rw [HKO.out, HM.out, HO.out]; rfl, hb1⟩
          rw [decide_eq_false hA] at e95
          by_cases hB : bsOf s = [61, 62]
          · have HO : Hid (isOtherW (bsOf s) = true) := show _ = _ from by simp [isOtherW, hB]
            rw [decide_eq_true hB] at eTh
            clear hA hB
            go_enter Tryz.func33, Tryz.ntmps33
            go_upto_region 8 with (first | (go_at_call 66; refine HI.out.mono ?_; intro e w1 hp; obtain ⟨m, rfl, hb1⟩ := hp.not HN.out; clear hp) | (go_at_call 67; refine (HGS.out _).mono ?_; rintro e w2 ⟨rfl, rfl⟩))
            go_wp2
            go_ret2
            exact ⟨by rw [HKO.out, HM.out, HO.out]; rfl, hb1⟩
          rw [decide_eq_false hB] at eTh
          by_cases hC : bsOf s ∈ opTx
          · have HO : Hid (isOtherW (bsOf s) = true) := show _ = _ from by simp [isOtherW, hC]
            rw [decide_eq_true hC] at HT
            clear hA hB hC
            go_enter Tryz.func33, Tryz.ntmps33
            go_upto_region 8 with (first | (go_at_call 66; refine HI.out.mono ?_; intro e w1 hp; obtain ⟨m, rfl, hb1⟩ := hp.not HN.out; clear hp) | (go_at_call 67; refine (HGS.out _).mono ?_; rintro e w2 ⟨rfl, rfl⟩))
            go_wp2_with (first | (go_at_call 69; refine (l2Tests_txt _).mono ?_; rintro e w3 ⟨rfl, ht3, hb3⟩) | (go_at_call 68; refine (HT.out _ _ ht3).mono ?_; rintro e w4 ⟨rfl, rfl⟩))
            go_ret2
            exact ⟨by rw [HKO.out, HM.out, HO.out]; rfl, hb1.trans (hb3.mono hb1.size)⟩
          rw [decide_eq_false hC] at HT
          by_cases hD : bsOf s ∈ arTx
          · have HO : Hid (isOtherW (bsOf s) = true) := show _ = _ from by simp [isOtherW, hD]
            rw [decide_eq_true hD] at HR
            clear hA hB hC hD
            go_enter Tryz.func33, Tryz.ntmps33
            go_upto_region 8 with (first | (go_at_call 66; refine HI.out.mono ?_; intro e w1 hp; obtain ⟨m, rfl, hb1⟩ := hp.not HN.out; clear hp) | (go_at_call 67; refine (HGS.out _).mono ?_; rintro e w2 ⟨rfl, rfl⟩))
            go_wp2_with (first | (go_at_call 69; refine (l2Tests_txt _).mono ?_; rintro e w3 ⟨rfl, ht3, hb3⟩) | (go_at_call 68; first | (with_reducible refine (HT.out _ _ ht3).mono ?_; rintro e w4 ⟨rfl, rfl⟩) | (with_reducible refine (HR.out _).mono ?_; rintro e w4 ⟨rfl, rfl⟩)) | (go_at_call 70; refine (l2Ariths_any _).mono ?_; rintro e w5 ⟨rfl, rfl⟩))
            go_ret2
            exact ⟨by rw [HKO.out, HM.out, HO.out]; rfl, hb1.trans ((hb3.alloc hb3.size _).mono hb1.size)⟩
          · have HO : Hid (isOtherW (bsOf s) = false) := show _ = _ from by simp [isOtherW, hA, hB, hC, hD]
            rw [decide_eq_false hD] at HR
            clear hA hB hC hD
            go_enter Tryz.func33, Tryz.ntmps33
            go_upto_region 8 with (first | (go_at_call 66; refine HI.out.mono ?_; intro e w1 hp; obtain ⟨m, rfl, hb1⟩ := hp.not HN.out; clear hp) | (go_at_call 67; refine (HGS.out _).mono ?_; rintro e w2 ⟨rfl, rfl⟩))
            go_wp2_with (first | (go_at_call 69; refine (l2Tests_txt _).mono ?_; rintro e w3 ⟨rfl, ht3, hb3⟩) | (go_at_call 68; first | (with_reducible refine (HT.out _ _ ht3).mono ?_; rintro e w4 ⟨rfl, rfl⟩) | (with_reducible refine (HR.out _).mono ?_; rintro e w4 ⟨rfl, rfl⟩)) | (go_at_call 70; refine (l2Ariths_any _).mono ?_; rintro e w5 ⟨rfl, rfl⟩))
            go_ret2
            exact ⟨by rw [HKO.out, HM.out, HO.out]; rfl, hb1.trans ((hb3.alloc hb3.size _).mono hb1.size)⟩
      · rw [hg] at HGS HKG
        have HK : Hid (mkind (bsOf s) = 5) := HKG.out
        clear hg HKG
        by_cases h63 : (s[0].toNat : Int) = 63
        · have := HQ.out h63
          subst this
          go_enter Tryz.func33, Tryz.ntmps33
          go_upto_region 6 with (first | (go_at_call 66; refine HI.out.mono ?_; intro e w1 hp; obtain ⟨m, rfl, hb1⟩ := hp.not HN.out; clear hp) | (go_at_call 67; refine (HG.out _).mono ?_; rintro e w2 ⟨rfl, rfl⟩))
          go_wp2_with (go_at_call 67; refine (HGS.out _).mono ?_; rintro e w2 ⟨rfl, rfl⟩)
          go_ret2
          exact ⟨by rw [HK.out, HM.out]; rfl, hb1⟩
        · go_enter Tryz.func33, Tryz.ntmps33
          go_wp2_with (first | (go_at_call 66; refine HI.out.mono ?_; intro e w1 hp; obtain ⟨m, rfl, hb1⟩ := hp.not HN.out; clear hp) | (go_at_call 67; refine (HGS.out _).mono ?_; rintro e w2 ⟨rfl, rfl⟩))
          go_ret2
          exact ⟨by rw [HK.out, HM.out]; rfl, hb1⟩
end Go.Proofs.YtdhpoagjmiligaaGreatDoor

namespace Go.Proofs.YtdhpoagjmiligaaGreatDoor

/-- A word as the model tells it. -/
structure Wd where
  kind : Int
  pos : Nat
  text : Bs
  num : Int
def blankB (b : UInt8) : Bool := decide (b = 32) || (decide (b = 9) || (decide (b = 10) || decide (b = 13)))
def wordB (b : UInt8) : Bool := decide (32 < b.toNat) && (decide (b.toNat < 127) && (decide (b ≠ 40) && (decide (b ≠ 41) && decide (b ≠ 59))))
def lineP (b : UInt8) : Bool := decide (b ≠ 10)
def runOf (p : UInt8 → Bool) (l : Bs) : Nat := (l.takeWhile p).length
def wordsGo : Nat → Bs → Nat → List Wd
  | 0, _, _ => []
  | _ + 1, [], k => [⟨0, k, [], 0⟩]
  | n + 1, b :: r, k =>
    if blankB b then wordsGo n r (k + 1)
    else if b = 59 then wordsGo n ((b :: r).drop (runOf lineP (b :: r))) (k + runOf lineP (b :: r))
    else if b = 40 then ⟨1, k, [], 0⟩ :: wordsGo n r (k + 1)
    else if b = 41 then ⟨2, k, [], 0⟩ :: wordsGo n r (k + 1)
    else if b.toNat < 33 ∨ 126 < b.toNat then ⟨7, k, [], 0⟩ :: wordsGo n r (k + 1)
    else ⟨mkind ((b :: r).takeWhile wordB), k, (b :: r).takeWhile wordB, mnum ((b :: r).takeWhile wordB)⟩ :: wordsGo n ((b :: r).drop (runOf wordB (b :: r))) (k + runOf wordB (b :: r))
def wordsAt (s : Bs) (k : Nat) : List Wd := wordsGo (s.length + 1 - k) (s.drop k) k
def wordsOf (s : Bs) : List Wd := wordsAt s 0

theorem run_pos {p : UInt8 → Bool} {b : UInt8} {r : Bs} (h : p b = true) : 1 ≤ runOf p (b :: r) := by
  unfold runOf
  rw [List.takeWhile_cons, if_pos h]
  simp
theorem run_le (p : UInt8 → Bool) (l : Bs) : runOf p l ≤ l.length := List.Sublist.length_le (List.takeWhile_sublist p)
theorem line59 : lineP 59 = true := by decide
theorem wordB_of {b : UInt8} (h1 : ¬ b = 59) (h2 : ¬ b = 40) (h3 : ¬ b = 41) (h4 : ¬ (b.toNat < 33 ∨ 126 < b.toNat)) : wordB b = true := by
  unfold wordB
  simp [h1, h2, h3]
  omega
theorem wordsGo_fuel : ∀ (n m : Nat) (l : Bs) (k : Nat), l.length < n → l.length < m → wordsGo n l k = wordsGo m l k := by
  intro n
  induction n with
  | zero => intro m l k h; omega
  | succ n ih =>
    intro m l k hn hm
    obtain ⟨m, rfl⟩ : ∃ m', m = m' + 1 := ⟨m - 1, by omega⟩
    cases l with
    | nil => rfl
    | cons b r =>
      have hr : r.length < n ∧ r.length < m := by simp at hn hm; omega
      unfold wordsGo
      by_cases h1 : blankB b = true
      · rw [if_pos h1, if_pos h1]
        exact ih m r _ hr.1 hr.2
      · rw [if_neg h1, if_neg h1]
        by_cases h2 : b = 59
        · rw [if_pos h2, if_pos h2]
          have hp : 1 ≤ runOf lineP (b :: r) := run_pos (by rw [h2]; exact line59)
          exact ih m _ _ (by rw [List.length_drop]; simp only [List.length_cons] at *; omega) (by rw [List.length_drop]; simp only [List.length_cons] at *; omega)
        · rw [if_neg h2, if_neg h2]
          by_cases h3 : b = 40
          · rw [if_pos h3, if_pos h3, ih m r _ hr.1 hr.2]
          · rw [if_neg h3, if_neg h3]
            by_cases h4 : b = 41
            · rw [if_pos h4, if_pos h4, ih m r _ hr.1 hr.2]
            · rw [if_neg h4, if_neg h4]
              by_cases h5 : b.toNat < 33 ∨ 126 < b.toNat
              · rw [if_pos h5, if_pos h5, ih m r _ hr.1 hr.2]
              · rw [if_neg h5, if_neg h5]
                have hp : 1 ≤ runOf wordB (b :: r) := run_pos (wordB_of h2 h3 h4 h5)
                rw [ih m _ _ (by rw [List.length_drop]; simp only [List.length_cons] at *; omega) (by rw [List.length_drop]; simp only [List.length_cons] at *; omega)]
theorem wordsAt_go (s : Bs) (k n : Nat) (hk : k ≤ s.length) (hn : s.length - k < n) : wordsGo n (s.drop k) k = wordsAt s k :=
  wordsGo_fuel _ _ _ _ (by rw [List.length_drop]; exact hn) (by rw [List.length_drop]; omega)
theorem wordsAt_end (s : Bs) : wordsAt s s.length = [⟨0, s.length, [], 0⟩] := by
  unfold wordsAt
  rw [List.drop_length, show s.length + 1 - s.length = 0 + 1 by omega]
  rfl
/-- One step. -/
theorem wordsAt_step {s : Bs} {k : Nat} {b : UInt8} (hb : s[k]? = some b) : wordsAt s k =
    if blankB b then wordsAt s (k + 1)
    else if b = 59 then wordsAt s (k + runOf lineP (s.drop k))
    else if b = 40 then ⟨1, k, [], 0⟩ :: wordsAt s (k + 1)
    else if b = 41 then ⟨2, k, [], 0⟩ :: wordsAt s (k + 1)
    else if b.toNat < 33 ∨ 126 < b.toNat then ⟨7, k, [], 0⟩ :: wordsAt s (k + 1)
    else ⟨mkind ((s.drop k).takeWhile wordB), k, (s.drop k).takeWhile wordB, mnum ((s.drop k).takeWhile wordB)⟩ :: wordsAt s (k + runOf wordB (s.drop k)) := by
  have hk : k < s.length := (List.getElem?_eq_some_iff.1 hb).1
  have hd : s.drop k = b :: s.drop (k + 1) := drop_cons hb
  have h0 : wordsAt s k = wordsGo (s.length - k + 1) (b :: s.drop (k + 1)) k := by
    rw [← wordsAt_go s k (s.length - k + 1) (by omega) (by omega), hd]
  have e1 : wordsGo (s.length - k) (s.drop (k + 1)) (k + 1) = wordsAt s (k + 1) := wordsAt_go s (k + 1) _ (by omega) (by omega)
  have e2 : ∀ p, 1 ≤ runOf p (s.drop k) → wordsGo (s.length - k) ((s.drop k).drop (runOf p (s.drop k))) (k + runOf p (s.drop k)) = wordsAt s (k + runOf p (s.drop k)) := fun p hp => by
    have hl := run_le p (s.drop k)
    rw [List.length_drop] at hl
    rw [List.drop_drop]
    exact wordsAt_go s _ _ (by omega) (by omega)
  rw [h0]
  unfold wordsGo
  rw [← hd, e1]
  by_cases h1 : blankB b = true
  · rw [if_pos h1, if_pos h1]
  · rw [if_neg h1, if_neg h1]
    by_cases h2 : b = 59
    · rw [if_pos h2, if_pos h2, e2 lineP (by rw [hd, h2]; exact run_pos line59)]
    · rw [if_neg h2, if_neg h2]
      by_cases h3 : b = 40
      · rw [if_pos h3, if_pos h3]
      · rw [if_neg h3, if_neg h3]
        by_cases h4 : b = 41
        · rw [if_pos h4, if_pos h4]
        · rw [if_neg h4, if_neg h4]
          by_cases h5 : b.toNat < 33 ∨ 126 < b.toNat
          · rw [if_pos h5, if_pos h5]
          · rw [if_neg h5, if_neg h5, e2 wordB (by rw [hd]; exact run_pos (wordB_of h2 h3 h4 h5))]
/-- How far a run goes. -/
theorem run_eq {p : UInt8 → Bool} : ∀ {l : Bs} {n : Nat}, n ≤ l.length → (∀ i b, i < n → l[i]? = some b → p b = true) → (∀ b, l[n]? = some b → p b = false) → l.takeWhile p = l.take n
  | [], n, hn, _, _ => by
    obtain rfl : n = 0 := by simpa using hn
    rfl
  | b :: r, 0, _, _, h2 => by
    have := h2 b rfl
    rw [List.takeWhile_cons, if_neg (by simp [this])]
    rfl
  | b :: r, n + 1, hn, h1, h2 => by
    have hb := h1 0 b (by omega) rfl
    rw [List.takeWhile_cons, if_pos hb, List.take_succ_cons, run_eq (l := r) (n := n) (by simpa using hn) (fun i c hi hc => h1 (i + 1) c (by omega) (by simpa using hc)) (fun c hc => h2 c (by simpa using hc))]
theorem run_at {p : UInt8 → Bool} {s : Bs} {k j : Nat} (hkj : k ≤ j) (hj : j ≤ s.length) (h1 : ∀ i b, k ≤ i → i < j → s[i]? = some b → p b = true) (h2 : ∀ b, s[j]? = some b → p b = false) : (s.drop k).takeWhile p = (s.drop k).take (j - k) ∧ k + runOf p (s.drop k) = j := by
  have e : (s.drop k).takeWhile p = (s.drop k).take (j - k) := run_eq (by rw [List.length_drop]; omega) (fun i b hi hb => h1 (k + i) b (by omega) (by omega) (by rw [List.getElem?_drop] at hb; exact hb)) (fun b hb => h2 b (by rw [List.getElem?_drop, show k + (j - k) = j by omega] at hb; exact hb))
  refine ⟨e, ?_⟩
  unfold runOf
  rw [e, List.length_take, List.length_drop]
  omega
end Go.Proofs.YtdhpoagjmiligaaGreatDoor

namespace Go.Proofs.YtdhpoagjmiligaaGreatDoor
open Go.RowKit
attribute [local go_sem ↓] Go.wp_at_zero Go.wp_at_succ

def wdV (x : Wd) : List Value := [.int .i64 x.kind, .int .i64 (x.pos : Int), .string (mkS x.text), .int .i64 x.num]
def wdsV (l : List Wd) : List Value := l.flatMap wdV
theorem wdsV_snoc (l : List Wd) (x : Wd) : wdsV (l ++ [x]) = wdsV l ++ wdV x := by simp [wdsV]
theorem wdV_one (x : Wd) : ∀ u ∈ wdV x, u.oneCell' = true := by
  intro u hu
  simp [wdV] at hu
  rcases hu with rfl | rfl | rfl | rfl <;> rfl
theorem infoWd : (Tryz.prog.info? 72).map (fun i => (i.zero, i.size, i.bytes)) = some (some (.agg #[.int .i64 0, .int .i64 0, .string ByteArray.empty, .int .i64 0]), 4, 40) := by kernel_rfl
/-- What is told: words, owned. -/
def WdsPost (w : World) (l : List Wd) (e : Ending) (w' : World) : Prop := (∃ a c, e = .returned (.slice a l.length c) ∧ w'.ownsRow w.heap.size 72 4 (.slice a l.length c) l.length (wdsV l)) ∧ Below w.heap.size w w'
theorem byteN {b c : UInt8} : ((b.toNat : Int) = (c.toNat : Int)) ↔ b = c := by
  constructor
  · intro h
    exact UInt8.toNat_inj.1 (by omega)
  · rintro rfl
    rfl
theorem beqF {a b : Int} (h : ¬ a = b) : (a == b) = false := by simpa using h
theorem blank_int (b : UInt8) : blankB b = true ↔ ((b.toNat : Int) = 32 ∨ (b.toNat : Int) = 9 ∨ (b.toNat : Int) = 10 ∨ (b.toNat : Int) = 13) := by
  unfold blankB
  simp only [Bool.or_eq_true, decide_eq_true_eq]
  have e32 := byteN (b := b) (c := 32)
  have e9 := byteN (b := b) (c := 9)
  have e10 := byteN (b := b) (c := 10)
  have e13 := byteN (b := b) (c := 13)
  have c32 : ((32 : UInt8).toNat : Int) = 32 := rfl
  have c9 : ((9 : UInt8).toNat : Int) = 9 := rfl
  have c10 : ((10 : UInt8).toNat : Int) = 10 := rfl
  have c13 : ((13 : UInt8).toNat : Int) = 13 := rfl
  rw [c32] at e32
  rw [c9] at e9
  rw [c10] at e10
  rw [c13] at e13
  rw [e32, e9, e10, e13]
theorem word_int (b : UInt8) : wordB b = true ↔ ((32 : Int) < (b.toNat : Int) ∧ (b.toNat : Int) < 127 ∧ ¬ (b.toNat : Int) = 40 ∧ ¬ (b.toNat : Int) = 41 ∧ ¬ (b.toNat : Int) = 59) := by
  unfold wordB
  simp only [Bool.and_eq_true, decide_eq_true_eq]
  have e40 := byteN (b := b) (c := 40)
  have e41 := byteN (b := b) (c := 41)
  have e59 := byteN (b := b) (c := 59)
  have c40 : ((40 : UInt8).toNat : Int) = 40 := rfl
  have c41 : ((41 : UInt8).toNat : Int) = 41 := rfl
  have c59 : ((59 : UInt8).toNat : Int) = 59 := rfl
  rw [c40] at e40
  rw [c41] at e41
  rw [c59] at e59
  rw [e40, e41, e59]
  constructor
  · rintro ⟨h1, h2, h3⟩
    exact ⟨by omega, by omega, h3⟩
  · rintro ⟨h1, h2, h3⟩
    exact ⟨by omega, by omega, h3⟩
theorem lift_03 {P : World → Prop} {w : World} {b : Nat} {t : TypeId} {x0 x1 x2 x3 y0 y3 : Value} (h0 : w.heap[b]? = some (.cells #[x0, x1, x2, x3] t (0, 0))) (h : ∀ wt, wt.heap[b]? = some (.cells #[y0, x1, x2, y3] t (0, 0)) → Below b w wt → P wt) : P ((w.setCell ⟨b, 0, none⟩ y0).setCell ⟨b, 3, none⟩ y3) := by
  refine h _ ?_ (((Below.refl b w).setCell (Nat.le_refl b) _).setCell (Nat.le_refl b) _)
  have h1 := heap_setCell_same (i := 0) h0 y0
  exact heap_setCell_same (i := 3) h1 y3
theorem conv_word (src : Bs) (w : World) (b o c k j : Nat) (hv : BysAt w (some ⟨b, o, none⟩) src) (hkj : k ≤ j) (hj : j ≤ src.length) : (convert 22 9 (.slice (some ⟨b, o + k, none⟩) (j - k) c)).run Tryz.prog w = .ok (.string (mkS ((src.drop k).take (j - k)))) w := by
  have hl : ((src.drop k).take (j - k)).length = j - k := by rw [List.length_take, List.length_drop]; omega
  have h := run_convert_bytes_arg (P := Tryz.prog) w 22 5 Tryz.underlying22 Tryz.underlying5 b (o + k) (j - k) c (((src.drop k).take (j - k)).map fun x => (x.toNat : Int)) (by rw [List.length_map, hl]) (fun i hi => by
    have hi' : i < j - k := by simpa [hl] using hi
    have hx : src[k + i]? = some (src[k + i]'(by omega)) := by simp
    obtain ⟨b', o', e, _, hc⟩ := hv (k + i) _ hx
    simp only [Option.some.injEq, Addr.mk.injEq, and_true] at e
    obtain ⟨rfl, rfl⟩ := e
    rw [Nat.add_assoc, hc]
    simp [hi']
    rw [hx]
    rfl) 9 Tryz.underlying9
  rw [h]
  have e1 : (((src.drop k).take (j - k)).map fun x => (x.toNat : Int)).map (fun n => UInt8.ofNat n.toNat) = (src.drop k).take (j - k) := by
    rw [List.map_map]
    exact List.map_id'' (fun x => by simp) _
  unfold strOfNums
  rw [e1]
  rfl
theorem own_wds {w : World} {base n : Nat} {a : Option Addr} {c : Nat} {l l' : List Wd} {x : Wd} {m : Nat} (h : w.ownsRow base 72 4 (.slice a n c) n (wdsV l ++ wdV x)) (hl : l' = l ++ [x]) (hm : m = n) : w.ownsRow base 72 4 (.slice a m c) m (wdsV l') := by
  subst hl hm
  rw [wdsV_snoc]
  exact h

set_option maxRecDepth 100000 in
set_option maxHeartbeats 6400000 in
theorem l2Words_any (src : Bs) (a : Option Addr) (c : Nat) (w : World) (hv : BysAt w a src) (hl : src.length ≤ 20000) (hcap : src.length ≤ c) : Calls Tryz.prog 18 #[.slice a src.length c] w (WdsPost w (wordsOf src)) := by
  have HV := hidX hv
  clear hv
  go_enter Tryz.func18, Tryz.ntmps18
  go_wp2
  go_loopw [3, 4] (fun sv iv wr => ∃ (k : Nat) (L : List Wd) (a' : Option Addr) (c' : Nat), k ≤ src.length ∧ iv = .int .i64 (k : Int) ∧ sv = .slice a' L.length c' ∧ wr.ownsRow w.heap.size 72 4 (.slice a' L.length c') L.length (wdsV L) ∧ L.length ≤ k ∧ wordsOf src = L ++ wordsAt src k ∧ Below w.heap.size w wr) (fun _ iv _ => src.length - (intOf iv).toNat)
  case atStart => exact ⟨0, [], none, 0, Nat.zero_le _, rfl, rfl, World.ownsRow_nil _ _ _ _, Nat.le_refl _, rfl, Below.refl _ _⟩
  case round =>
    obtain ⟨k, L, a', c', hk, rfl, rfl, hown, hLk, hW, hb⟩ := hrel
    have HR := hidX hown
    have HW := hidX hW
    have HB := hidX hb
    have hsz := hb.size
    clear hown hW hb
    by_cases hkl : k < src.length
    · obtain ⟨x, hx⟩ : ∃ x, src[k]? = some x := ⟨src[k], by simp [hkl]⟩
      have hstep := wordsAt_step hx
      obtain ⟨b, o, rfl, _, hc⟩ := (HV.out.below HB.out) k x hx
      have k0 : (0 : Int) ≤ (k : Int) := by omega
      have k1 : (k : Int) < (src.length : Int) := by omega
      have hbi := blank_int x
      have hwi := word_int x
      have x256 : x.toNat < 256 := UInt8.toNat_lt x
      have HX := hidX hx
      clear hx
      by_cases h1 : blankB x = true
      · have HS : Hid (wordsOf src = L ++ wordsAt src (k + 1)) := show _ = _ from by rw [HW.out, hstep, if_pos h1]
        have h1' := hbi.1 h1
        clear hstep hbi hwi h1
        rcases h1' with h | h | h | h
        all_goals
          rw [h] at hc
          clear h
          go_wp2
          go_roundw
          case rel => exact ⟨k + 1, L, a', c', by omega, by go_num, rfl, HR.out, by omega, HS.out, HB.out⟩
          case measure => (simp [intOf]; omega)
      · have nb : ¬ ((x.toNat : Int) = 32 ∨ (x.toNat : Int) = 9 ∨ (x.toNat : Int) = 10 ∨ (x.toNat : Int) = 13) := fun h => h1 (hbi.2 h)
        have n1 : ((x.toNat : Int) == 32) = false := beqF fun h => nb (.inl h)
        have n2 : ((x.toNat : Int) == 9) = false := beqF fun h => nb (.inr (.inl h))
        have n3 : ((x.toNat : Int) == 10) = false := beqF fun h => nb (.inr (.inr (.inl h)))
        have n4 : ((x.toNat : Int) == 13) = false := beqF fun h => nb (.inr (.inr (.inr h)))
        rw [if_neg h1] at hstep
        clear h1 hbi nb
        by_cases h2 : x = 59
        · rw [if_pos h2] at hstep
          have HST := hidX hstep
          have hc' := hc
          rw [h2] at hc'
          have hc59 : wr.cell? ⟨b, o + k, none⟩ = some (.int .u8 59) := hc'
          have hl59 : ∀ z, src[k]? = some z → lineP z = true := fun z hz => by
            rw [HX.out] at hz
            injection hz with hz
            subst hz
            rw [h2]
            exact line59
          clear hstep hwi h2 hc hc'
          obtain ⟨wo, hwo⟩ : ∃ u, u = wr := ⟨wr, rfl⟩
          rw [← hwo] at HR HB hsz hc59 ⊢
          have hHV := HV.out.below HB.out
          clear hwo
          go_wp2
          go_loopw [4] (fun iv wq => ∃ j : Nat, k ≤ j ∧ j ≤ src.length ∧ iv = .int .i64 (j : Int) ∧ (∀ i z, k ≤ i → i < j → src[i]? = some z → lineP z = true) ∧ wq = wo) (fun iv _ => src.length - (intOf iv).toNat)
          case atStart => exact ⟨k, Nat.le_refl _, by omega, rfl, fun i z h1 h2 => by omega, rfl⟩
          case round =>
            obtain ⟨j, hkj, hj, rfl, hal, rfl⟩ := hrel
            have HAL := hidX hal
            clear hal hc59
            by_cases hjl : j < src.length
            · obtain ⟨z, hz⟩ : ∃ z, src[j]? = some z := ⟨src[j], by simp [hjl]⟩
              obtain ⟨b2, o2, ea, _, hcz⟩ := hHV j z hz
              simp only [Option.some.injEq, Addr.mk.injEq, and_true] at ea
              obtain ⟨rfl, rfl⟩ := ea
              have j0 : (0 : Int) ≤ (j : Int) := by omega
              have j1 : (j : Int) < (src.length : Int) := by omega
              by_cases hz10 : z = 10
              · have HRN : Hid (k + runOf lineP (src.drop k) = j) := (run_at hkj hj HAL.out (fun y hy => by rw [hz] at hy; injection hy with hy; subst hy; rw [hz10]; decide)).2
                rw [hz10] at hcz
                have hcz' : wr.cell? ⟨b, o + j, none⟩ = some (.int .u8 10) := hcz
                have hkj1 : k < j := by
                  rcases Nat.lt_or_ge k j with h | h
                  · exact h
                  · obtain rfl : k = j := by omega
                    have := hl59 z hz
                    rw [hz10] at this
                    exact absurd this (by decide)
                clear hz10 hcz hz
                go_wp2
                go_roundw
                case rel => exact ⟨j, L, a', c', hj, rfl, rfl, HR.out, by omega, by rw [HW.out, HST.out, HRN.out], HB.out⟩
                case measure => (simp [intOf]; omega)
              · have zn : ¬ (z.toNat : Int) = 10 := fun h => hz10 (byteN.1 (by rw [h]; rfl))
                have HA2 : Hid (∀ i y, k ≤ i → i < j + 1 → src[i]? = some y → lineP y = true) := fun i y h1 h2 hy => by
                  rcases Nat.lt_or_ge i j with h | h
                  · exact HAL.out i y h1 h hy
                  · obtain rfl : i = j := by omega
                    rw [hz] at hy
                    injection hy with hy
                    subst hy
                    unfold lineP
                    simpa using hz10
                clear hz10 hz
                go_wp2
                go_roundw
                case rel => exact ⟨j + 1, by omega, by omega, by go_num, HA2.out, (by first | rfl | trivial)⟩
                case measure => (simp [intOf]; omega)
            · obtain rfl : j = src.length := by omega
              have j1 : ¬ (src.length : Int) < (src.length : Int) := by omega
              have HRN : Hid (k + runOf lineP (src.drop k) = src.length) := (run_at hkj hj HAL.out (fun y hy => by rw [List.getElem?_eq_none (Nat.le_refl _)] at hy; cases hy)).2
              go_wp2
              go_roundw
              case rel => exact ⟨src.length, L, a', c', hj, rfl, rfl, HR.out, by omega, by rw [HW.out, HST.out, HRN.out], HB.out⟩
              case measure => (simp [intOf]; omega)
        · rw [if_neg h2] at hstep
          have n5 : ((x.toNat : Int) == 59) = false := beqF fun h => h2 (byteN.1 (by rw [h]; rfl))
          by_cases h3 : x = 40
          · rw [if_pos h3] at hstep
            have HS : Hid (wordsOf src = (L ++ [⟨1, k, [], 0⟩]) ++ wordsAt src (k + 1)) := show _ = _ from by rw [HW.out, hstep]; simp
            rw [h3] at hc
            have hc' : wr.cell? ⟨b, o + k, none⟩ = some (.int .u8 40) := hc
            clear hstep hwi h2 h3 hc n1 n2 n3 n4 n5
            go_wp2_with (at_builtin; refine wpList_append_any (by rfl) (.tmp 113) (.tmp 116) 40 (by rfl) w.heap.size 72 _ 4 40 Tryz.underlying40 infoWd (by rfl) (by omega) _ L.length _ (by rfl) (own_bel HR.out ((Below.refl _ _).alloc (Nat.le_refl _) _)) (some ⟨wr.heap.size, 0, none⟩) 1 1 (by rfl) (wdV ⟨1, k, [], 0⟩) (by rfl) (fun e => by cases e) (news_new _ _ _ _ rfl) (wdV_one _) (by unfold maxLen; omega) (by omega) (by simp; omega) ?_; intro a3 c3 w3 ho3 hg3 hl3)
            have HB3 := hidX ((HB.out.alloc hsz _).grown hg3.out (by simp; omega) (fun j hj => (HR.out.lt j hj).1))
            go_wp2
            go_roundw
            case rel => exact ⟨k + 1, L ++ [⟨1, k, [], 0⟩], a3, c3, by omega, by go_num, by simp, own_wds ho3.out rfl (by simp), by simp; omega, HS.out, HB3.out⟩
            case measure => (simp [intOf]; omega)
          · rw [if_neg h3] at hstep
            have n6 : ((x.toNat : Int) == 40) = false := beqF fun h => h3 (byteN.1 (by rw [h]; rfl))
            by_cases h4 : x = 41
            · rw [if_pos h4] at hstep
              have HS : Hid (wordsOf src = (L ++ [⟨2, k, [], 0⟩]) ++ wordsAt src (k + 1)) := show _ = _ from by rw [HW.out, hstep]; simp
              rw [h4] at hc
              have hc' : wr.cell? ⟨b, o + k, none⟩ = some (.int .u8 41) := hc
              clear hstep hwi h2 h3 h4 hc n1 n2 n3 n4 n5 n6
              go_wp2_with (at_builtin; refine wpList_append_any (by rfl) (.tmp 123) (.tmp 126) 40 (by rfl) w.heap.size 72 _ 4 40 Tryz.underlying40 infoWd (by rfl) (by omega) _ L.length _ (by rfl) (own_bel HR.out ((Below.refl _ _).alloc (Nat.le_refl _) _)) (some ⟨wr.heap.size, 0, none⟩) 1 1 (by rfl) (wdV ⟨2, k, [], 0⟩) (by rfl) (fun e => by cases e) (news_new _ _ _ _ rfl) (wdV_one _) (by unfold maxLen; omega) (by omega) (by simp; omega) ?_; intro a3 c3 w3 ho3 hg3 hl3)
              have HB3 := hidX ((HB.out.alloc hsz _).grown hg3.out (by simp; omega) (fun j hj => (HR.out.lt j hj).1))
              go_wp2
              go_roundw
              case rel => exact ⟨k + 1, L ++ [⟨2, k, [], 0⟩], a3, c3, by omega, by go_num, by simp, own_wds ho3.out rfl (by simp), by simp; omega, HS.out, HB3.out⟩
              case measure => (simp [intOf]; omega)
            · rw [if_neg h4] at hstep
              have n7 : ((x.toNat : Int) == 41) = false := beqF fun h => h4 (byteN.1 (by rw [h]; rfl))
              by_cases h5 : x.toNat < 33 ∨ 126 < x.toNat
              · rw [if_pos h5] at hstep
                have HS : Hid (wordsOf src = (L ++ [⟨7, k, [], 0⟩]) ++ wordsAt src (k + 1)) := show _ = _ from by rw [HW.out, hstep]; simp
                clear hstep hwi h2 h3 h4
                rcases (show (x.toNat : Int) < 33 ∨ (¬ (x.toNat : Int) < 33 ∧ (126 : Int) < (x.toNat : Int)) by omega) with g | ⟨g, g'⟩
                all_goals
                  clear h5
                  go_wp2_with (at_builtin; refine wpList_append_any (by rfl) (.tmp 137) (.tmp 140) 40 (by rfl) w.heap.size 72 _ 4 40 Tryz.underlying40 infoWd (by rfl) (by omega) _ L.length _ (by rfl) (own_bel HR.out ((Below.refl _ _).alloc (Nat.le_refl _) _)) (some ⟨wr.heap.size, 0, none⟩) 1 1 (by rfl) (wdV ⟨7, k, [], 0⟩) (by rfl) (fun e => by cases e) (news_new _ _ _ _ rfl) (wdV_one _) (by unfold maxLen; omega) (by omega) (by simp; omega) ?_; intro a3 c3 w3 ho3 hg3 hl3)
                  have HB3 := hidX ((HB.out.alloc hsz _).grown hg3.out (by simp; omega) (fun j hj => (HR.out.lt j hj).1))
                  go_wp2
                  go_roundw
                  case rel => exact ⟨k + 1, L ++ [⟨7, k, [], 0⟩], a3, c3, by omega, by go_num, by simp, own_wds ho3.out rfl (by simp), by simp; omega, HS.out, HB3.out⟩
                  case measure => (simp [intOf]; omega)
              · rw [if_neg h5] at hstep
                have HST := hidX hstep
                have g1 : ¬ (x.toNat : Int) < 33 := by omega
                have g2 : ¬ (126 : Int) < (x.toNat : Int) := by omega
                have hw0 : wordB x = true := wordB_of h2 h3 h4 h5
                have HW0 : Hid (∀ z, src[k]? = some z → wordB z = true) := fun z hz => by
                  rw [HX.out] at hz
                  injection hz with hz
                  subst hz
                  exact hw0
                clear hstep hwi h2 h3 h4 h5 hw0
                obtain ⟨wo, hwo⟩ : ∃ u, u = wr := ⟨wr, rfl⟩
                rw [← hwo] at HR HB hsz hc ⊢
                have hHV := HV.out.below HB.out
                clear hwo
                go_wp2
                go_loopw [4] (fun iv wq => ∃ j : Nat, k ≤ j ∧ j ≤ src.length ∧ iv = .int .i64 (j : Int) ∧ (∀ i z, k ≤ i → i < j → src[i]? = some z → wordB z = true) ∧ wq = wo) (fun iv _ => src.length - (intOf iv).toNat)
                case atStart => exact ⟨k, Nat.le_refl _, by omega, rfl, fun i z h1 h2 => by omega, rfl⟩
                case round =>
                  obtain ⟨j, hkj, hj, rfl, hal, rfl⟩ := hrel
                  have HAL := hidX hal
                  clear hal hc
                  by_cases hjl : j < src.length
                  · obtain ⟨z, hz⟩ : ∃ z, src[j]? = some z := ⟨src[j], by simp [hjl]⟩
                    obtain ⟨b2, o2, ea, _, hcz⟩ := hHV j z hz
                    simp only [Option.some.injEq, Addr.mk.injEq, and_true] at ea
                    obtain ⟨rfl, rfl⟩ := ea
                    have j0 : (0 : Int) ≤ (j : Int) := by omega
                    have j1 : (j : Int) < (src.length : Int) := by omega
                    have hzi := word_int z
                    by_cases hzw : wordB z = true
                    · obtain ⟨q1, q2, q3, q4, q5⟩ := hzi.1 hzw
                      have r3 := beqF q3
                      have r4 := beqF q4
                      have r5 := beqF q5
                      have r3' : ((z.toNat : Int) != 40) = true := by simpa using q3
                      have r4' : ((z.toNat : Int) != 41) = true := by simpa using q4
                      have r5' : ((z.toNat : Int) != 59) = true := by simpa using q5
                      have HA2 : Hid (∀ i y, k ≤ i → i < j + 1 → src[i]? = some y → wordB y = true) := fun i y h1 h2 hy => by
                        rcases Nat.lt_or_ge i j with h | h
                        · exact HAL.out i y h1 h hy
                        · obtain rfl : i = j := by omega
                          rw [hz] at hy
                          injection hy with hy
                          subst hy
                          exact hzw
                      clear hzi hzw hz q3 q4 q5
                      go_wp2
                      go_roundw
                      case rel => exact ⟨j + 1, by omega, by omega, by go_num, HA2.out, (by first | rfl | trivial)⟩
                      case measure => (simp [intOf]; omega)
                    · have hzf : wordB z = false := by simpa using hzw
                      obtain ⟨hRN1, hRN2⟩ := run_at hkj hj HAL.out (fun y hy => by rw [hz] at hy; injection hy with hy; subst hy; exact hzf)
                      have hkj1 : k < j := by
                        rcases Nat.lt_or_ge k j with h | h
                        · exact h
                        · obtain rfl : k = j := by omega
                          have := HW0.out z hz
                          rw [hzf] at this
                          cases this
                      have hq : ¬ (32 : Int) < (z.toNat : Int) ∨ ((32 : Int) < (z.toNat : Int) ∧ ¬ (z.toNat : Int) < 127) ∨ ((32 : Int) < (z.toNat : Int) ∧ (z.toNat : Int) < 127 ∧ (z.toNat : Int) = 40) ∨ ((32 : Int) < (z.toNat : Int) ∧ (z.toNat : Int) < 127 ∧ (z.toNat : Int) = 41) ∨ ((32 : Int) < (z.toNat : Int) ∧ (z.toNat : Int) < 127 ∧ (z.toNat : Int) = 59) := by
                        have hnw : ¬ ((32 : Int) < (z.toNat : Int) ∧ (z.toNat : Int) < 127 ∧ ¬ (z.toNat : Int) = 40 ∧ ¬ (z.toNat : Int) = 41 ∧ ¬ (z.toNat : Int) = 59) := fun h => hzw (hzi.2 h)
                        omega
                      have HRN1 := hidX hRN1
                      have HRN2 := hidX hRN2
                      clear hzi hzw hzf hz hRN1 hRN2
                      rcases hq with q1 | ⟨q1, q2⟩ | ⟨q1, q2, q3⟩ | ⟨q1, q2, q3⟩ | ⟨q1, q2, q3⟩
                      all_goals
                        try (rw [q3] at hcz; clear q3)
                        have HTX : Hid (wordsOf src = (L ++ [⟨mkind ((src.drop k).take (j - k)), k, (src.drop k).take (j - k), mnum ((src.drop k).take (j - k))⟩]) ++ wordsAt src j) := show _ = _ from by rw [HW.out, HST.out, HRN1.out, HRN2.out]; simp
                        obtain ⟨T, hT⟩ : ∃ T, T = (src.drop k).take (j - k) := ⟨_, rfl⟩
                        have hTl : T.length = j - k := by rw [hT, List.length_take, List.length_drop]; omega
                        have hcv := conv_word src wr b o (c - k) k j hHV hkj hj
                        rw [← hT] at HTX hcv
                        have s1 : (k : Int) ≤ (j : Int) := by omega
                        have s2 : (j : Int) ≤ (c : Int) := by omega
                        have HLK := hidX (fun w' => l2Kind_any (mkS T) w' (by rw [mkS_size]; omega) (by rw [mkS_size]; omega))
                        clear hT hHV
                        go_upto_region 9 with fail
                        refine lift_alloc ?_
                        intro wb hWb hqb
                        have hgl : wr.heap.size < wb.heap.size := lt_of_block' hqb
                        have d2 : wb.cell? ⟨wr.heap.size, 2, none⟩ = some (.string (mkS T)) := by simp [World.cell?, hqb]
                        have HQB := hidX hqb
                        clear hqb hcv
                        go_upto_region 10 with (go_at_call 33; refine (HLK.out _).mono ?_; rintro e w1 ⟨rfl, hb1⟩; rw [bs_mkS]; have hq1 := (hb1.block _ hgl).trans HQB.out; have p0 : w1.cell? ⟨wr.heap.size, 0, none⟩ = some (.int .i64 0) := (by simp [World.cell?, hq1]); have p3 : w1.cell? ⟨wr.heap.size, 3, none⟩ = some (.int .i64 0) := (by simp [World.cell?, hq1]); have z0 : w1.frozen? ⟨wr.heap.size, 0, none⟩ = false := (by simp [World.frozen?, hq1]); have z3 : w1.frozen? ⟨wr.heap.size, 3, none⟩ = false := (by simp [World.frozen?, hq1]))
                        refine lift_03 hq1 ?_
                        intro wt hqt hbt
                        have HWT := hidX (show Below wr.heap.size wr wt from hWb.trans ((hb1.mono hWb.size).trans hbt))
                        have hst := HWT.out.size
                        have t0 : wt.cell? ⟨wr.heap.size, 0, none⟩ = some (.int .i64 (mkind T)) := by simp [World.cell?, hqt]
                        have t1 : wt.cell? ⟨wr.heap.size, 1, none⟩ = some (.int .i64 (k : Int)) := by simp [World.cell?, hqt]
                        have t2 : wt.cell? ⟨wr.heap.size, 2, none⟩ = some (.string (mkS T)) := by simp [World.cell?, hqt]
                        have t3 : wt.cell? ⟨wr.heap.size, 3, none⟩ = some (.int .i64 (mnum T)) := by simp [World.cell?, hqt]
                        have hgt : wr.heap.size < wt.heap.size := lt_of_block' hqt
                        clear hqt hbt hq1 p0 p3 z0 z3 d2 hb1 hWb
                        go_wp2_with (at_builtin; refine wpList_append_any (by rfl) (.tmp 73) (.tmp 75) 40 (by rfl) w.heap.size 72 _ 4 40 Tryz.underlying40 infoWd (by rfl) (by omega) _ L.length _ (by rfl) (own_bel (own_bel HR.out HWT.out) ((Below.refl _ _).alloc (Nat.le_refl _) _)) (some ⟨wt.heap.size, 0, none⟩) 1 1 (by rfl) (wdV ⟨mkind T, k, T, mnum T⟩) (by rfl) (fun e => by cases e) (news_new _ _ _ _ rfl) (wdV_one _) (by unfold maxLen; omega) (by omega) (by simp; omega) ?_; intro a3 c3 w3 ho3 hg3 hl3)
                        have HB3 := hidX (((HB.out.trans (HWT.out.mono hsz)).alloc (by omega) _).grown hg3.out (by simp; omega) (fun q hq => (HR.out.lt q hq).1))
                        go_wp2
                        go_roundw
                        case rel => exact ⟨j, L ++ [⟨mkind T, k, T, mnum T⟩], a3, c3, hj, rfl, by simp, own_wds ho3.out rfl (by simp), by simp; omega, HTX.out, HB3.out⟩
                        case measure => (simp [intOf]; omega)
                  · obtain rfl : j = src.length := by omega
                    have j1 : ¬ (src.length : Int) < (src.length : Int) := by omega
                    obtain ⟨hRN1, hRN2⟩ := run_at hkj hj HAL.out (fun y hy => by rw [List.getElem?_eq_none (Nat.le_refl _)] at hy; cases hy)
                    have HRN1 := hidX hRN1
                    have HRN2 := hidX hRN2
                    have hkj1 : k < src.length := hkl
                    clear hRN1 hRN2
                    have HTX : Hid (wordsOf src = (L ++ [⟨mkind ((src.drop k).take (src.length - k)), k, (src.drop k).take (src.length - k), mnum ((src.drop k).take (src.length - k))⟩]) ++ wordsAt src src.length) := show _ = _ from by rw [HW.out, HST.out, HRN1.out, HRN2.out]; simp
                    obtain ⟨T, hT⟩ : ∃ T, T = (src.drop k).take (src.length - k) := ⟨_, rfl⟩
                    have hTl : T.length = src.length - k := by rw [hT, List.length_take, List.length_drop]; omega
                    have hcv := conv_word src wr b o (c - k) k src.length hHV hkj hj
                    rw [← hT] at HTX hcv
                    have s1 : (k : Int) ≤ (src.length : Int) := by omega
                    have s2 : (src.length : Int) ≤ (c : Int) := by omega
                    have HLK := hidX (fun w' => l2Kind_any (mkS T) w' (by rw [mkS_size]; omega) (by rw [mkS_size]; omega))
                    clear hT hHV
                    go_upto_region 9 with fail
                    refine lift_alloc ?_
                    intro wb hWb hqb
                    have hgl : wr.heap.size < wb.heap.size := lt_of_block' hqb
                    have d2 : wb.cell? ⟨wr.heap.size, 2, none⟩ = some (.string (mkS T)) := by simp [World.cell?, hqb]
                    have HQB := hidX hqb
                    clear hqb hcv
                    go_upto_region 10 with (go_at_call 33; refine (HLK.out _).mono ?_; rintro e w1 ⟨rfl, hb1⟩; rw [bs_mkS]; have hq1 := (hb1.block _ hgl).trans HQB.out; have p0 : w1.cell? ⟨wr.heap.size, 0, none⟩ = some (.int .i64 0) := (by simp [World.cell?, hq1]); have p3 : w1.cell? ⟨wr.heap.size, 3, none⟩ = some (.int .i64 0) := (by simp [World.cell?, hq1]); have z0 : w1.frozen? ⟨wr.heap.size, 0, none⟩ = false := (by simp [World.frozen?, hq1]); have z3 : w1.frozen? ⟨wr.heap.size, 3, none⟩ = false := (by simp [World.frozen?, hq1]))
                    refine lift_03 hq1 ?_
                    intro wt hqt hbt
                    have HWT := hidX (show Below wr.heap.size wr wt from hWb.trans ((hb1.mono hWb.size).trans hbt))
                    have hst := HWT.out.size
                    have t0 : wt.cell? ⟨wr.heap.size, 0, none⟩ = some (.int .i64 (mkind T)) := by simp [World.cell?, hqt]
                    have t1 : wt.cell? ⟨wr.heap.size, 1, none⟩ = some (.int .i64 (k : Int)) := by simp [World.cell?, hqt]
                    have t2 : wt.cell? ⟨wr.heap.size, 2, none⟩ = some (.string (mkS T)) := by simp [World.cell?, hqt]
                    have t3 : wt.cell? ⟨wr.heap.size, 3, none⟩ = some (.int .i64 (mnum T)) := by simp [World.cell?, hqt]
                    have hgt : wr.heap.size < wt.heap.size := lt_of_block' hqt
                    clear hqt hbt hq1 p0 p3 z0 z3 d2 hb1 hWb
                    go_wp2_with (at_builtin; refine wpList_append_any (by rfl) (.tmp 73) (.tmp 75) 40 (by rfl) w.heap.size 72 _ 4 40 Tryz.underlying40 infoWd (by rfl) (by omega) _ L.length _ (by rfl) (own_bel (own_bel HR.out HWT.out) ((Below.refl _ _).alloc (Nat.le_refl _) _)) (some ⟨wt.heap.size, 0, none⟩) 1 1 (by rfl) (wdV ⟨mkind T, k, T, mnum T⟩) (by rfl) (fun e => by cases e) (news_new _ _ _ _ rfl) (wdV_one _) (by unfold maxLen; omega) (by omega) (by simp; omega) ?_; intro a3 c3 w3 ho3 hg3 hl3)
                    have HB3 := hidX (((HB.out.trans (HWT.out.mono hsz)).alloc (by omega) _).grown hg3.out (by simp; omega) (fun q hq => (HR.out.lt q hq).1))
                    go_wp2
                    go_roundw
                    case rel => exact ⟨src.length, L ++ [⟨mkind T, k, T, mnum T⟩], a3, c3, hj, rfl, by simp, own_wds ho3.out rfl (by simp), by simp; omega, HTX.out, HB3.out⟩
                    case measure => (simp [intOf]; omega)
    · obtain rfl : k = src.length := by omega
      have k1 : ¬ (src.length : Int) < (src.length : Int) := by omega
      have HS : Hid (wordsOf src = L ++ [⟨0, src.length, [], 0⟩]) := show _ = _ from by rw [HW.out, wordsAt_end]
      go_wp2_with (at_builtin; refine wpList_append_any (by rfl) (.tmp 144) (.tmp 148) 40 (by rfl) w.heap.size 72 _ 4 40 Tryz.underlying40 infoWd (by rfl) (by omega) _ L.length _ (by rfl) (own_bel HR.out ((Below.refl _ _).alloc (Nat.le_refl _) _)) (some ⟨wr.heap.size, 0, none⟩) 1 1 (by rfl) (wdV ⟨0, src.length, [], 0⟩) (by rfl) (fun e => by cases e) (news_new _ _ _ _ rfl) (wdV_one _) (by unfold maxLen; omega) (by omega) (by simp; omega) ?_; intro a3 c3 w3 ho3 hg3 hl3)
      have HB3 := hidX ((HB.out.alloc hsz _).grown hg3.out (by simp; omega) (fun j hj => (HR.out.lt j hj).1))
      go_wp2
      go_ret
      have e : (wordsOf src).length = L.length + 1 := by rw [HS.out]; simp
      exact ⟨⟨a3, c3, by rw [e]; rfl, own_wds ho3.out HS.out e⟩, HB3.out⟩
end Go.Proofs.YtdhpoagjmiligaaGreatDoor
