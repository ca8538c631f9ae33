/-
  OUR OWN TEXT. The model's words: their kinds.
-/
import Derived.Test.YtdhpoagjmiligaaGreatDoorKan
import Derived.Test.YtdhpoagjmiligaaGreatDoorKao
import Derived.Deep.DeepCutAuto
namespace Go.Proofs.YtdhpoagjmiligaaGreatDoor
open Go.RowKit
attribute [local go_sem ↓] Go.wp_at_zero Go.wp_at_succ

def arTx : List Bs := [[43], [45], [42], [47], [37]]
def isVarW (s : Bs) : Bool := decide (s.head? = some 63) && gSym s.tail
def isOtherW (s : Bs) : Bool := decide (s = [95]) || (decide (s = [61, 62]) || (decide (s ∈ opTx) || decide (s ∈ arTx)))
/-- A word's kind, as the model counts it. -/
def mkind (s : Bs) : Int := if (numOf s).isSome then 3 else if isVarW s then 4 else if gSym s then 5 else if isOtherW s then 6 else 8
def mnum (s : Bs) : Int := (numOf s).getD 0
theorem StrsAt.of {w : World} {g o : Nat} {l : List Bs} (h : ∀ (j : Nat) x, l[j]? = some x → w.cell? ⟨g, o + j, none⟩ = some (.string (mkS x))) : StrsAt none w (some ⟨g, o, none⟩) (l.map mkS) := by
  intro i x hx
  rw [List.getElem?_map] at hx
  obtain ⟨y, hy, rfl⟩ := Option.map_eq_some_iff.1 hx
  refine ⟨g, o, [.string (mkS y)], rfl, Qb.bare _ _ _, rfl, ?_, rfl⟩
  intro j v hj
  have hj0 : j = 0 := by
    have := (List.getElem?_eq_some_iff.1 hj).1
    simp at this
    exact this
  subst hj0
  simp at hj
  subst hj
  simpa using h i y hy
theorem memB_map (s : ByteArray) (l : List Bs) : memB s (l.map mkS) = decide (bsOf s ∈ l) := by
  induction l with
  | nil => rfl
  | cons x r ih =>
    have h1 : memB s ((x :: r).map mkS) = (decide (mkS x = s) || memB s (r.map mkS)) := rfl
    rw [h1, ih]
    by_cases h : mkS x = s
    · have : bsOf s = x := by rw [← h]; rfl
      simp [h, this]
    · have : ¬ bsOf s = x := fun e => h (by rw [← e, mkS_bs])
      simp [h, this]
theorem TestsAt.strs {w : World} {g : Nat} (h : TestsAt w g 0) : StrsAt none w (some ⟨g, 0, none⟩) (opTx.map mkS) :=
  StrsAt.of fun j x hx => by
    have hj : j < 6 := (List.getElem?_eq_some_iff.1 hx).1
    have := h j hj
    rw [List.getD, hx] at this
    exact this
theorem ariths_strs (w : World) : StrsAt none (w.alloc (.cells #[.string ⟨#[43]⟩, .string ⟨#[45]⟩, .string ⟨#[42]⟩, .string ⟨#[47]⟩, .string ⟨#[37]⟩] 9)) (some ⟨w.heap.size, 0, none⟩) (arTx.map mkS) :=
  StrsAt.of fun j x hx => by
    have hj : j < 5 := (List.getElem?_eq_some_iff.1 hx).1
    rcases (show j = 0 ∨ j = 1 ∨ j = 2 ∨ j = 3 ∨ j = 4 by omega) with rfl | rfl | rfl | rfl | rfl <;> (cases hx; simp [go_sem]; rfl)
theorem byte63 {b : UInt8} : ((b.toNat : Int) = 63) ↔ b = 63 := by
  constructor
  · intro h
    exact UInt8.toNat_inj.1 (by have : (63 : UInt8).toNat = 63 := rfl; omega)
  · rintro rfl
    rfl
theorem beq_lit (s : ByteArray) (l : Bs) : (s.toList == l) = decide (bsOf s = l) := by
  rw [ByteArray.toList_eq]
  by_cases h : bsOf s = l
  · rw [decide_eq_true h]
    exact beq_iff_eq.2 h
  · rw [decide_eq_false h]
    exact beq_eq_false_iff_ne.2 h

theorem IPost.got {s : Bs} {w w' : World} {e : Ending} {n : Int} (h : IPost s w e w') (hn : numOf s = some n) : e = .returned (.tuple #[.int .i64 n, .bool true]) ∧ Below w.heap.size w w' := by
  obtain ⟨m, b, rfl, hmb, hb⟩ := h
  rw [hn] at hmb
  cases b with
  | true =>
    have : n = m := by simpa using hmb
    subst this
    exact ⟨rfl, hb⟩
  | false => cases hmb
theorem IPost.not {s : Bs} {w w' : World} {e : Ending} (h : IPost s w e w') (hn : numOf s = none) : ∃ m, e = .returned (.tuple #[.int .i64 m, .bool false]) ∧ Below w.heap.size w w' := by
  obtain ⟨m, b, rfl, hmb, hb⟩ := h
  rw [hn] at hmb
  cases b with
  | true => cases hmb
  | false => exact ⟨m, rfl, hb⟩

set_option maxHeartbeats 3200000 in
theorem l2Kind_any (s : ByteArray) (w : World) (hs : s.size ≤ 20000) (h0 : 0 < s.size) : Calls Tryz.prog 33 #[.string s] w fun e w' => e = .returned (.tuple #[.int .i64 (mkind (bsOf s)), .int .i64 (mnum (bsOf s))]) ∧ Below w.heap.size w w' := by
  have hsm : s.size ≤ maxLen := by unfold maxLen; omega
  have i0 : (0 : Int) < (s.size : Int) := by omega
  have i1 : (1 : Int) ≤ (s.size : Int) := by omega
  have HI := hidX (l2Int_any s w hs)
  cases hn : numOf (bsOf s) with
  | some n =>
    have HK : Hid (mkind (bsOf s) = 3 ∧ mnum (bsOf s) = n) := show _ ∧ _ from by simp [mkind, mnum, hn]
    have HN := hidX hn
    clear hn
    go_enter Tryz.func33, Tryz.ntmps33
    go_wp2_with (go_at_call 66; refine HI.out.mono ?_; intro e w1 hp; obtain ⟨rfl, hb1⟩ := hp.got HN.out; clear hp)
    go_ret2
    exact ⟨by rw [HK.out.1, HK.out.2]; rfl, hb1⟩
  | none =>
    have HM : Hid (mnum (bsOf s) = 0) := show _ = _ from by simp [mnum, hn]
    have HN := hidX hn
    by_cases hv : isVarW (bsOf s) = true
    · have HK : Hid (mkind (bsOf s) = 4) := show _ = _ from by simp [mkind, hn, hv]
      have hv' := hv
      unfold isVarW at hv'
      simp only [Bool.and_eq_true, decide_eq_true_eq] at hv'
      have h63 : (s[0].toNat : Int) = 63 := by
        have := hv'.1
        rw [bs_head s h0] at this
        exact byte63.2 (by injection this)
      have HG : Hid (∀ w', Calls Tryz.prog 67 #[.string (s.extract 1 s.size)] w' fun e w'' => e = .returned (.bool true) ∧ w'' = w') := fun w' => by
        have h1 := l1GoodSym_any (s.extract 1 s.size) w' (by unfold maxLen; simp; omega)
        have e : (s.extract 1 s.size).data.toList = (bsOf s).tail := bs_extract s h0
        rw [e, hv'.2] at h1
        exact h1
      clear hn hv hv'
      go_enter Tryz.func33, Tryz.ntmps33
      go_wp2_with (first | (go_at_call 66; refine HI.out.mono ?_; intro e w1 hp; obtain ⟨m, rfl, hb1⟩ := hp.not HN.out; clear hp) | (go_at_call 67; refine (HG.out _).mono ?_; rintro e w2 ⟨rfl, rfl⟩))
      go_ret2
      exact ⟨by rw [HK.out, HM.out]; rfl, hb1⟩
    · have hvf : isVarW (bsOf s) = false := by simpa using hv
      have HGS : Hid (∀ w', Calls Tryz.prog 67 #[.string s] w' fun e w'' => e = .returned (.bool (gSym (bsOf s))) ∧ w'' = w') := fun w' => l1GoodSym_any s w' hsm
      have HG : Hid (∀ w', Calls Tryz.prog 67 #[.string (s.extract 1 s.size)] w' fun e w'' => e = .returned (.bool (gSym (bsOf s).tail)) ∧ w'' = w') := fun w' => by
        have h1 := l1GoodSym_any (s.extract 1 s.size) w' (by unfold maxLen; simp; omega)
        have e : (s.extract 1 s.size).data.toList = (bsOf s).tail := bs_extract s h0
        rw [e] at h1
        exact h1
      have HQ : Hid ((s[0].toNat : Int) = 63 → gSym (bsOf s).tail = false) := fun h => by
        unfold isVarW at hvf
        rw [bs_head s h0, byte63.1 h] at hvf
        simpa using hvf
      have HKG : Hid (mkind (bsOf s) = if gSym (bsOf s) then 5 else if isOtherW (bsOf s) then 6 else 8) := show _ = _ from by simp [mkind, hn, hvf]
      clear hn hv hvf
      obtain ⟨tg, htg⟩ : ∃ b, b = gSym (bsOf s).tail := ⟨_, rfl⟩
      rw [← htg] at HG HQ
      clear htg
      cases hg : gSym (bsOf s)
      · rw [hg] at HGS HKG
        have HKO : Hid (mkind (bsOf s) = if isOtherW (bsOf s) then 6 else 8) := HKG.out
        clear hg HKG
        have HT : Hid (∀ (w' : World) (g : Nat), TestsAt w' g 0 → Calls Tryz.prog 68 #[.string s, .slice (some ⟨g, 0, none⟩) 6 6] w' fun e w'' => e = .returned (.bool (decide (bsOf s ∈ opTx))) ∧ w'' = w') := fun w' g h => by rw [← memB_map]; exact l2Is_any s (some ⟨g, 0, none⟩) 6 (opTx.map mkS) w' h.strs (by decide)
        have HR : Hid (∀ (w' : World), Calls Tryz.prog 68 #[.string s, .slice (some ⟨w'.heap.size, 0, none⟩) 5 5] (w'.alloc (.cells #[.string ⟨#[43]⟩, .string ⟨#[45]⟩, .string ⟨#[42]⟩, .string ⟨#[47]⟩, .string ⟨#[37]⟩] 9)) fun e w'' => e = .returned (.bool (decide (bsOf s ∈ arTx))) ∧ w'' = (w'.alloc (.cells #[.string ⟨#[43]⟩, .string ⟨#[45]⟩, .string ⟨#[42]⟩, .string ⟨#[47]⟩, .string ⟨#[37]⟩] 9))) := fun w' => by rw [← memB_map]; exact l2Is_any s (some ⟨w'.heap.size, 0, none⟩) 5 (arTx.map mkS) _ (ariths_strs w') (by decide)
        have e95 := beq_lit s [95]
        have eTh := beq_lit s [61, 62]
        by_cases h63 : (s[0].toNat : Int) = 63
        · have := HQ.out h63
          subst this
          by_cases hA : bsOf s = [95]
          · have HO : Hid (isOtherW (bsOf s) = true) := show _ = _ from by simp [isOtherW, hA]
            rw [decide_eq_true hA] at e95
            clear hA eTh
            go_enter Tryz.func33, Tryz.ntmps33
            go_upto_region 6 with (first | (go_at_call 66; refine HI.out.mono ?_; intro e w1 hp; obtain ⟨m, rfl, hb1⟩ := hp.not HN.out; clear hp) | (go_at_call 67; refine (HG.out _).mono ?_; rintro e w2 ⟨rfl, rfl⟩))
            go_upto_region 8 with (go_at_call 67; refine (HGS.out _).mono ?_; rintro e w2 ⟨rfl, rfl⟩)
            go_wp2
            go_ret2
            exact ⟨by rw [HKO.out, HM.out, HO.out]; rfl, hb1⟩
          rw [decide_eq_false hA] at e95
          by_cases hB : bsOf s = [61, 62]
          · have HO : Hid (isOtherW (bsOf s) = true) := show _ = _ from by simp [isOtherW, hB]
            rw [decide_eq_true hB] at eTh
            clear hA hB
            go_enter Tryz.func33, Tryz.ntmps33
            go_upto_region 6 with (first | (go_at_call 66; refine HI.out.mono ?_; intro e w1 hp; obtain ⟨m, rfl, hb1⟩ := hp.not HN.out; clear hp) | (go_at_call 67; refine (HG.out _).mono ?_; rintro e w2 ⟨rfl, rfl⟩))
            go_upto_region 8 with (go_at_call 67; refine (HGS.out _).mono ?_; rintro e w2 ⟨rfl, rfl⟩)
            go_wp2
            go_ret2
            exact ⟨by rw [HKO.out, HM.out, HO.out]; rfl, hb1⟩
          rw [decide_eq_false hB] at eTh
          by_cases hC : bsOf s ∈ opTx
          · have HO : Hid (isOtherW (bsOf s) = true) := show _ = _ from by simp [isOtherW, hC]
            rw [decide_eq_true hC] at HT
            clear hA hB hC
            go_enter Tryz.func33, Tryz.ntmps33
            go_upto_region 6 with (first | (go_at_call 66; refine HI.out.mono ?_; intro e w1 hp; obtain ⟨m, rfl, hb1⟩ := hp.not HN.out; clear hp) | (go_at_call 67; refine (HG.out _).mono ?_; rintro e w2 ⟨rfl, rfl⟩))
            go_upto_region 8 with (go_at_call 67; refine (HGS.out _).mono ?_; rintro e w2 ⟨rfl, rfl⟩)
            go_wp2_with (first | (go_at_call 69; refine (l2Tests_txt _).mono ?_; rintro e w3 ⟨rfl, ht3, hb3⟩) | (go_at_call 68; refine (HT.out _ _ ht3).mono ?_; rintro e w4 ⟨rfl, rfl⟩))
            go_ret2
            exact ⟨by rw [HKO.out, HM.out, HO.out]; rfl, hb1.trans (hb3.mono hb1.size)⟩
          rw [decide_eq_false hC] at HT
          by_cases hD : bsOf s ∈ arTx
          · have HO : Hid (isOtherW (bsOf s) = true) := show _ = _ from by simp [isOtherW, hD]
            rw [decide_eq_true hD] at HR
            clear hA hB hC hD
            go_enter Tryz.func33, Tryz.ntmps33
            go_upto_region 6 with (first | (go_at_call 66; refine HI.out.mono ?_; intro e w1 hp; obtain ⟨m, rfl, hb1⟩ := hp.not HN.out; clear hp) | (go_at_call 67; refine (HG.out _).mono ?_; rintro e w2 ⟨rfl, rfl⟩))
            go_upto_region 8 with (go_at_call 67; refine (HGS.out _).mono ?_; rintro e w2 ⟨rfl, rfl⟩)
            go_wp2_with (first | (go_at_call 69; refine (l2Tests_txt _).mono ?_; rintro e w3 ⟨rfl, ht3, hb3⟩) | (go_at_call 68; first | (with_reducible refine (HT.out _ _ ht3).mono ?_; rintro e w4 ⟨rfl, rfl⟩) | (with_reducible refine (HR.out _).mono ?_; rintro e w4 ⟨rfl, rfl⟩)) | (go_at_call 70; refine (l2Ariths_any _).mono ?_; rintro e w5 ⟨rfl, rfl⟩))
            go_ret2
            exact ⟨by rw [HKO.out, HM.out, HO.out]; rfl, hb1.trans ((hb3.alloc hb3.size _).mono hb1.size)⟩
          · have HO : Hid (isOtherW (bsOf s) = false) := show _ = _ from by simp [isOtherW, hA, hB, hC, hD]
            rw [decide_eq_false hD] at HR
            clear hA hB hC hD
            go_enter Tryz.func33, Tryz.ntmps33
            go_upto_region 6 with (first | (go_at_call 66; refine HI.out.mono ?_; intro e w1 hp; obtain ⟨m, rfl, hb1⟩ := hp.not HN.out; clear hp) | (go_at_call 67; refine (HG.out _).mono ?_; rintro e w2 ⟨rfl, rfl⟩))
            go_upto_region 8 with (go_at_call 67; refine (HGS.out _).mono ?_; rintro e w2 ⟨rfl, rfl⟩)
            go_wp2_with (first | (go_at_call 69; refine (l2Tests_txt _).mono ?_; rintro e w3 ⟨rfl, ht3, hb3⟩) | (go_at_call 68; first | (with_reducible refine (HT.out _ _ ht3).mono ?_; rintro e w4 ⟨rfl, rfl⟩) | (with_reducible refine (HR.out _).mono ?_; rintro e w4 ⟨rfl, rfl⟩)) | (go_at_call 70; refine (l2Ariths_any _).mono ?_; rintro e w5 ⟨rfl, rfl⟩))
            go_ret2
            exact ⟨by rw [HKO.out, HM.out, HO.out]; rfl, hb1.trans ((hb3.alloc hb3.size _).mono hb1.size)⟩
        · by_cases hA : bsOf s = [95]
          · have HO : Hid (isOtherW (bsOf s) = true) := show _ = _ from by simp [isOtherW, hA]
            rw [decide_eq_true hA] at e95
            clear hA eTh
            go_enter Tryz.func33, Tryz.ntmps33
            go_upto_region 8 with (first | (go_at_call 66; refine HI.out.mono ?_; intro e w1 hp; obtain ⟨m, rfl, hb1⟩ := hp.not HN.out; clear hp) | (go_at_call 67; refine (HGS.out _).mono ?_; rintro e w2 ⟨rfl, rfl⟩))
            go_wp2
            go_ret2
            exact ⟨by rw [HKO.out, HM.out, HO.out]; rfl, hb1⟩
          rw [decide_eq_false hA] at e95
          by_cases hB : bsOf s = [61, 62]
          · have HO : Hid (isOtherW (bsOf s) = true) := show _ = _ from by simp [isOtherW, hB]
            rw [decide_eq_true hB] at eTh
            clear hA hB
            go_enter Tryz.func33, Tryz.ntmps33
            go_upto_region 8 with (first | (go_at_call 66; refine HI.out.mono ?_; intro e w1 hp; obtain ⟨m, rfl, hb1⟩ := hp.not HN.out; clear hp) | (go_at_call 67; refine (HGS.out _).mono ?_; rintro e w2 ⟨rfl, rfl⟩))
            go_wp2
            go_ret2
            exact ⟨by rw [HKO.out, HM.out, HO.out]; rfl, hb1⟩
          rw [decide_eq_false hB] at eTh
          by_cases hC : bsOf s ∈ opTx
          · have HO : Hid (isOtherW (bsOf s) = true) := show _ = _ from by simp [isOtherW, hC]
            rw [decide_eq_true hC] at HT
            clear hA hB hC
            go_enter Tryz.func33, Tryz.ntmps33
            go_upto_region 8 with (first | (go_at_call 66; refine HI.out.mono ?_; intro e w1 hp; obtain ⟨m, rfl, hb1⟩ := hp.not HN.out; clear hp) | (go_at_call 67; refine (HGS.out _).mono ?_; rintro e w2 ⟨rfl, rfl⟩))
            go_wp2_with (first | (go_at_call 69; refine (l2Tests_txt _).mono ?_; rintro e w3 ⟨rfl, ht3, hb3⟩) | (go_at_call 68; refine (HT.out _ _ ht3).mono ?_; rintro e w4 ⟨rfl, rfl⟩))
            go_ret2
            exact ⟨by rw [HKO.out, HM.out, HO.out]; rfl, hb1.trans (hb3.mono hb1.size)⟩
          rw [decide_eq_false hC] at HT
          by_cases hD : bsOf s ∈ arTx
          · have HO : Hid (isOtherW (bsOf s) = true) := show _ = _ from by simp [isOtherW, hD]
            rw [decide_eq_true hD] at HR
            clear hA hB hC hD
            go_enter Tryz.func33, Tryz.ntmps33
            go_upto_region 8 with (first | (go_at_call 66; refine HI.out.mono ?_; intro e w1 hp; obtain ⟨m, rfl, hb1⟩ := hp.not HN.out; clear hp) | (go_at_call 67; refine (HGS.out _).mono ?_; rintro e w2 ⟨rfl, rfl⟩))
            go_wp2_with (first | (go_at_call 69; refine (l2Tests_txt _).mono ?_; rintro e w3 ⟨rfl, ht3, hb3⟩) | (go_at_call 68; first | (with_reducible refine (HT.out _ _ ht3).mono ?_; rintro e w4 ⟨rfl, rfl⟩) | (with_reducible refine (HR.out _).mono ?_; rintro e w4 ⟨rfl, rfl⟩)) | (go_at_call 70; refine (l2Ariths_any _).mono ?_; rintro e w5 ⟨rfl, rfl⟩))
            go_ret2
            exact ⟨by rw [HKO.out, HM.out, HO.out]; rfl, hb1.trans ((hb3.alloc hb3.size _).mono hb1.size)⟩
          · have HO : Hid (isOtherW (bsOf s) = false) := show _ = _ from by simp [isOtherW, hA, hB, hC, hD]
            rw [decide_eq_false hD] at HR
            clear hA hB hC hD
            go_enter Tryz.func33, Tryz.ntmps33
            go_upto_region 8 with (first | (go_at_call 66; refine HI.out.mono ?_; intro e w1 hp; obtain ⟨m, rfl, hb1⟩ := hp.not HN.out; clear hp) | (go_at_call 67; refine (HGS.out _).mono ?_; rintro e w2 ⟨rfl, rfl⟩))
            go_wp2_with (first | (go_at_call 69; refine (l2Tests_txt _).mono ?_; rintro e w3 ⟨rfl, ht3, hb3⟩) | (go_at_call 68; first | (with_reducible refine (HT.out _ _ ht3).mono ?_; rintro e w4 ⟨rfl, rfl⟩) | (with_reducible refine (HR.out _).mono ?_; rintro e w4 ⟨rfl, rfl⟩)) | (go_at_call 70; refine (l2Ariths_any _).mono ?_; rintro e w5 ⟨rfl, rfl⟩))
            go_ret2
            exact ⟨by rw [HKO.out, HM.out, HO.out]; rfl, hb1.trans ((hb3.alloc hb3.size _).mono hb1.size)⟩
      · rw [hg] at HGS HKG
        have HK : Hid (mkind (bsOf s) = 5) := HKG.out
        clear hg HKG
        by_cases h63 : (s[0].toNat : Int) = 63
        · have := HQ.out h63
          subst this
          go_enter Tryz.func33, Tryz.ntmps33
          go_upto_region 6 with (first | (go_at_call 66; refine HI.out.mono ?_; intro e w1 hp; obtain ⟨m, rfl, hb1⟩ := hp.not HN.out; clear hp) | (go_at_call 67; refine (HG.out _).mono ?_; rintro e w2 ⟨rfl, rfl⟩))
          go_wp2_with (go_at_call 67; refine (HGS.out _).mono ?_; rintro e w2 ⟨rfl, rfl⟩)
          go_ret2
          exact ⟨by rw [HK.out, HM.out]; rfl, hb1⟩
        · go_enter Tryz.func33, Tryz.ntmps33
          go_wp2_with (first | (go_at_call 66; refine HI.out.mono ?_; intro e w1 hp; obtain ⟨m, rfl, hb1⟩ := hp.not HN.out; clear hp) | (go_at_call 67; refine (HGS.out _).mono ?_; rintro e w2 ⟨rfl, rfl⟩))
          go_ret2
          exact ⟨by rw [HK.out, HM.out]; rfl, hb1⟩
end Go.Proofs.YtdhpoagjmiligaaGreatDoor
