/-
  OUR OWN TEXT. The program's side of the checker: terms and patterns.
-/
import Derived.Test.YtpiglmkpmlogjaaChk
import Derived.Test.YtpiglmkpmlogjaaIm10
import Derived.Test.YtpiglmkpmlogjaaSp20
namespace Go.Proofs.Ytpiglmkpmlogjaa
open Go.RowKit
attribute [local go_sem ↓] Go.wp_at_zero Go.wp_at_succ

set_option maxHeartbeats 800000 in
theorem rightOperand_any (t : Tm) (w : World) (hs : t.le maxLen) :
    Calls Try.prog 208 #[.agg #[.int .i64 t.kind, .int .i64 t.op, .string t.var, .int .i64 t.val.kind, .int .i64 t.val.num, .string t.val.sym]] w fun e w' =>
      e = .returned (.bool (operandOk t)) ∧ Below w.heap.size w w' := by
  obtain ⟨hs1, hs2⟩ := hs
  have B1 : ∀ o, Below w.heap.size w (w.alloc o) := fun o => (Below.refl _ _).alloc (Nat.le_refl _) _
  obtain ⟨G⟩ : Nonempty (Hid (operandOk t = ((t.var.toList.isEmpty && gVal t.val) || (gSym t.var.data.toList && zeroV t.val)))) := ⟨rfl⟩
  cases h1 : t.var.toList.isEmpty
  · cases h4 : gSym t.var.data.toList
    · go_enter Try.func208, Try.ntmps208
      go_wp2_with (go_at_call 189; refine (goodSymbol_any t.var _ hs1).mono ?_; rintro e w' ⟨rfl, rfl⟩)
      go_ret
      exact ⟨ret_bool (by rw [G.out, h1, h4]; rfl), B1 _⟩
    · go_enter Try.func208, Try.ntmps208
      go_wp2_with (go_at_call 189; refine (goodSymbol_any t.var _ hs1).mono ?_; rintro e w' ⟨rfl, rfl⟩)
      all_goals go_ret
      all_goals exact ⟨ret_bool (by rw [G.out, h1, h4]; simp [zeroV, isE, *]), (Below.refl _ _).alloc (Nat.le_refl _) _⟩
  · have h4 : gSym t.var.data.toList = false := gSym_short (by
      have : t.var.toList = [] := by simpa using h1
      rw [← ByteArray.toList_eq, this]
      rfl)
    go_enter Try.func208, Try.ntmps208
    go_wp2_with (go_at_call 207; refine (valGood_any t.val _ hs2).mono ?_; rintro e w' ⟨rfl, hb'⟩)
    go_ret
    exact ⟨ret_bool (by rw [G.out, h1, h4]; simp), (B1 _).trans (hb'.mono (by simp))⟩

theorem notB_list' : notB.toList = [110, 111, 116] := by rw [ByteArray.toList_eq]; rfl

set_option maxHeartbeats 400000 in
theorem goodClass_any (s : ByteArray) (w : World) (hs : s.size ≤ maxLen) :
    Calls Try.prog 170 #[.string s] w fun e w' => e = .returned (.bool (gCls s)) ∧ w' = w := by
  cases h1 : gSym s.data.toList
  all_goals
    go_enter Try.func170, Try.ntmps170
    go_wp2_with (go_at_call 189; refine (goodSymbol_any s _ hs).mono ?_; rintro e w' ⟨rfl, rfl⟩)
    go_ret
  · exact ⟨ret_bool (by simp [gCls, h1]), rfl⟩
  · exact ⟨ret_bool (by rw [gCls, h1, ← bytes_beq, notB_list']; rfl), rfl⟩

set_option maxHeartbeats 400000 in
theorem termRight_any (t : Tm) (w : World) (hs : t.le maxLen) :
    Calls Try.prog 171 #[.agg #[.int .i64 t.kind, .int .i64 t.op, .string t.var, .int .i64 t.val.kind, .int .i64 t.val.num, .string t.val.sym]] w fun e w' =>
      e = .returned (.bool (gTm t)) ∧ Below w.heap.size w w' := by
  have hs0 := hs
  obtain ⟨hs1, hs2⟩ := hs
  have B1 : ∀ o, Below w.heap.size w (w.alloc o) := fun o => (Below.refl _ _).alloc (Nat.le_refl _) _
  by_cases k0 : t.kind = 0
  · go_enter Try.func171, Try.ntmps171
    go_wp2
    all_goals go_ret
    all_goals exact ⟨ret_bool (by simp [gTm, zeroV, isE, *]), (Below.refl _ _).alloc (Nat.le_refl _) _⟩
  by_cases k1 : t.kind = 1
  · by_cases o0 : t.op = 0
    · by_cases v0 : t.var.toList = []
      · go_enter Try.func171, Try.ntmps171
        go_wp2_with (go_at_call 207; refine (valGood_any t.val _ hs2).mono ?_; rintro e w' ⟨rfl, hb'⟩)
        go_ret
        exact ⟨ret_bool (by simp [gTm, isE, *]), (B1 _).trans (hb'.mono (by simp))⟩
      · go_enter Try.func171, Try.ntmps171
        go_wp2
        go_ret
        exact ⟨ret_bool (by simp [gTm, isE, *]), (Below.refl _ _).alloc (Nat.le_refl _) _⟩
    · go_enter Try.func171, Try.ntmps171
      go_wp2
      go_ret
      exact ⟨ret_bool (by simp [gTm, isE, *]), (Below.refl _ _).alloc (Nat.le_refl _) _⟩
  by_cases k2 : t.kind = 2
  · by_cases o0 : t.op = 0
    · by_cases z0 : t.val.kind = 0
      · by_cases z1 : t.val.num = 0
        · by_cases z2 : t.val.sym.toList = []
          · go_enter Try.func171, Try.ntmps171
            go_wp2_with (go_at_call 189; refine (goodSymbol_any t.var _ hs1).mono ?_; rintro e w' ⟨rfl, rfl⟩)
            go_ret
            exact ⟨ret_bool (by simp [gTm, zeroV, isE, *]), (Below.refl _ _).alloc (Nat.le_refl _) _⟩
          · go_enter Try.func171, Try.ntmps171
            go_wp2
            go_ret
            exact ⟨ret_bool (by simp [gTm, zeroV, isE, *]), (Below.refl _ _).alloc (Nat.le_refl _) _⟩
        · go_enter Try.func171, Try.ntmps171
          go_wp2
          go_ret
          exact ⟨ret_bool (by simp [gTm, zeroV, isE, *]), (Below.refl _ _).alloc (Nat.le_refl _) _⟩
      · go_enter Try.func171, Try.ntmps171
        go_wp2
        go_ret
        exact ⟨ret_bool (by simp [gTm, zeroV, isE, *]), (Below.refl _ _).alloc (Nat.le_refl _) _⟩
    · go_enter Try.func171, Try.ntmps171
      go_wp2
      go_ret
      exact ⟨ret_bool (by simp [gTm, zeroV, isE, *]), (Below.refl _ _).alloc (Nat.le_refl _) _⟩
  by_cases k3 : t.kind = 3
  · by_cases o1 : 1 ≤ t.op
    · by_cases o2 : t.op ≤ 6
      · have HO : Hid (gTm t = operandOk t) := show gTm t = operandOk t from by simp [gTm, k3, o1, o2]
        have hro := fun w => rightOperand_any t w hs0
        simp only [k3] at hro
        go_enter Try.func171, Try.ntmps171
        go_wp2_with (go_at_call 208; refine (hro _).mono ?_; rintro e w' ⟨rfl, hb'⟩)
        go_ret
        exact ⟨ret_bool HO.out.symm, (B1 _).trans (hb'.mono (by simp))⟩
      · have HO : Hid (gTm t = false) := show gTm t = false from by simp [gTm, k3, o2]
        go_enter Try.func171, Try.ntmps171
        go_wp2
        go_ret
        exact ⟨ret_bool (by rw [HO.out]), B1 _⟩
    · have HO : Hid (gTm t = false) := show gTm t = false from by simp [gTm, k3, o1]
      go_enter Try.func171, Try.ntmps171
      go_wp2
      go_ret
      exact ⟨ret_bool (by rw [HO.out]), B1 _⟩
  · have HO : Hid (gTm t = false) := show gTm t = false from by simp [gTm, k0, k1, k2, k3]
    go_enter Try.func171, Try.ntmps171
    go_wp2
    go_ret
    exact ⟨ret_bool (by rw [HO.out]), B1 _⟩

set_option maxHeartbeats 800000 in
theorem patRight_any (x : Pt) (a : Option Addr) (c : Nat) {q : Option Nat} (w : World) (hv : TmsAt q w a x.terms) (hc : x.cls.size ≤ maxLen) (hs : ListLe Tm.le maxLen x.terms) (hl : x.terms.length ≤ 1048576) :
    Calls Try.prog 109 #[.agg #[.bool x.neg, .string x.cls, .slice a x.terms.length c]] w fun e w' =>
      e = .returned (.bool (gPt x)) ∧ Below w.heap.size w w' := by
  obtain ⟨G⟩ : Nonempty (Hid (gPt x = (gCls x.cls && (decide (x.terms.length ≤ 6) && x.terms.all gTm)))) := ⟨rfl⟩
  have B0 : ∀ o, Below w.heap.size w (w.alloc o) := fun o => (Below.refl _ _).alloc (Nat.le_refl _) _
  cases hg : gCls x.cls
  · go_enter Try.func109, Try.ntmps109
    go_wp2_with (go_at_call 170; refine (goodClass_any x.cls _ hc).mono ?_; rintro e w' ⟨rfl, rfl⟩)
    go_ret
    exact ⟨ret_bool (by rw [G.out, hg]; rfl), B0 _⟩
  by_cases h6 : 6 < x.terms.length
  · have h6' : (6 : Int) < (x.terms.length : Int) := by omega
    go_enter Try.func109, Try.ntmps109
    go_wp2_with (go_at_call 170; refine (goodClass_any x.cls _ hc).mono ?_; rintro e w' ⟨rfl, rfl⟩)
    go_ret
    exact ⟨ret_bool (by rw [G.out, hg, decide_eq_false (by omega)]; rfl), B0 _⟩
  · have h6' : ¬ (6 : Int) < (x.terms.length : Int) := by omega
    go_enter Try.func109, Try.ntmps109
    go_wp2_with (go_at_call 170; refine (goodClass_any x.cls _ hc).mono ?_; rintro e w' ⟨rfl, rfl⟩)
    go_loopw [18] (fun i wr => ∃ (k : Nat), k ≤ x.terms.length ∧ i = .int .i64 k ∧ gPt x = (x.terms.drop k).all gTm ∧ Below w.heap.size w wr) (fun i _ => x.terms.length - (intOf i).toNat)
    case atStart => exact ⟨0, by omega, rfl, by rw [G.out, hg, decide_eq_true (by omega)]; rfl, B0 _⟩
    case round =>
      obtain ⟨k, hk, rfl, hG, hb⟩ := hrel
      have HG : Hid (gPt x = (x.terms.drop k).all gTm) := hG
      clear hG
      by_cases hkl : k < x.terms.length
      · obtain ⟨t, htk⟩ : ∃ t, x.terms[k]? = some t := ⟨x.terms[k], by simp [hkl]⟩
        obtain ⟨b, o, rfl, hq, c0, c1, c2, c3, c4, c5⟩ := (hv.below hb).get htk
        have hst := hs.2 t (List.mem_of_getElem? htk)
        have HD : Hid (x.terms.drop k = t :: x.terms.drop (k + 1)) := drop_cons htk
        have B1 : ∀ o, Below w.heap.size w (wr.alloc o) := fun o => hb.alloc hb.size _
        cases hgt : gTm t
        all_goals
          go_wp2_with (go_at_call 171; refine (termRight_any t _ hst).mono ?_; rintro e w' ⟨rfl, hb'⟩)
        · go_ret
          exact ⟨ret_bool (by rw [HG.out, HD.out, List.all_cons, hgt]; rfl), (B1 _).trans (hb'.mono (B1 _).size)⟩
        · go_roundw
          case rel => exact ⟨k + 1, by omega, by go_num, by rw [HG.out, HD.out, List.all_cons, hgt]; rfl, (B1 _).trans (hb'.mono (B1 _).size)⟩
          case measure => simp [intOf]; omega
      · go_wp2
        go_ret
        exact ⟨ret_bool (by rw [HG.out, List.drop_eq_nil_of_le (by omega)]; rfl), hb⟩
end Go.Proofs.Ytpiglmkpmlogjaa
