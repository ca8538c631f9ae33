/-
  OUR OWN TEXT. The model's side of the checker: terms, patterns.
-/
import Derived.Test.YtgkoiojelckblaaGreatDoorKag
import Derived.Test.YtgkoiojelckblaaGreatDoorKah
namespace Go.Proofs.YtgkoiojelckblaaGreatDoor
open Go.RowKit
attribute [local go_sem ↓] Go.wp_at_zero Go.wp_at_succ

set_option maxHeartbeats 400000 in
theorem l2Zero_any (v : V) (w : World) :
    Calls Tryz.prog 153 #[.agg #[.int .i64 v.kind, .int .i64 v.num, .string v.sym]] w fun e w' =>
      e = .returned (.bool (zeroV v)) ∧ Below w.heap.size w w' := by
  go_enter Tryz.func153, Tryz.ntmps153
  go_wp2
  all_goals go_ret
  all_goals exact ⟨ret_bool (by simp [zeroV, isE, *]), (Below.refl _ _).alloc (Nat.le_refl _) _⟩

set_option maxHeartbeats 1600000 in
theorem l2GoodTerm_any (t : Tm) (w : World) (hs : t.le maxLen) :
    Calls Tryz.prog 151 #[.agg #[.int .i64 t.kind, .int .i64 t.op, .string t.var, .int .i64 t.val.kind, .int .i64 t.val.num, .string t.val.sym]] w fun e w' =>
      e = .returned (.bool (gTm t)) ∧ Below w.heap.size w w' := by
  obtain ⟨hs1, hs2⟩ := hs
  have B1 : ∀ o, Below w.heap.size w (w.alloc o) := fun o => (Below.refl _ _).alloc (Nat.le_refl _) _
  obtain ⟨G⟩ : Nonempty (Hid (gTm t = if t.kind == 0 then t.op == 0 && (isE t.var && zeroV t.val)
    else if t.kind == 1 then t.op == 0 && (isE t.var && gVal t.val)
    else if t.kind == 2 then t.op == 0 && (gSym t.var.data.toList && zeroV t.val)
    else if t.kind == 3 then decide (1 ≤ t.op) && (decide (t.op ≤ 6) && ((isE t.var && gVal t.val) || (gSym t.var.data.toList && zeroV t.val)))
    else false)) := ⟨rfl⟩
  unfold isE at G
  by_cases k0 : t.kind = 0
  · have e0 : (t.kind == 0) = true := by simp [k0]
    cases h1 : (t.op == 0) <;> cases h2 : t.var.toList.isEmpty <;> cases h3 : zeroV t.val
    all_goals
      go_enter Tryz.func151, Tryz.ntmps151
      go_wp2_with (go_at_call 153; refine (l2Zero_any t.val _).mono ?_; rintro e w' ⟨rfl, hb'⟩)
    all_goals try go_ret
    all_goals first
      | exact ⟨ret_bool (by rw [G.out, e0, h1, h2, h3]; rfl), B1 _⟩
      | exact ⟨ret_bool (by rw [G.out, e0, h1, h2, h3]; rfl), (B1 _).trans (hb'.mono (by simp))⟩
  by_cases k1 : t.kind = 1
  · have e1 : (t.kind == 1) = true := by simp [k1]
    have e0 : (t.kind == 0) = false := by simp [k1]
    cases h1 : (t.op == 0) <;> cases h2 : t.var.toList.isEmpty <;> cases h3 : gVal t.val
    all_goals
      go_enter Tryz.func151, Tryz.ntmps151
      go_wp2_with (go_at_call 152; refine (l1GoodVal_any t.val _ hs2).mono ?_; rintro e w' ⟨rfl, hb'⟩)
    all_goals try go_ret
    all_goals first
      | exact ⟨ret_bool (by rw [G.out, e0, e1, h1, h2, h3]; rfl), B1 _⟩
      | exact ⟨ret_bool (by rw [G.out, e0, e1, h1, h2, h3]; rfl), (B1 _).trans (hb'.mono (by simp))⟩
  by_cases k2 : t.kind = 2
  · have e2 : (t.kind == 2) = true := by simp [k2]
    have e1 : (t.kind == 1) = false := by simp [k2]
    have e0 : (t.kind == 0) = false := by simp [k2]
    cases h1 : (t.op == 0) <;> cases h2 : gSym t.var.data.toList <;> cases h3 : zeroV t.val
    all_goals
      go_enter Tryz.func151, Tryz.ntmps151
      go_wp2_with (first | (go_at_call 94; refine (l1GoodSym_any t.var _ hs1).mono ?_; rintro e w' ⟨rfl, rfl⟩) | (go_at_call 153; refine (l2Zero_any t.val _).mono ?_; rintro e w' ⟨rfl, hb'⟩))
    all_goals try go_ret
    all_goals first
      | exact ⟨ret_bool (by rw [G.out, e0, e1, e2, h1, h2, h3]; rfl), B1 _⟩
      | exact ⟨ret_bool (by rw [G.out, e0, e1, e2, h1, h2, h3]; rfl), (B1 _).trans (hb'.mono (by simp))⟩
  have e2 : (t.kind == 2) = false := by simpa using k2
  have e1 : (t.kind == 1) = false := by simpa using k1
  have e0 : (t.kind == 0) = false := by simpa using k0
  by_cases k3 : t.kind = 3
  · have e3 : (t.kind == 3) = true := by simp [k3]
    by_cases o12 : 1 ≤ t.op ∧ t.op ≤ 6
    · obtain ⟨o1, o2⟩ := o12
      cases h1 : t.var.toList.isEmpty
      · cases h4 : gSym t.var.data.toList <;> cases h3 : zeroV t.val
        all_goals
          go_enter Tryz.func151, Tryz.ntmps151
          go_wp2_with (first | (go_at_call 94; refine (l1GoodSym_any t.var _ hs1).mono ?_; rintro e w' ⟨rfl, rfl⟩) | (go_at_call 153; refine (l2Zero_any t.val _).mono ?_; rintro e w' ⟨rfl, hb'⟩))
        all_goals try go_ret
        all_goals first
          | exact ⟨ret_bool (by rw [G.out, e0, e1, e2, e3, h1, h3, h4, decide_eq_true o1, decide_eq_true o2]; rfl), B1 _⟩
          | exact ⟨ret_bool (by rw [G.out, e0, e1, e2, e3, h1, h3, h4, decide_eq_true o1, decide_eq_true o2]; rfl), (B1 _).trans (hb'.mono (by simp))⟩
      · have h4 : gSym t.var.data.toList = false := gSym_short (by
          have : t.var.toList = [] := by simpa using h1
          rw [← ByteArray.toList_eq, this]
          rfl)
        cases h2 : gVal t.val
        all_goals
          go_enter Tryz.func151, Tryz.ntmps151
          go_wp2_with (first | (go_at_call 94; refine (l1GoodSym_any t.var _ hs1).mono ?_; rintro e w' ⟨rfl, rfl⟩) | (go_at_call 152; refine (l1GoodVal_any t.val _ hs2).mono ?_; rintro e w1 ⟨rfl, hb1⟩; have q2 : w1.cell? ⟨w.heap.size, 2, none⟩ = some (.string t.var) := cell_below hb1 (by simp [go_sem])))
        all_goals try go_ret
        all_goals exact ⟨ret_bool (by rw [G.out, e0, e1, e2, e3, h1, h2, h4, decide_eq_true o1, decide_eq_true o2]; rfl), (B1 _).trans (hb1.mono (by simp))⟩
    · obtain ⟨D⟩ : Nonempty (Hid (∀ z, (decide (1 ≤ t.op) && (decide (t.op ≤ 6) && z)) = false)) := ⟨fun z => by
        by_cases h : 1 ≤ t.op
        · have h' : ¬ t.op ≤ 6 := fun h' => o12 ⟨h, h'⟩
          rw [decide_eq_false h']
          simp
        · rw [decide_eq_false h]
          rfl⟩
      by_cases o1 : 1 ≤ t.op
      · have o2 : ¬ t.op ≤ 6 := fun h => o12 ⟨o1, h⟩
        go_enter Tryz.func151, Tryz.ntmps151
        go_wp2
        go_ret
        exact ⟨ret_bool (by rw [G.out, e0, e1, e2, e3]; first | exact D.out _ | exact (D.out _).symm), B1 _⟩
      · go_enter Tryz.func151, Tryz.ntmps151
        go_wp2
        go_ret
        exact ⟨ret_bool (by rw [G.out, e0, e1, e2, e3]; first | exact D.out _ | exact (D.out _).symm), B1 _⟩
  · have e3 : (t.kind == 3) = false := by simpa using k3
    go_enter Tryz.func151, Tryz.ntmps151
    go_wp2
    go_ret
    exact ⟨ret_bool (by rw [G.out, e0, e1, e2, e3]; rfl), B1 _⟩

theorem notB_list : notB.toList = [110, 111, 116] := by rw [ByteArray.toList_eq]; rfl

set_option maxHeartbeats 400000 in
theorem l2GoodCls_any (s : ByteArray) (w : World) (hs : s.size ≤ maxLen) :
    Calls Tryz.prog 150 #[.string s] w fun e w' => e = .returned (.bool (gCls s)) ∧ w' = w := by
  cases h1 : gSym s.data.toList
  all_goals
    go_enter Tryz.func150, Tryz.ntmps150
    go_wp2_with (go_at_call 94; refine (l1GoodSym_any s _ hs).mono ?_; rintro e w' ⟨rfl, rfl⟩)
    go_ret
  · exact ⟨ret_bool (by simp [gCls, h1]), rfl⟩
  · exact ⟨ret_bool (by rw [gCls, h1, ← bytes_beq, notB_list]; rfl), rfl⟩

set_option maxHeartbeats 800000 in
theorem l2GoodPat_any (x : Pt) (a : Option Addr) (c : Nat) {q : Option Nat} (w : World) (hv : TmsAt q w a x.terms) (hc : x.cls.size ≤ maxLen) (hs : ListLe Tm.le maxLen x.terms) (hl : x.terms.length ≤ 1048576) :
    Calls Tryz.prog 95 #[.agg #[.bool x.neg, .string x.cls, .slice a x.terms.length c]] w fun e w' =>
      e = .returned (.bool (gPt x)) ∧ Below w.heap.size w w' := by
  obtain ⟨G⟩ : Nonempty (Hid (gPt x = (gCls x.cls && (decide (x.terms.length ≤ 6) && x.terms.all gTm)))) := ⟨rfl⟩
  have B0 : ∀ o, Below w.heap.size w (w.alloc o) := fun o => (Below.refl _ _).alloc (Nat.le_refl _) _
  cases hg : gCls x.cls
  · go_enter Tryz.func95, Tryz.ntmps95
    go_wp2_with (go_at_call 150; refine (l2GoodCls_any x.cls _ hc).mono ?_; rintro e w' ⟨rfl, rfl⟩)
    go_ret
    exact ⟨ret_bool (by rw [G.out, hg]; rfl), B0 _⟩
  by_cases h6 : 6 < x.terms.length
  · have h6' : (6 : Int) < (x.terms.length : Int) := by omega
    go_enter Tryz.func95, Tryz.ntmps95
    go_wp2_with (go_at_call 150; refine (l2GoodCls_any x.cls _ hc).mono ?_; rintro e w' ⟨rfl, rfl⟩)
    go_ret
    exact ⟨ret_bool (by rw [G.out, hg, decide_eq_false (by omega)]; rfl), B0 _⟩
  · have h6' : ¬ (6 : Int) < (x.terms.length : Int) := by omega
    go_enter Tryz.func95, Tryz.ntmps95
    go_wp2_with (go_at_call 150; refine (l2GoodCls_any x.cls _ hc).mono ?_; rintro e w' ⟨rfl, rfl⟩)
    go_loopw [18] (fun i wr => ∃ (k : Nat), k ≤ x.terms.length ∧ i = .int .i64 k ∧ gPt x = (x.terms.drop k).all gTm ∧ Below w.heap.size w wr) (fun i _ => x.terms.length - (intOf i).toNat)
    case atStart => exact ⟨0, by omega, rfl, by rw [G.out, hg, decide_eq_true (by omega)]; rfl, B0 _⟩
    case round =>
      obtain ⟨k, hk, rfl, hG, hb⟩ := hrel
      have HG : Hid (gPt x = (x.terms.drop k).all gTm) := hG
      clear hG
      by_cases hkl : k < x.terms.length
      · obtain ⟨t, htk⟩ : ∃ t, x.terms[k]? = some t := ⟨x.terms[k], by simp [hkl]⟩
        obtain ⟨b, o, rfl, hq, c0, c1, c2, c3, c4, c5⟩ := (hv.below hb).get htk
        have hst := hs.2 t (List.mem_of_getElem? htk)
        have HD : Hid (x.terms.drop k = t :: x.terms.drop (k + 1)) := drop_cons htk
        have B1 : ∀ o, Below w.heap.size w (wr.alloc o) := fun o => hb.alloc hb.size _
        cases hgt : gTm t
        all_goals
          go_wp2_with (go_at_call 151; refine (l2GoodTerm_any t _ hst).mono ?_; rintro e w' ⟨rfl, hb'⟩)
        · go_ret
          exact ⟨ret_bool (by rw [HG.out, HD.out, List.all_cons, hgt]; rfl), (B1 _).trans (hb'.mono (B1 _).size)⟩
        · go_roundw
          case rel => exact ⟨k + 1, by omega, by go_num, by rw [HG.out, HD.out, List.all_cons, hgt]; rfl, (B1 _).trans (hb'.mono (B1 _).size)⟩
          case measure => simp [intOf]; omega
      · go_wp2
        go_ret
        exact ⟨ret_bool (by rw [HG.out, List.drop_eq_nil_of_le (by omega)]; rfl), hb⟩
end Go.Proofs.YtgkoiojelckblaaGreatDoor
