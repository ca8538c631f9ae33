/-
  OUR OWN TEXT. Im10, Ic1, Ic2, Ic5, one behind the other.
-/
import Derived.Test.YtjjjagepnnbebaaGreatDoorKam
import Derived.Test.YtjjjagepnnbebaaGreatDoorChkm
import Derived.Deep.RegionHeld3
import Derived.Deep.DrawnRows
import Derived.BigQuiet
import Derived.Lib.Bytealg
namespace Go.Proofs.YtjjjagepnnbebaaGreatDoor
open Go.RowKit

set_option maxHeartbeats 800000 in
theorem valGood_any (v : V) (w : World) (hs : v.sym.size ≤ maxLen) :
    Calls Tryz.prog 163 #[.agg #[.int .i64 v.kind, .int .i64 v.num, .string v.sym]] w fun e w' =>
      e = .returned (.bool (gVal v)) ∧ Below w.heap.size w w' := by
  have B1 : ∀ o, Below w.heap.size w (w.alloc o) := fun o => (Below.refl _ _).alloc (Nat.le_refl _) _
  obtain ⟨G⟩ : Nonempty (Hid (gVal v = ((v.kind == 0 && v.sym.toList.isEmpty) || (v.kind == 1 && (v.num == 0 && gSym v.sym.data.toList))))) := ⟨rfl⟩
  have hg := goodSymbol_any v.sym (w.alloc (.cells #[.int .i64 v.kind, .int .i64 v.num, .string v.sym] 93)) hs
  have hx : Hid ((v.kind == 0) = true → (v.kind == 1) = false) := fun h => by simp at h; simp [h]
  cases h1 : (v.kind == 0) <;> cases h2 : v.sym.toList.isEmpty <;> cases h3 : (v.kind == 1) <;> cases h4 : (v.num == 0)
  all_goals
    first
    | (exfalso; have := hx.out h1; rw [h3] at this; cases this; done)
    | (go_enter Tryz.func163, Tryz.ntmps163
       go_wp2_with (go_at_call 96; refine hg.mono ?_; rintro e w' ⟨rfl, rfl⟩)
       go_ret
       exact ⟨ret_bool (by rw [G.out, h1, h2, h3, h4]; simp), B1 _⟩)
end Go.Proofs.YtjjjagepnnbebaaGreatDoor

namespace Go.Proofs.YtjjjagepnnbebaaGreatDoor
open Go.RowKit
attribute [local go_sem ↓] Go.wp_at_zero Go.wp_at_succ

set_option maxHeartbeats 800000 in
theorem rightOperand_any (t : Tm) (w : World) (hs : t.le maxLen) :
    Calls Tryz.prog 164 #[.agg #[.int .i64 t.kind, .int .i64 t.op, .string t.var, .int .i64 t.val.kind, .int .i64 t.val.num, .string t.val.sym]] w fun e w' =>
      e = .returned (.bool (operandOk t)) ∧ Below w.heap.size w w' := by
  obtain ⟨hs1, hs2⟩ := hs
  have B1 : ∀ o, Below w.heap.size w (w.alloc o) := fun o => (Below.refl _ _).alloc (Nat.le_refl _) _
  obtain ⟨G⟩ : Nonempty (Hid (operandOk t = ((t.var.toList.isEmpty && gVal t.val) || (gSym t.var.data.toList && zeroV t.val)))) := ⟨rfl⟩
  cases h1 : t.var.toList.isEmpty
  · cases h4 : gSym t.var.data.toList
    · go_enter Tryz.func164, Tryz.ntmps164
      go_wp2_with (go_at_call 96; refine (goodSymbol_any t.var _ hs1).mono ?_; rintro e w' ⟨rfl, rfl⟩)
      go_ret
      exact ⟨ret_bool (by rw [G.out, h1, h4]; rfl), B1 _⟩
    · go_enter Tryz.func164, Tryz.ntmps164
      go_wp2_with (go_at_call 96; refine (goodSymbol_any t.var _ hs1).mono ?_; rintro e w' ⟨rfl, rfl⟩)
      all_goals go_ret
      all_goals exact ⟨ret_bool (by rw [G.out, h1, h4]; simp [zeroV, isE, *]), (Below.refl _ _).alloc (Nat.le_refl _) _⟩
  · have h4 : gSym t.var.data.toList = false := gSym_short (by
      have : t.var.toList = [] := by simpa using h1
      rw [← ByteArray.toList_eq, this]
      rfl)
    go_enter Tryz.func164, Tryz.ntmps164
    go_wp2_with (go_at_call 163; refine (valGood_any t.val _ hs2).mono ?_; rintro e w' ⟨rfl, hb'⟩)
    go_ret
    exact ⟨ret_bool (by rw [G.out, h1, h4]; simp), (B1 _).trans (hb'.mono (by simp))⟩

theorem notB_list' : notB.toList = [110, 111, 116] := by rw [ByteArray.toList_eq]; rfl

set_option maxHeartbeats 400000 in
theorem goodClass_any (s : ByteArray) (w : World) (hs : s.size ≤ maxLen) :
    Calls Tryz.prog 141 #[.string s] w fun e w' => e = .returned (.bool (gCls s)) ∧ w' = w := by
  cases h1 : gSym s.data.toList
  all_goals
    go_enter Tryz.func141, Tryz.ntmps141
    go_wp2_with (go_at_call 96; refine (goodSymbol_any s _ hs).mono ?_; rintro e w' ⟨rfl, rfl⟩)
    go_ret
  · exact ⟨ret_bool (by simp [gCls, h1]), rfl⟩
  · exact ⟨ret_bool (by rw [gCls, h1, ← bytes_beq, notB_list']; rfl), rfl⟩

set_option maxHeartbeats 400000 in
theorem termRight_any (t : Tm) (w : World) (hs : t.le maxLen) :
    Calls Tryz.prog 142 #[.agg #[.int .i64 t.kind, .int .i64 t.op, .string t.var, .int .i64 t.val.kind, .int .i64 t.val.num, .string t.val.sym]] w fun e w' =>
      e = .returned (.bool (gTm t)) ∧ Below w.heap.size w w' := by
  have hs0 := hs
  obtain ⟨hs1, hs2⟩ := hs
  have B1 : ∀ o, Below w.heap.size w (w.alloc o) := fun o => (Below.refl _ _).alloc (Nat.le_refl _) _
  by_cases k0 : t.kind = 0
  · go_enter Tryz.func142, Tryz.ntmps142
    go_wp2
    all_goals go_ret
    all_goals exact ⟨ret_bool (by simp [gTm, zeroV, isE, *]), (Below.refl _ _).alloc (Nat.le_refl _) _⟩
  by_cases k1 : t.kind = 1
  · by_cases o0 : t.op = 0
    · by_cases v0 : t.var.toList = []
      · go_enter Tryz.func142, Tryz.ntmps142
        go_wp2_with (go_at_call 163; refine (valGood_any t.val _ hs2).mono ?_; rintro e w' ⟨rfl, hb'⟩)
        go_ret
        exact ⟨ret_bool (by simp [gTm, isE, *]), (B1 _).trans (hb'.mono (by simp))⟩
      · go_enter Tryz.func142, Tryz.ntmps142
        go_wp2
        go_ret
        exact ⟨ret_bool (by simp [gTm, isE, *]), (Below.refl _ _).alloc (Nat.le_refl _) _⟩
    · go_enter Tryz.func142, Tryz.ntmps142
      go_wp2
      go_ret
      exact ⟨ret_bool (by simp [gTm, isE, *]), (Below.refl _ _).alloc (Nat.le_refl _) _⟩
  by_cases k2 : t.kind = 2
  · by_cases o0 : t.op = 0
    · by_cases z0 : t.val.kind = 0
      · by_cases z1 : t.val.num = 0
        · by_cases z2 : t.val.sym.toList = []
          · go_enter Tryz.func142, Tryz.ntmps142
            go_wp2_with (go_at_call 96; refine (goodSymbol_any t.var _ hs1).mono ?_; rintro e w' ⟨rfl, rfl⟩)
            go_ret
            exact ⟨ret_bool (by simp [gTm, zeroV, isE, *]), (Below.refl _ _).alloc (Nat.le_refl _) _⟩
          · go_enter Tryz.func142, Tryz.ntmps142
            go_wp2
            go_ret
            exact ⟨ret_bool (by simp [gTm, zeroV, isE, *]), (Below.refl _ _).alloc (Nat.le_refl _) _⟩
        · go_enter Tryz.func142, Tryz.ntmps142
          go_wp2
          go_ret
          exact ⟨ret_bool (by simp [gTm, zeroV, isE, *]), (Below.refl _ _).alloc (Nat.le_refl _) _⟩
      · go_enter Tryz.func142, Tryz.ntmps142
        go_wp2
        go_ret
        exact ⟨ret_bool (by simp [gTm, zeroV, isE, *]), (Below.refl _ _).alloc (Nat.le_refl _) _⟩
    · go_enter Tryz.func142, Tryz.ntmps142
      go_wp2
      go_ret
      exact ⟨ret_bool (by simp [gTm, zeroV, isE, *]), (Below.refl _ _).alloc (Nat.le_refl _) _⟩
  by_cases k3 : t.kind = 3
  · by_cases o1 : 1 ≤ t.op
    · by_cases o2 : t.op ≤ 6
      · have HO : Hid (gTm t = operandOk t) := show gTm t = operandOk t from by simp [gTm, k3, o1, o2]
        have hro := fun w => rightOperand_any t w hs0
        simp only [k3] at hro
        go_enter Tryz.func142, Tryz.ntmps142
        go_wp2_with (go_at_call 164; refine (hro _).mono ?_; rintro e w' ⟨rfl, hb'⟩)
        go_ret
        exact ⟨ret_bool HO.out.symm, (B1 _).trans (hb'.mono (by simp))⟩
      · have HO : Hid (gTm t = false) := show gTm t = false from by simp [gTm, k3, o2]
        go_enter Tryz.func142, Tryz.ntmps142
        go_wp2
        go_ret
        exact ⟨ret_bool (by rw [HO.out]), B1 _⟩
    · have HO : Hid (gTm t = false) := show gTm t = false from by simp [gTm, k3, o1]
      go_enter Tryz.func142, Tryz.ntmps142
      go_wp2
      go_ret
      exact ⟨ret_bool (by rw [HO.out]), B1 _⟩
  · have HO : Hid (gTm t = false) := show gTm t = false from by simp [gTm, k0, k1, k2, k3]
    go_enter Tryz.func142, Tryz.ntmps142
    go_wp2
    go_ret
    exact ⟨ret_bool (by rw [HO.out]), B1 _⟩

set_option maxHeartbeats 800000 in
theorem patRight_any (x : Pt) (a : Option Addr) (c : Nat) {q : Option Nat} (w : World) (hv : TmsAt q w a x.terms) (hc : x.cls.size ≤ maxLen) (hs : ListLe Tm.le maxLen x.terms) (hl : x.terms.length ≤ 1048576) :
    Calls Tryz.prog 97 #[.agg #[.bool x.neg, .string x.cls, .slice a x.terms.length c]] w fun e w' =>
      e = .returned (.bool (gPt x)) ∧ Below w.heap.size w w' := by
  obtain ⟨G⟩ : Nonempty (Hid (gPt x = (gCls x.cls && (decide (x.terms.length ≤ 6) && x.terms.all gTm)))) := ⟨rfl⟩
  have B0 : ∀ o, Below w.heap.size w (w.alloc o) := fun o => (Below.refl _ _).alloc (Nat.le_refl _) _
  cases hg : gCls x.cls
  · go_enter Tryz.func97, Tryz.ntmps97
    go_wp2_with (go_at_call 141; refine (goodClass_any x.cls _ hc).mono ?_; rintro e w' ⟨rfl, rfl⟩)
    go_ret
    exact ⟨ret_bool (by rw [G.out, hg]; rfl), B0 _⟩
  by_cases h6 : 6 < x.terms.length
  · have h6' : (6 : Int) < (x.terms.length : Int) := by omega
    go_enter Tryz.func97, Tryz.ntmps97
    go_wp2_with (go_at_call 141; refine (goodClass_any x.cls _ hc).mono ?_; rintro e w' ⟨rfl, rfl⟩)
    go_ret
    exact ⟨ret_bool (by rw [G.out, hg, decide_eq_false (by omega)]; rfl), B0 _⟩
  · have h6' : ¬ (6 : Int) < (x.terms.length : Int) := by omega
    go_enter Tryz.func97, Tryz.ntmps97
    go_wp2_with (go_at_call 141; refine (goodClass_any x.cls _ hc).mono ?_; rintro e w' ⟨rfl, rfl⟩)
    go_loopw [18] (fun i wr => ∃ (k : Nat), k ≤ x.terms.length ∧ i = .int .i64 k ∧ gPt x = (x.terms.drop k).all gTm ∧ Below w.heap.size w wr) (fun i _ => x.terms.length - (intOf i).toNat)
    case atStart => exact ⟨0, by omega, rfl, by rw [G.out, hg, decide_eq_true (by omega)]; rfl, B0 _⟩
    case round =>
      obtain ⟨k, hk, rfl, hG, hb⟩ := hrel
      have HG : Hid (gPt x = (x.terms.drop k).all gTm) := hG
      clear hG
      by_cases hkl : k < x.terms.length
      · obtain ⟨t, htk⟩ : ∃ t, x.terms[k]? = some t := ⟨x.terms[k], by simp [hkl]⟩
        obtain ⟨b, o, rfl, hq, c0, c1, c2, c3, c4, c5⟩ := (hv.below hb).get htk
        have hst := hs.2 t (List.mem_of_getElem? htk)
        have HD : Hid (x.terms.drop k = t :: x.terms.drop (k + 1)) := drop_cons htk
        have B1 : ∀ o, Below w.heap.size w (wr.alloc o) := fun o => hb.alloc hb.size _
        cases hgt : gTm t
        all_goals
          go_wp2_with (go_at_call 142; refine (termRight_any t _ hst).mono ?_; rintro e w' ⟨rfl, hb'⟩)
        · go_ret
          exact ⟨ret_bool (by rw [HG.out, HD.out, List.all_cons, hgt]; rfl), (B1 _).trans (hb'.mono (B1 _).size)⟩
        · go_roundw
          case rel => exact ⟨k + 1, by omega, by go_num, by rw [HG.out, HD.out, List.all_cons, hgt]; rfl, (B1 _).trans (hb'.mono (B1 _).size)⟩
          case measure => simp [intOf]; omega
      · go_wp2
        go_ret
        exact ⟨ret_bool (by rw [HG.out, List.drop_eq_nil_of_le (by omega)]; rfl), hb⟩
end Go.Proofs.YtjjjagepnnbebaaGreatDoor

namespace Go.Proofs.YtjjjagepnnbebaaGreatDoor
open Go.RowKit Go.Lib
attribute [local go_sem ↓] Go.wp_at_zero Go.wp_at_succ

set_option maxHeartbeats 800000 in
set_option maxRecDepth 100000 in
theorem slIndexByte_any (s : ByteArray) (c : Int) (w : World) :
    Calls Tryz.prog 185 #[.string s, .int .u8 c] w fun e w' => e = .returned (.int .i64 (Lib.indexByte s.data.toList c.toNat.toUInt8)) ∧ w' = w := by
  go_enter Tryz.func185, Tryz.ntmps185
  go_wp2
  rw [run_callFunc_extern Tryz.func191 (by kernel_rfl) (by kernel_rfl) (by kernel_rfl) (e := Extern.BytealgIndexByte.indexByte) (by kernel_rfl), Lib.run_indexByteString]
  simp only [Result.andThen]
  rw [Oper.upon_value]
  go_wp2
  go_ret
  exact ⟨rfl, rfl⟩

set_option maxHeartbeats 800000 in
theorem indexByte_any (s : ByteArray) (c : Int) (w : World) :
    Calls Tryz.prog 179 #[.string s, .int .u8 c] w fun e w' => e = .returned (.int .i64 (Lib.indexByte s.data.toList c.toNat.toUInt8)) ∧ w' = w := by
  go_enter Tryz.func179, Tryz.ntmps179
  go_wp2_with (go_at_call 185; refine (slIndexByte_any s c _).mono ?_; rintro e w' ⟨rfl, rfl⟩)
  go_ret
  exact ⟨rfl, rfl⟩

theorem isAr_index {c : Int} (h0 : 0 ≤ c) (h1 : c < 256) : decide (0 ≤ Lib.indexByte [43, 45, 42, 47, 37] c.toNat.toUInt8) = isAr c := by
  have key : ∀ n : Fin 256, decide (0 ≤ Lib.indexByte [43, 45, 42, 47, 37] ((n.val : Nat) : Int).toNat.toUInt8) = isAr ((n.val : Nat) : Int) := by decide +kernel
  obtain ⟨n, rfl⟩ := Int.eq_ofNat_of_zero_le h0
  exact key ⟨n, by omega⟩

set_option maxHeartbeats 800000 in
theorem isArith_any (c : Int) (h0 : 0 ≤ c) (h1 : c < 256) (w : World) :
    Calls Tryz.prog 174 #[.int .u8 c] w fun e w' => e = .returned (.bool (isAr c)) ∧ w' = w := by
  have H := isAr_index h0 h1
  have HH : Hid (decide (0 ≤ Lib.indexByte [43, 45, 42, 47, 37] c.toNat.toUInt8) = isAr c) := H
  clear H
  go_enter Tryz.func174, Tryz.ntmps174
  go_wp2_with (go_at_call 179; refine (indexByte_any _ c _).mono ?_; rintro e w' ⟨rfl, rfl⟩)
  go_ret
  exact ⟨ret_bool (by rw [← HH.out]), rfl⟩

/-- Spans that lie in memory. -/
def spR (_ : World) (r : List Value) (s : Sp) : Prop := r = [.int .i64 (s.1 : Int), .int .i64 (s.2 : Int)]
theorem spR_any {w w' : World} {r : List Value} {x : Sp} (h : spR w r x) : spR w' r x := h
abbrev SpsAt (q : Option Nat) (w : World) (a : Option Addr) (xs : List Sp) : Prop := RowsAt spR q 201 2 w a xs
theorem SpsAt.below {q : Option Nat} {w w' : World} {a : Option Addr} {xs : List Sp} (h : SpsAt q w a xs) (hb : Below w.heap.size w w') : SpsAt q w' a xs := RowsAt.below h (fun _ _ _ h => spR_any h) hb
theorem SpsAt.get {q : Option Nat} {w : World} {a : Option Addr} {xs : List Sp} {i : Nat} {x : Sp} (h : SpsAt q w a xs) (hi : xs[i]? = some x) : ∃ b o, a = some ⟨b, o, none⟩ ∧ b < w.heap.size ∧ w.cell? ⟨b, o + i * 2, none⟩ = some (.int .i64 (x.1 : Int)) ∧ w.cell? ⟨b, o + i * 2 + 1, none⟩ = some (.int .i64 (x.2 : Int)) := by
  obtain ⟨b, o, r, h1, h2, h3, h4, h5⟩ := h i x hi
  unfold spR at h5
  subst h5
  have c0 := h4 0 _ rfl
  refine ⟨b, o, h1, ?_, c0, h4 1 _ rfl⟩
  by_cases hp : b < w.heap.size
  · exact hp
  · have : w.heap[b]? = none := Array.getElem?_eq_none (by omega)
    simp [World.cell?, this] at c0

theorem below_drewN2 {B n : Nat} {a w : World} (h : Below B a w) : Below B a (w.drewN n) := ⟨h.os, h.tape, h.output, h.size, h.block⟩
theorem spanOf_op {S : List Sp} {e : Ex} (k2 : e.kind = 2) : spanOf S e = if opOk S e then spanAB S e.a e.b else none := by
  simp [spanOf, k2]

theorem ret_span {f : Int} {m x : Nat} (h : m = x) : Ending.returned (.tuple #[.agg #[.int .i64 f, .int .i64 (1 + (x : Int))], .bool (decide (1 + (x : Int) ≤ 20))]) = .returned (.tuple #[.agg #[.int .i64 f, .int .i64 ((1 + m : Nat) : Int)], .bool (decide (1 + m ≤ 20))]) := by
  subst h
  rw [show ((1 + m : Nat) : Int) = 1 + (m : Int) by omega, show decide (1 + m ≤ 20) = decide (1 + (m : Int) ≤ 20) from decide_eq_decide.2 (by omega)]

set_option maxHeartbeats 1600000 in
theorem spanOfParts_ok (e : Ex) (a : Option Addr) (c : Nat) (S : List Sp) {q : Option Nat} (w : World) (hv : SpsAt q w a S) (hl : S.length ≤ 60) (k2 : e.kind = 2) (ho0 : 0 ≤ e.op) (ho1 : e.op < 256)
    (v0 : e.var.toList = []) (z0 : e.val.kind = 0) (z1 : e.val.num = 0) (z2 : e.val.sym.toList = []) (har : isAr e.op = true) (an bn : Nat) (sa sb : Sp) (han : e.a = (an : Int)) (hbn : e.b = (bn : Int)) (hsa : S[an]? = some sa) (hsb : S[bn]? = some sb) (hbl : bn + 1 = S.length) (ha : an + 1 = sb.1) (hd2 : sb.2 ≤ 20) (hd4 : sa.2 ≤ 20) :
    Calls Tryz.prog 165 #[.agg #[.int .i64 e.kind, .int .u8 e.op, .string e.var, .int .i64 e.val.kind, .int .i64 e.val.num, .string e.val.sym, .int .i64 e.a, .int .i64 e.b], .slice a S.length c] w fun r w' =>
      r = .returned (.tuple #[.agg #[.int .i64 (sa.1 : Int), .int .i64 ((1 + max sa.2 sb.2 : Nat) : Int)], .bool (decide (1 + max sa.2 sb.2 ≤ 20))]) ∧ Below w.heap.size w w' := by
  have B2 : ∀ o o', Below w.heap.size w ((w.alloc o).alloc o') := fun o o' => ((Below.refl _ _).alloc (Nat.le_refl _) _).alloc (by simp) _
  obtain ⟨b, o, rfl, hbw, c0, c1⟩ := hv.get hsb
  obtain ⟨b', o', hbe, hbw', c2, c3⟩ := hv.get hsa
  injection hbe with hbe
  injection hbe with hbe1 hbe2 _
  subst hbe1 hbe2
  have hal : an < S.length := (List.getElem?_eq_some_iff.1 hsa).1
  have d0 : decide ((bn : Int) < 0) = false := decide_eq_false (by omega)
  have d1 : decide ((an : Int) < 0) = false := decide_eq_false (by omega)
  have e1 : ((bn : Int) != (S.length : Int) - 1) = false := by simp; omega
  have e2 : ((an : Int) != (sb.1 : Int) - 1) = false := by simp; omega
  have z3 : (bn : Int) < (S.length : Int) := by omega
  have z4 : (0 : Int) ≤ (bn : Int) := by omega
  have z5 : (an : Int) < (S.length : Int) := by omega
  have z6 : (0 : Int) ≤ (an : Int) := by omega
  have hbw1 : b < w.heap.size + 1 := by omega
  have hbw2 : b < w.heap.size + 1 + 1 := by omega
  have hbw3 : b < w.heap.size + 1 + 1 + 1 := by omega
  have hdr : ∀ (W : World) (n : Nat), (W.drewN n).heap = W.heap := fun _ _ => rfl
  have hsb60 : sb.1 ≤ 60 := by omega
  clear hsa hsb hv hbw' hbl ha
  rw [hbn, han]
  clear hbn han
  go_enter Tryz.func165, Tryz.ntmps165
  go_wp2_with (go_at_call 174; refine (isArith_any e.op ho0 ho1 _).mono ?_; rintro e' w' ⟨rfl, rfl⟩)
  go_quiet (fail)
  go_wp2
  have hbw0 : ∀ n o1 o2, b < (((w.alloc o1).alloc o2).drewN n).heap.size := fun n o1 o2 => by
    show b < ((w.alloc o1).alloc o2).heap.size
    simp
    omega
  go_region
  all_goals go_wp2
  all_goals go_region
  all_goals go_wp2
  all_goals first
    | (refine bodyPost_ret (v := .tuple #[.agg #[.int .i64 (sa.1 : Int), .int .i64 (1 + (sb.2 : Int))], .bool (decide (1 + (sb.2 : Int) ≤ 20))]) (by simp [results, Tryz.results165, go_sem]) rfl ⟨ret_span (show max sa.2 sb.2 = sb.2 by omega), ?_⟩
       repeat first | exact B2 _ _ | refine below_drewN2 ?_ | refine Below.alloc ?_ (by first | (simp; done) | (simp; omega)) _ | refine Below.setCell ?_ (by first | (simp; done) | (simp; omega)) _)
    | (refine bodyPost_ret (v := .tuple #[.agg #[.int .i64 (sa.1 : Int), .int .i64 (1 + (sa.2 : Int))], .bool (decide (1 + (sa.2 : Int) ≤ 20))]) (by simp [results, Tryz.results165, go_sem]) rfl ⟨ret_span (show max sa.2 sb.2 = sa.2 by omega), ?_⟩
       repeat first | exact B2 _ _ | refine below_drewN2 ?_ | refine Below.alloc ?_ (by first | (simp; done) | (simp; omega)) _ | refine Below.setCell ?_ (by first | (simp; done) | (simp; omega)) _)

end Go.Proofs.YtjjjagepnnbebaaGreatDoor

namespace Go.Proofs.YtjjjagepnnbebaaGreatDoor
open Go.RowKit
attribute [local go_sem ↓] Go.wp_at_zero Go.wp_at_succ

set_option maxHeartbeats 800000 in
theorem positives_any (x : Ru) (a_pats : Option Addr) (c_pats : Nat) (a_exprs : Option Addr) (c_exprs : Nat) (a_acts : Option Addr) (c_acts : Nat) {q : Option Nat} (w : World) (h_pats : PtsAt q w a_pats x.pats) (hl : x.pats.length ≤ 1048576) :
    Calls Tryz.prog 52 #[.agg #[.string x.name, .int .i64 x.sal, .slice a_pats x.pats.length c_pats, .slice a_exprs x.exprs.length c_exprs, .slice a_acts x.acts.length c_acts]] w fun e w' =>
      e = .returned (.int .i64 (positives x.pats : Int)) ∧ Below w.heap.size w w' := by
  go_enter Tryz.func52, Tryz.ntmps52
  go_wp2
  go_loopw [3, 9] (fun l i wr => ∃ (k : Nat), k ≤ x.pats.length ∧ i = .int .i64 k ∧ l = .int .i64 (positives (x.pats.take k) : Int) ∧ Below w.heap.size w wr) (fun _ i _ => x.pats.length - (intOf i).toNat)
  case atStart => exact ⟨0, by omega, rfl, by simp [positives], (Below.refl _ _).alloc (Nat.le_refl _) _⟩
  case round =>
    obtain ⟨k, hk, rfl, rfl, hb⟩ := hrel
    have hp : positives (x.pats.take k) ≤ x.pats.length := Nat.le_trans List.countP_le_length (by simp; omega)
    by_cases hkl : k < x.pats.length
    · obtain ⟨p, hpk⟩ : ∃ p, x.pats[k]? = some p := ⟨x.pats[k], by simp [hkl]⟩
      obtain ⟨b, o, a_terms, c_terms, rfl, hq, c0, c1, c2, h_terms⟩ := (h_pats.below hb).get hpk
      have HT : Hid (x.pats.take (k + 1) = x.pats.take k ++ [p]) := take_succ' _ _ _ hpk
      have B1 : ∀ o, Below w.heap.size w (wr.alloc o) := fun o => hb.alloc hb.size _
      cases hn : p.neg
      all_goals
        rw [hn] at c0
        go_wp2
        go_roundw
        case rel => exact ⟨k + 1, by omega, by go_num, by rw [HT.out]; simp [positives, pos1, hn], B1 _⟩
        case measure => simp [intOf]; omega
    · go_wp2
      go_ret
      rw [List.take_of_length_le (by omega)]
      exact ⟨rfl, hb⟩

theorem firstBad_cons {α : Type} (f : α → Bool) (x : α) (r : List α) (k : Nat) : firstBad f (x :: r) k = if f x then firstBad f r (k + 1) else some k := rfl
/-- An item, 0 for none. -/
def item0 : Option Nat → Int
  | none => 0
  | some i => (i : Int)

set_option maxHeartbeats 800000 in
theorem wrongRef_any (x : Ru) (a_pats : Option Addr) (c_pats : Nat) (a_exprs : Option Addr) (c_exprs : Nat) (a_acts : Option Addr) (c_acts : Nat) {q : Option Nat} (w : World) (h_pats : PtsAt q w a_pats x.pats) (h_acts : AcsAt q w a_acts x.acts) (hl : x.pats.length ≤ 1048576) (hla : x.acts.length ≤ 1048576) :
    Calls Tryz.prog 54 #[.agg #[.string x.name, .int .i64 x.sal, .slice a_pats x.pats.length c_pats, .slice a_exprs x.exprs.length c_exprs, .slice a_acts x.acts.length c_acts]] w fun e w' =>
      e = .returned (.int .i64 (item0 (refs x))) ∧ Below w.heap.size w w' := by
  have B0 : ∀ o, Below w.heap.size w (w.alloc o) := fun o => (Below.refl _ _).alloc (Nat.le_refl _) _
  have hpos : positives x.pats ≤ x.pats.length := List.countP_le_length
  go_enter Tryz.func54, Tryz.ntmps54
  go_wp2_with (go_at_call 52; refine (positives_any x a_pats c_pats a_exprs c_exprs a_acts c_acts _ (h_pats.below (B0 _)) hl).mono ?_; rintro e w1 ⟨rfl, hb1⟩; have q2 : w1.cell? ⟨w.heap.size, 2, none⟩ = some (.slice a_pats x.pats.length c_pats) := cell_below hb1 (by simp [go_sem]); have q4 : w1.cell? ⟨w.heap.size, 4, none⟩ = some (.slice a_acts x.acts.length c_acts) := cell_below hb1 (by simp [go_sem]))
  have hB1 : Below w.heap.size w w1 := (B0 _).trans (hb1.mono (by simp))
  have hs1 : w.heap.size < w1.heap.size := by have := hb1.size; simp at this; omega
  clear hb1 q4
  go_loopw [12] (fun i wr => ∃ (k : Nat), k ≤ x.acts.length ∧ i = .int .i64 k ∧ refs x = firstBad (refOk (positives x.pats)) (x.acts.drop k) (x.pats.length + 1 + k) ∧ wr.cell? ⟨w.heap.size, 2, none⟩ = some (.slice a_pats x.pats.length c_pats) ∧ w.heap.size < wr.heap.size ∧ Below w.heap.size w wr) (fun i _ => x.acts.length - (intOf i).toNat)
  case atStart => exact ⟨0, by omega, rfl, rfl, q2, hs1, hB1⟩
  case round =>
    obtain ⟨k, hk, rfl, hG, hq2, hws, hb⟩ := hrel
    have HG : Hid (refs x = firstBad (refOk (positives x.pats)) (x.acts.drop k) (x.pats.length + 1 + k)) := hG
    clear hG
    by_cases hkl : k < x.acts.length
    · obtain ⟨y, hyk⟩ : ∃ y, x.acts[k]? = some y := ⟨x.acts[k], by simp [hkl]⟩
      obtain ⟨b, o, a_args, c_args, rfl, hq, c0, c1, c2, c3, h_args⟩ := (h_acts.below hb).get hyk
      have HD : Hid (x.acts.drop k = y :: x.acts.drop (k + 1)) := drop_cons hyk
      have B1 : ∀ o, Below w.heap.size w (wr.alloc o) := fun o => hb.alloc hb.size _
      have hqA : ∀ o, (wr.alloc o).cell? ⟨w.heap.size, 2, none⟩ = some (.slice a_pats x.pats.length c_pats) := fun o => by
        have : Below wr.heap.size wr (wr.alloc o) := (Below.refl _ _).alloc (Nat.le_refl _) _
        exact cell_below this hq2
      have hwA : ∀ o, w.heap.size < (wr.alloc o).heap.size := fun o => by simp; omega
      have good : refOk (positives x.pats) y = true → refs x = firstBad (refOk (positives x.pats)) (x.acts.drop (k + 1)) (x.pats.length + 1 + (k + 1)) := fun h => by
        rw [HG.out, HD.out, firstBad_cons, h]
        rfl
      have bad : refOk (positives x.pats) y = false → refs x = some (x.pats.length + 1 + k) := fun h => by
        rw [HG.out, HD.out, firstBad_cons, h]
        rfl
      obtain ⟨GD⟩ : Nonempty (Hid ((refOk (positives x.pats) y = true → refs x = firstBad (refOk (positives x.pats)) (x.acts.drop (k + 1)) (x.pats.length + 1 + (k + 1))) ∧ (refOk (positives x.pats) y = false → refs x = some (x.pats.length + 1 + k)))) := ⟨⟨good, bad⟩⟩
      clear good bad
      by_cases k23 : y.kind = 2 ∨ y.kind = 3
      · by_cases r0 : y.k < 1
        · have HB : Hid (refs x = some (x.pats.length + 1 + k)) := GD.out.2 (by
            rcases k23 with h | h <;> simp [refOk, h] <;> omega)
          rcases k23 with h | h
          all_goals
            go_wp2
            go_ret
            exact ⟨ret_int (by rw [HB.out]; simp [item0]; omega), B1 _⟩
        · by_cases r1 : (positives x.pats : Int) < y.k
          · have HB : Hid (refs x = some (x.pats.length + 1 + k)) := GD.out.2 (by
              rcases k23 with h | h <;> simp [refOk, h] <;> omega)
            rcases k23 with h | h
            all_goals
              go_wp2
              go_ret
              exact ⟨ret_int (by rw [HB.out]; simp [item0]; omega), B1 _⟩
          · have HB : Hid (refs x = firstBad (refOk (positives x.pats)) (x.acts.drop (k + 1)) (x.pats.length + 1 + (k + 1))) := GD.out.1 (by
              rcases k23 with h | h <;> simp [refOk, h] <;> omega)
            rcases k23 with h | h
            all_goals
              go_wp2
              go_roundw
              case rel => exact ⟨k + 1, by omega, by go_num, HB.out, hqA _, hwA _, B1 _⟩
              case measure => simp [intOf]; omega
      · have h2 : (y.kind == 2) = false := by simp; omega
        have h3 : (y.kind == 3) = false := by simp; omega
        have HB : Hid (refs x = firstBad (refOk (positives x.pats)) (x.acts.drop (k + 1)) (x.pats.length + 1 + (k + 1))) := GD.out.1 (by simp [refOk, h2, h3])
        go_wp2
        go_roundw
        case rel => exact ⟨k + 1, by omega, by go_num, HB.out, hqA _, hwA _, B1 _⟩
        case measure => simp [intOf]; omega
    · go_wp2
      go_ret
      exact ⟨ret_int (by rw [HG.out, List.drop_eq_nil_of_le (by omega)]; rfl), hb⟩
end Go.Proofs.YtjjjagepnnbebaaGreatDoor
