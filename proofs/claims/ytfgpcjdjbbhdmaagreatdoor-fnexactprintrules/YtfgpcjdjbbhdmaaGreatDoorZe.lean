/-
  OUR OWN TEXT. Ic1, Ic2, one behind the other.
-/
import Derived.Test.YtfgpcjdjbbhdmaaGreatDoorZc
import Derived.Test.YtfgpcjdjbbhdmaaGreatDoorZd
import Derived.Deep.RegionHeld3
import Derived.Deep.DrawnRows
import Derived.BigQuiet
import Derived.Lib.Bytealg
namespace Go.Proofs.YtfgpcjdjbbhdmaaGreatDoor
open Go.RowKit
attribute [local go_sem ↓] Go.wp_at_zero Go.wp_at_succ

set_option maxHeartbeats 800000 in
theorem rightOperand_any (t : Tm) (w : World) (hs : t.le maxLen) :
    Calls Tryz.prog 225 #[.agg #[.int .i64 t.kind, .int .i64 t.op, .string t.var, .int .i64 t.val.kind, .int .i64 t.val.num, .string t.val.sym]] w fun e w' =>
      e = .returned (.bool (operandOk t)) ∧ Below w.heap.size w w' := by
  obtain ⟨hs1, hs2⟩ := hs
  have B1 : ∀ o, Below w.heap.size w (w.alloc o) := fun o => (Below.refl _ _).alloc (Nat.le_refl _) _
  obtain ⟨G⟩ : Nonempty (Hid (operandOk t = ((t.var.toList.isEmpty && gVal t.val) || (gSym t.var.data.toList && zeroV t.val)))) := ⟨rfl⟩
  cases h1 : t.var.toList.isEmpty
  · cases h4 : gSym t.var.data.toList
    · go_enter Tryz.func225, Tryz.ntmps225
      go_wp2_with (go_at_call 172; refine (goodSymbol_any t.var _ hs1).mono ?_; rintro e w' ⟨rfl, rfl⟩)
      go_ret
      exact ⟨ret_bool (by rw [G.out, h1, h4]; rfl), B1 _⟩
    · go_enter Tryz.func225, Tryz.ntmps225
      go_wp2_with (go_at_call 172; refine (goodSymbol_any t.var _ hs1).mono ?_; rintro e w' ⟨rfl, rfl⟩)
      all_goals go_ret
      all_goals exact ⟨ret_bool (by rw [G.out, h1, h4]; simp [zeroV, isE, *]), (Below.refl _ _).alloc (Nat.le_refl _) _⟩
  · have h4 : gSym t.var.data.toList = false := gSym_short (by
      have : t.var.toList = [] := by simpa using h1
      rw [← ByteArray.toList_eq, this]
      rfl)
    go_enter Tryz.func225, Tryz.ntmps225
    go_wp2_with (go_at_call 224; refine (valGood_any t.val _ hs2).mono ?_; rintro e w' ⟨rfl, hb'⟩)
    go_ret
    exact ⟨ret_bool (by rw [G.out, h1, h4]; simp), (B1 _).trans (hb'.mono (by simp))⟩

theorem notB_list' : notB.toList = [110, 111, 116] := by rw [ByteArray.toList_eq]; rfl

set_option maxHeartbeats 400000 in
theorem goodClass_any (s : ByteArray) (w : World) (hs : s.size ≤ maxLen) :
    Calls Tryz.prog 204 #[.string s] w fun e w' => e = .returned (.bool (gCls s)) ∧ w' = w := by
  cases h1 : gSym s.data.toList
  all_goals
    go_enter Tryz.func204, Tryz.ntmps204
    go_wp2_with (go_at_call 172; refine (goodSymbol_any s _ hs).mono ?_; rintro e w' ⟨rfl, rfl⟩)
    go_ret
  · exact ⟨ret_bool (by simp [gCls, h1]), rfl⟩
  · exact ⟨ret_bool (by rw [gCls, h1, ← bytes_beq, notB_list']; rfl), rfl⟩

set_option maxHeartbeats 400000 in
theorem termRight_any (t : Tm) (w : World) (hs : t.le maxLen) :
    Calls Tryz.prog 205 #[.agg #[.int .i64 t.kind, .int .i64 t.op, .string t.var, .int .i64 t.val.kind, .int .i64 t.val.num, .string t.val.sym]] w fun e w' =>
      e = .returned (.bool (gTm t)) ∧ Below w.heap.size w w' := by
  have hs0 := hs
  obtain ⟨hs1, hs2⟩ := hs
  have B1 : ∀ o, Below w.heap.size w (w.alloc o) := fun o => (Below.refl _ _).alloc (Nat.le_refl _) _
  by_cases k0 : t.kind = 0
  · go_enter Tryz.func205, Tryz.ntmps205
    go_wp2
    all_goals go_ret
    all_goals exact ⟨ret_bool (by simp [gTm, zeroV, isE, *]), (Below.refl _ _).alloc (Nat.le_refl _) _⟩
  by_cases k1 : t.kind = 1
  · by_cases o0 : t.op = 0
    · by_cases v0 : t.var.toList = []
      · go_enter Tryz.func205, Tryz.ntmps205
        go_wp2_with (go_at_call 224; refine (valGood_any t.val _ hs2).mono ?_; rintro e w' ⟨rfl, hb'⟩)
        go_ret
        exact ⟨ret_bool (by simp [gTm, isE, *]), (B1 _).trans (hb'.mono (by simp))⟩
      · go_enter Tryz.func205, Tryz.ntmps205
        go_wp2
        go_ret
        exact ⟨ret_bool (by simp [gTm, isE, *]), (Below.refl _ _).alloc (Nat.le_refl _) _⟩
    · go_enter Tryz.func205, Tryz.ntmps205
      go_wp2
      go_ret
      exact ⟨ret_bool (by simp [gTm, isE, *]), (Below.refl _ _).alloc (Nat.le_refl _) _⟩
  by_cases k2 : t.kind = 2
  · by_cases o0 : t.op = 0
    · by_cases z0 : t.val.kind = 0
      · by_cases z1 : t.val.num = 0
        · by_cases z2 : t.val.sym.toList = []
          · go_enter Tryz.func205, Tryz.ntmps205
            go_wp2_with (go_at_call 172; refine (goodSymbol_any t.var _ hs1).mono ?_; rintro e w' ⟨rfl, rfl⟩)
            go_ret
            exact ⟨ret_bool (by simp [gTm, zeroV, isE, *]), (Below.refl _ _).alloc (Nat.le_refl _) _⟩
          · go_enter Tryz.func205, Tryz.ntmps205
            go_wp2
            go_ret
            exact ⟨ret_bool (by simp [gTm, zeroV, isE, *]), (Below.refl _ _).alloc (Nat.le_refl _) _⟩
        · go_enter Tryz.func205, Tryz.ntmps205
          go_wp2
          go_ret
          exact ⟨ret_bool (by simp [gTm, zeroV, isE, *]), (Below.refl _ _).alloc (Nat.le_refl _) _⟩
      · go_enter Tryz.func205, Tryz.ntmps205
        go_wp2
        go_ret
        exact ⟨ret_bool (by simp [gTm, zeroV, isE, *]), (Below.refl _ _).alloc (Nat.le_refl _) _⟩
    · go_enter Tryz.func205, Tryz.ntmps205
      go_wp2
      go_ret
      exact ⟨ret_bool (by simp [gTm, zeroV, isE, *]), (Below.refl _ _).alloc (Nat.le_refl _) _⟩
  by_cases k3 : t.kind = 3
  · by_cases o1 : 1 ≤ t.op
    · by_cases o2 : t.op ≤ 6
      · have HO : Hid (gTm t = operandOk t) := show gTm t = operandOk t from by simp [gTm, k3, o1, o2]
        have hro := fun w => rightOperand_any t w hs0
        simp only [k3] at hro
        go_enter Tryz.func205, Tryz.ntmps205
        go_wp2_with (go_at_call 225; refine (hro _).mono ?_; rintro e w' ⟨rfl, hb'⟩)
        go_ret
        exact ⟨ret_bool HO.out.symm, (B1 _).trans (hb'.mono (by simp))⟩
      · have HO : Hid (gTm t = false) := show gTm t = false from by simp [gTm, k3, o2]
        go_enter Tryz.func205, Tryz.ntmps205
        go_wp2
        go_ret
        exact ⟨ret_bool (by rw [HO.out]), B1 _⟩
    · have HO : Hid (gTm t = false) := show gTm t = false from by simp [gTm, k3, o1]
      go_enter Tryz.func205, Tryz.ntmps205
      go_wp2
      go_ret
      exact ⟨ret_bool (by rw [HO.out]), B1 _⟩
  · have HO : Hid (gTm t = false) := show gTm t = false from by simp [gTm, k0, k1, k2, k3]
    go_enter Tryz.func205, Tryz.ntmps205
    go_wp2
    go_ret
    exact ⟨ret_bool (by rw [HO.out]), B1 _⟩

set_option maxHeartbeats 800000 in
theorem patRight_any (x : Pt) (a : Option Addr) (c : Nat) {q : Option Nat} (w : World) (hv : TmsAt q w a x.terms) (hc : x.cls.size ≤ maxLen) (hs : ListLe Tm.le maxLen x.terms) (hl : x.terms.length ≤ 1048576) :
    Calls Tryz.prog 173 #[.agg #[.bool x.neg, .string x.cls, .slice a x.terms.length c]] w fun e w' =>
      e = .returned (.bool (gPt x)) ∧ Below w.heap.size w w' := by
  obtain ⟨G⟩ : Nonempty (Hid (gPt x = (gCls x.cls && (decide (x.terms.length ≤ 6) && x.terms.all gTm)))) := ⟨rfl⟩
  have B0 : ∀ o, Below w.heap.size w (w.alloc o) := fun o => (Below.refl _ _).alloc (Nat.le_refl _) _
  cases hg : gCls x.cls
  · go_enter Tryz.func173, Tryz.ntmps173
    go_wp2_with (go_at_call 204; refine (goodClass_any x.cls _ hc).mono ?_; rintro e w' ⟨rfl, rfl⟩)
    go_ret
    exact ⟨ret_bool (by rw [G.out, hg]; rfl), B0 _⟩
  by_cases h6 : 6 < x.terms.length
  · have h6' : (6 : Int) < (x.terms.length : Int) := by omega
    go_enter Tryz.func173, Tryz.ntmps173
    go_wp2_with (go_at_call 204; refine (goodClass_any x.cls _ hc).mono ?_; rintro e w' ⟨rfl, rfl⟩)
    go_ret
    exact ⟨ret_bool (by rw [G.out, hg, decide_eq_false (by omega)]; rfl), B0 _⟩
  · have h6' : ¬ (6 : Int) < (x.terms.length : Int) := by omega
    go_enter Tryz.func173, Tryz.ntmps173
    go_wp2_with (go_at_call 204; refine (goodClass_any x.cls _ hc).mono ?_; rintro e w' ⟨rfl, rfl⟩)
    go_loopw [18] (fun i wr => ∃ (k : Nat), k ≤ x.terms.length ∧ i = .int .i64 k ∧ gPt x = (x.terms.drop k).all gTm ∧ Below w.heap.size w wr) (fun i _ => x.terms.length - (intOf i).toNat)
    case atStart => exact ⟨0, by omega, rfl, by rw [G.out, hg, decide_eq_true (by omega)]; rfl, B0 _⟩
    case round =>
      obtain ⟨k, hk, rfl, hG, hb⟩ := hrel
      have HG : Hid (gPt x = (x.terms.drop k).all gTm) := hG
      clear hG
      by_cases hkl : k < x.terms.length
      · obtain ⟨t, htk⟩ : ∃ t, x.terms[k]? = some t := ⟨x.terms[k], by simp [hkl]⟩
        obtain ⟨b, o, rfl, hq, c0, c1, c2, c3, c4, c5⟩ := (hv.below hb).get htk
        have hst := hs.2 t (List.mem_of_getElem? htk)
        have HD : Hid (x.terms.drop k = t :: x.terms.drop (k + 1)) := drop_cons htk
        have B1 : ∀ o, Below w.heap.size w (wr.alloc o) := fun o => hb.alloc hb.size _
        cases hgt : gTm t
        all_goals
          go_wp2_with (go_at_call 205; refine (termRight_any t _ hst).mono ?_; rintro e w' ⟨rfl, hb'⟩)
        · go_ret
          exact ⟨ret_bool (by rw [HG.out, HD.out, List.all_cons, hgt]; rfl), (B1 _).trans (hb'.mono (B1 _).size)⟩
        · go_roundw
          case rel => exact ⟨k + 1, by omega, by go_num, by rw [HG.out, HD.out, List.all_cons, hgt]; rfl, (B1 _).trans (hb'.mono (B1 _).size)⟩
          case measure => simp [intOf]; omega
      · go_wp2
        go_ret
        exact ⟨ret_bool (by rw [HG.out, List.drop_eq_nil_of_le (by omega)]; rfl), hb⟩
end Go.Proofs.YtfgpcjdjbbhdmaaGreatDoor

namespace Go.Proofs.YtfgpcjdjbbhdmaaGreatDoor
open Go.RowKit Go.Lib
attribute [local go_sem ↓] Go.wp_at_zero Go.wp_at_succ

set_option maxHeartbeats 800000 in
set_option maxRecDepth 100000 in
theorem slIndexByte_any (s : ByteArray) (c : Int) (w : World) :
    Calls Tryz.prog 240 #[.string s, .int .u8 c] w fun e w' => e = .returned (.int .i64 (Lib.indexByte s.data.toList c.toNat.toUInt8)) ∧ w' = w := by
  go_enter Tryz.func240, Tryz.ntmps240
  go_wp2
  rw [run_callFunc_extern Tryz.func246 (by kernel_rfl) (by kernel_rfl) (by kernel_rfl) (e := Extern.BytealgIndexByte.indexByte) (by kernel_rfl), Lib.run_indexByteString]
  simp only [Result.andThen]
  rw [Oper.upon_value]
  go_wp2
  go_ret
  exact ⟨rfl, rfl⟩

set_option maxHeartbeats 800000 in
theorem indexByte_any (s : ByteArray) (c : Int) (w : World) :
    Calls Tryz.prog 234 #[.string s, .int .u8 c] w fun e w' => e = .returned (.int .i64 (Lib.indexByte s.data.toList c.toNat.toUInt8)) ∧ w' = w := by
  go_enter Tryz.func234, Tryz.ntmps234
  go_wp2_with (go_at_call 240; refine (slIndexByte_any s c _).mono ?_; rintro e w' ⟨rfl, rfl⟩)
  go_ret
  exact ⟨rfl, rfl⟩

theorem isAr_index {c : Int} (h0 : 0 ≤ c) (h1 : c < 256) : decide (0 ≤ Lib.indexByte [43, 45, 42, 47, 37] c.toNat.toUInt8) = isAr c := by
  have key : ∀ n : Fin 256, decide (0 ≤ Lib.indexByte [43, 45, 42, 47, 37] ((n.val : Nat) : Int).toNat.toUInt8) = isAr ((n.val : Nat) : Int) := by decide +kernel
  obtain ⟨n, rfl⟩ := Int.eq_ofNat_of_zero_le h0
  exact key ⟨n, by omega⟩

set_option maxHeartbeats 800000 in
theorem isArith_any (c : Int) (h0 : 0 ≤ c) (h1 : c < 256) (w : World) :
    Calls Tryz.prog 223 #[.int .u8 c] w fun e w' => e = .returned (.bool (isAr c)) ∧ w' = w := by
  have H := isAr_index h0 h1
  have HH : Hid (decide (0 ≤ Lib.indexByte [43, 45, 42, 47, 37] c.toNat.toUInt8) = isAr c) := H
  clear H
  go_enter Tryz.func223, Tryz.ntmps223
  go_wp2_with (go_at_call 234; refine (indexByte_any _ c _).mono ?_; rintro e w' ⟨rfl, rfl⟩)
  go_ret
  exact ⟨ret_bool (by rw [← HH.out]), rfl⟩

/-- Spans that lie in memory. -/
def spR (_ : World) (r : List Value) (s : Sp) : Prop := r = [.int .i64 (s.1 : Int), .int .i64 (s.2 : Int)]
theorem spR_any {w w' : World} {r : List Value} {x : Sp} (h : spR w r x) : spR w' r x := h
abbrev SpsAt (q : Option Nat) (w : World) (a : Option Addr) (xs : List Sp) : Prop := RowsAt spR q 261 2 w a xs
theorem SpsAt.below {q : Option Nat} {w w' : World} {a : Option Addr} {xs : List Sp} (h : SpsAt q w a xs) (hb : Below w.heap.size w w') : SpsAt q w' a xs := RowsAt.below h (fun _ _ _ h => spR_any h) hb
theorem SpsAt.get {q : Option Nat} {w : World} {a : Option Addr} {xs : List Sp} {i : Nat} {x : Sp} (h : SpsAt q w a xs) (hi : xs[i]? = some x) : ∃ b o, a = some ⟨b, o, none⟩ ∧ b < w.heap.size ∧ w.cell? ⟨b, o + i * 2, none⟩ = some (.int .i64 (x.1 : Int)) ∧ w.cell? ⟨b, o + i * 2 + 1, none⟩ = some (.int .i64 (x.2 : Int)) := by
  obtain ⟨b, o, r, h1, h2, h3, h4, h5⟩ := h i x hi
  unfold spR at h5
  subst h5
  have c0 := h4 0 _ rfl
  refine ⟨b, o, h1, ?_, c0, h4 1 _ rfl⟩
  by_cases hp : b < w.heap.size
  · exact hp
  · have : w.heap[b]? = none := Array.getElem?_eq_none (by omega)
    simp [World.cell?, this] at c0

theorem below_drewN2 {B n : Nat} {a w : World} (h : Below B a w) : Below B a (w.drewN n) := ⟨h.os, h.tape, h.output, h.size, h.block⟩
theorem spanOf_op {S : List Sp} {e : Ex} (k2 : e.kind = 2) : spanOf S e = if opOk S e then spanAB S e.a e.b else none := by
  simp [spanOf, k2]

theorem ret_span {f : Int} {m x : Nat} (h : m = x) : Ending.returned (.tuple #[.agg #[.int .i64 f, .int .i64 (1 + (x : Int))], .bool (decide (1 + (x : Int) ≤ 20))]) = .returned (.tuple #[.agg #[.int .i64 f, .int .i64 ((1 + m : Nat) : Int)], .bool (decide (1 + m ≤ 20))]) := by
  subst h
  rw [show ((1 + m : Nat) : Int) = 1 + (m : Int) by omega, show decide (1 + m ≤ 20) = decide (1 + (m : Int) ≤ 20) from decide_eq_decide.2 (by omega)]

set_option maxHeartbeats 1600000 in
theorem spanOfParts_ok (e : Ex) (a : Option Addr) (c : Nat) (S : List Sp) {q : Option Nat} (w : World) (hv : SpsAt q w a S) (hl : S.length ≤ 60) (k2 : e.kind = 2) (ho0 : 0 ≤ e.op) (ho1 : e.op < 256)
    (v0 : e.var.toList = []) (z0 : e.val.kind = 0) (z1 : e.val.num = 0) (z2 : e.val.sym.toList = []) (har : isAr e.op = true) (an bn : Nat) (sa sb : Sp) (han : e.a = (an : Int)) (hbn : e.b = (bn : Int)) (hsa : S[an]? = some sa) (hsb : S[bn]? = some sb) (hbl : bn + 1 = S.length) (ha : an + 1 = sb.1) (hd2 : sb.2 ≤ 20) (hd4 : sa.2 ≤ 20) :
    Calls Tryz.prog 226 #[.agg #[.int .i64 e.kind, .int .u8 e.op, .string e.var, .int .i64 e.val.kind, .int .i64 e.val.num, .string e.val.sym, .int .i64 e.a, .int .i64 e.b], .slice a S.length c] w fun r w' =>
      r = .returned (.tuple #[.agg #[.int .i64 (sa.1 : Int), .int .i64 ((1 + max sa.2 sb.2 : Nat) : Int)], .bool (decide (1 + max sa.2 sb.2 ≤ 20))]) ∧ Below w.heap.size w w' := by
  have B2 : ∀ o o', Below w.heap.size w ((w.alloc o).alloc o') := fun o o' => ((Below.refl _ _).alloc (Nat.le_refl _) _).alloc (by simp) _
  obtain ⟨b, o, rfl, hbw, c0, c1⟩ := hv.get hsb
  obtain ⟨b', o', hbe, hbw', c2, c3⟩ := hv.get hsa
  injection hbe with hbe
  injection hbe with hbe1 hbe2 _
  subst hbe1 hbe2
  have hal : an < S.length := (List.getElem?_eq_some_iff.1 hsa).1
  have d0 : decide ((bn : Int) < 0) = false := decide_eq_false (by omega)
  have d1 : decide ((an : Int) < 0) = false := decide_eq_false (by omega)
  have e1 : ((bn : Int) != (S.length : Int) - 1) = false := by simp; omega
  have e2 : ((an : Int) != (sb.1 : Int) - 1) = false := by simp; omega
  have z3 : (bn : Int) < (S.length : Int) := by omega
  have z4 : (0 : Int) ≤ (bn : Int) := by omega
  have z5 : (an : Int) < (S.length : Int) := by omega
  have z6 : (0 : Int) ≤ (an : Int) := by omega
  have hbw1 : b < w.heap.size + 1 := by omega
  have hbw2 : b < w.heap.size + 1 + 1 := by omega
  have hbw3 : b < w.heap.size + 1 + 1 + 1 := by omega
  have hdr : ∀ (W : World) (n : Nat), (W.drewN n).heap = W.heap := fun _ _ => rfl
  have hsb60 : sb.1 ≤ 60 := by omega
  clear hsa hsb hv hbw' hbl ha
  rw [hbn, han]
  clear hbn han
  go_enter Tryz.func226, Tryz.ntmps226
  go_wp2_with (go_at_call 223; refine (isArith_any e.op ho0 ho1 _).mono ?_; rintro e' w' ⟨rfl, rfl⟩)
  go_quiet (fail)
  go_wp2
  have hbw0 : ∀ n o1 o2, b < (((w.alloc o1).alloc o2).drewN n).heap.size := fun n o1 o2 => by
    show b < ((w.alloc o1).alloc o2).heap.size
    simp
    omega
  go_region
  all_goals go_wp2
  all_goals go_region
  all_goals go_wp2
  all_goals first
    | (refine bodyPost_ret (v := .tuple #[.agg #[.int .i64 (sa.1 : Int), .int .i64 (1 + (sb.2 : Int))], .bool (decide (1 + (sb.2 : Int) ≤ 20))]) (by simp [results, Tryz.results226, go_sem]) rfl ⟨ret_span (show max sa.2 sb.2 = sb.2 by omega), ?_⟩
       repeat first | exact B2 _ _ | refine below_drewN2 ?_ | refine Below.alloc ?_ (by first | (simp; done) | (simp; omega)) _ | refine Below.setCell ?_ (by first | (simp; done) | (simp; omega)) _)
    | (refine bodyPost_ret (v := .tuple #[.agg #[.int .i64 (sa.1 : Int), .int .i64 (1 + (sa.2 : Int))], .bool (decide (1 + (sa.2 : Int) ≤ 20))]) (by simp [results, Tryz.results226, go_sem]) rfl ⟨ret_span (show max sa.2 sb.2 = sa.2 by omega), ?_⟩
       repeat first | exact B2 _ _ | refine below_drewN2 ?_ | refine Below.alloc ?_ (by first | (simp; done) | (simp; omega)) _ | refine Below.setCell ?_ (by first | (simp; done) | (simp; omega)) _)

end Go.Proofs.YtfgpcjdjbbhdmaaGreatDoor
