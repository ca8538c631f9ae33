/-
  OUR OWN TEXT. The Alpha of a pattern: the plain mathematics; where a variable is bound first; the operator of a term.
-/
import Derived.Test.YtofmgaebgojonaaChk
import Derived.Test.YtofmgaebgojonaaTyA
import Derived.Test.YtofmgaebgojonaaSym
import Derived.Deep.DrawnRows
import Derived.BigQuiet
namespace Go.Proofs.Ytofmgaebgojonaa
open Go.RowKit
attribute [local go_sem ↓] Go.wp_at_zero Go.wp_at_succ

theorem hidO {p : Prop} (h : p) : Hid p := h
theorem below_dO {B n : Nat} {a w : World} (h : Below B a w) : Below B a (w.drewN n) := ⟨h.os, h.tape, h.output, h.size, h.block⟩
def tmOp (t : Tm) : Int := if t.kind == 3 then t.op else 1
def isVar (name : ByteArray) (t : Tm) : Bool := t.kind == 2 && (t.var.toList == name.toList)
/-- The first of the terms that is this variable, counted from k. -/
def firstVar (name : ByteArray) : List Tm → Nat → Option Nat
  | [], _ => none
  | t :: r, k => if isVar name t then some k else firstVar name r (k + 1)
def earlier (ts : List Tm) (i : Nat) (name : ByteArray) : Option Nat := firstVar name (ts.take i) 0
def atI : Option Nat → Int
  | none => -1
  | some k => (k : Int)
def zVa : V := (0, 0, ⟨#[]⟩)
def testOf (ts : List Tm) (i : Nat) (t : Tm) : Option Tt :=
  if t.kind == 0 then none
  else if t.var.toList.isEmpty then some ⟨(i : Int), tmOp t, -1, t.val⟩
  else match earlier ts i t.var with
    | none => none
    | some k => some ⟨(i : Int), tmOp t, (k : Int), zVa⟩
def testsUpTo (ts : List Tm) : Nat → List Tt
  | 0 => []
  | i + 1 => testsUpTo ts i ++ (match ts[i]? with | none => [] | some t => (testOf ts i t).toList)
def alphaOf (p : Pt) : Al := if gPt p then ⟨p.cls, (p.terms.length : Int), testsUpTo p.terms p.terms.length⟩ else ⟨⟨#[]⟩, 0, []⟩
theorem firstVar_cons (name : ByteArray) (t : Tm) (r : List Tm) (k : Nat) : firstVar name (t :: r) k = if isVar name t then some k else firstVar name r (k + 1) := rfl

set_option maxHeartbeats 400000 in
theorem operator_any (t : Tm) (w : World) :
    Calls Try.prog 94 #[.agg #[.int .i64 t.kind, .int .i64 t.op, .string t.var, .int .i64 t.val.kind, .int .i64 t.val.num, .string t.val.sym]] w fun e w' => e = .returned (.int .i64 (tmOp t)) ∧ Below w.heap.size w w' := by
  by_cases h3 : t.kind = 3
  · rw [h3]
    go_enter Try.func94, Try.ntmps94
    go_wp2
    go_ret
    exact ⟨by simp [tmOp, h3], (Below.refl _ _).alloc (Nat.le_refl _) _⟩
  · go_enter Try.func94, Try.ntmps94
    go_wp2
    go_ret
    exact ⟨by simp [tmOp, h3], (Below.refl _ _).alloc (Nat.le_refl _) _⟩

set_option maxHeartbeats 1600000 in
theorem l3Earlier_any (p : Pt) (a_terms : Option Addr) (c_terms : Nat) {q : Option Nat} (i : Nat) (name : ByteArray) (w : World) (h_terms : TmsAt q w a_terms p.terms) (hi : i ≤ p.terms.length) (hl : p.terms.length ≤ 1048576) :
    Calls Try.prog 90 #[.agg #[.bool p.neg, .string p.cls, .slice a_terms p.terms.length c_terms], .int .i64 (i : Int), .string name] w fun e w' => e = .returned (.int .i64 (atI (earlier p.terms i name))) ∧ Below w.heap.size w w' := by
  have B0 : ∀ o, Below w.heap.size w (w.alloc o) := fun o => (Below.refl _ _).alloc (Nat.le_refl _) _
  have hlen : (p.terms.take i).length = i := by simp; omega
  go_enter Try.func90, Try.ntmps90
  go_wp2
  go_loopw [7] (fun v wr => ∃ (k : Nat), k ≤ i ∧ v = .int .i64 k ∧ earlier p.terms i name = firstVar name ((p.terms.take i).drop k) k ∧ wr.cell? ⟨w.heap.size, 2, none⟩ = some (.slice a_terms p.terms.length c_terms) ∧ Below w.heap.size w wr) (fun v _ => i - (intOf v).toNat)
  case atStart => exact ⟨0, by omega, rfl, rfl, by simp [go_sem], B0 _⟩
  case round =>
    obtain ⟨k, hk, rfl, hG, hc2, hb⟩ := hrel
    have HG := hidO hG
    clear hG
    by_cases hkl : k < i
    · obtain ⟨t, htk⟩ : ∃ t, p.terms[k]? = some t := ⟨p.terms[k]'(by omega), by simp⟩
      have htk' : (p.terms.take i)[k]? = some t := by rw [List.getElem?_take, if_pos hkl, htk]
      have HD : Hid ((p.terms.take i).drop k = t :: (p.terms.take i).drop (k + 1)) := drop_cons htk'
      obtain ⟨b, o, ea, hq, c0, c1, c2, c3, c4, c5⟩ := (h_terms.below hb).get htk
      subst ea
      have z0 : (0 : Int) ≤ (k : Int) := by omega
      have z1 : (k : Int) < (p.terms.length : Int) := by omega
      have z2 : (k : Int) < (i : Int) := by omega
      by_cases k2 : t.kind = 2
      · rw [k2] at c0
        cases hn : (t.var.toList == name.toList)
        · have HX : Hid (earlier p.terms i name = firstVar name ((p.terms.take i).drop (k + 1)) (k + 1)) := show earlier p.terms i name = _ from by rw [HG.out, HD.out, firstVar_cons]; simp [isVar, hn]
          go_wp2
          go_roundw
          case rel => exact ⟨k + 1, by omega, by go_num, HX.out, hc2, hb⟩
          case measure => simp [intOf]; omega
        · have HX : Hid (earlier p.terms i name = some k) := show earlier p.terms i name = _ from by rw [HG.out, HD.out, firstVar_cons]; simp [isVar, k2, hn]
          go_wp2
          go_ret
          exact ⟨ret_int (by rw [HX.out]; rfl), hb⟩
      · have HX : Hid (earlier p.terms i name = firstVar name ((p.terms.take i).drop (k + 1)) (k + 1)) := show earlier p.terms i name = _ from by rw [HG.out, HD.out, firstVar_cons]; simp [isVar, k2]
        go_wp2
        go_roundw
        case rel => exact ⟨k + 1, by omega, by go_num, HX.out, hc2, hb⟩
        case measure => simp [intOf]; omega
    · have z2 : ¬ (k : Int) < (i : Int) := by omega
      go_wp2
      go_ret
      exact ⟨ret_int (by rw [HG.out, List.drop_eq_nil_of_le (by omega)]; rfl), hb⟩

set_option maxHeartbeats 1600000 in
theorem bound_any (p : Pt) (a_terms : Option Addr) (c_terms : Nat) {q : Option Nat} (i : Nat) (ti : Tm) (w : World) (h_terms : TmsAt q w a_terms p.terms) (hi : p.terms[i]? = some ti) (hl : p.terms.length ≤ 1048576) (hcp : p.terms.length ≤ c_terms) :
    Calls Try.prog 93 #[.agg #[.bool p.neg, .string p.cls, .slice a_terms p.terms.length c_terms], .int .i64 (i : Int)] w fun e w' => e = .returned (.int .i64 (atI (earlier p.terms i ti.var))) ∧ Below w.heap.size w w' := by
  have B0 : ∀ o, Below w.heap.size w (w.alloc o) := fun o => (Below.refl _ _).alloc (Nat.le_refl _) _
  have hil : i < p.terms.length := (List.getElem?_eq_some_iff.1 hi).1
  have hlen : (p.terms.take i).length = i := by simp; omega
  have y0 : (0 : Int) ≤ (i : Int) := by omega
  have y1 : (i : Int) ≤ (c_terms : Int) := by omega
  have y2 : (i : Int) < (p.terms.length : Int) := by omega
  obtain ⟨bi, oi, ei, _, i0, i1, i2, i3, i4, i5⟩ := h_terms.get hi
  subst ei
  have HI2 := hidO i2
  clear i0 i1 i2 i3 i4 i5
  go_enter Try.func93, Try.ntmps93
  go_wp2
  go_loopw [12] (fun v wr => ∃ (k : Nat), k ≤ i ∧ v = .int .i64 k ∧ earlier p.terms i ti.var = firstVar ti.var ((p.terms.take i).drop k) k ∧ wr.cell? ⟨w.heap.size, 2, none⟩ = some (.slice (some ⟨bi, oi, none⟩) p.terms.length c_terms) ∧ Below w.heap.size w wr) (fun v _ => i - (intOf v).toNat)
  case atStart => exact ⟨0, by omega, rfl, rfl, by simp [go_sem], B0 _⟩
  case round =>
    obtain ⟨k, hk, rfl, hG, hc2, hb⟩ := hrel
    have HG := hidO hG
    clear hG
    by_cases hkl : k < i
    · obtain ⟨t, htk⟩ : ∃ t, p.terms[k]? = some t := ⟨p.terms[k]'(by omega), by simp⟩
      have htk' : (p.terms.take i)[k]? = some t := by rw [List.getElem?_take, if_pos hkl, htk]
      have HD : Hid ((p.terms.take i).drop k = t :: (p.terms.take i).drop (k + 1)) := drop_cons htk'
      obtain ⟨b, o, ea, hq, c0, c1, c2, c3, c4, c5⟩ := (h_terms.below hb).get htk
      cases ea
      have R1 : ∀ o, Below wr.heap.size wr (wr.alloc o) := fun o => (Below.refl _ _).alloc (Nat.le_refl _) _
      have z0 : (0 : Int) ≤ (k : Int) := by omega
      have z1 : (k : Int) < (i : Int) := by omega
      have hc2' := fun o => cell_below (R1 o) hc2
      have hi2' := fun o => cell_below (R1 o) (cell_below hb HI2.out)
      by_cases k2 : t.kind = 2
      · rw [k2] at c0
        have hk2 : ((2 : Int) == 2) = true := rfl
        cases hn : (t.var.toList == ti.var.toList)
        all_goals
          go_wp2
          go_quiet (fail)
          go_wp2
        · have HX : Hid (earlier p.terms i ti.var = firstVar ti.var ((p.terms.take i).drop (k + 1)) (k + 1)) := show earlier p.terms i ti.var = _ from by rw [HG.out, HD.out, firstVar_cons]; simp [isVar, hn]
          go_roundw
          case rel => exact ⟨k + 1, by omega, by go_num, HX.out, hc2' _, below_dO (hb.alloc hb.size _)⟩
          case measure => simp [intOf]; omega
        · have HX : Hid (earlier p.terms i ti.var = some k) := show earlier p.terms i ti.var = _ from by rw [HG.out, HD.out, firstVar_cons]; simp [isVar, k2, hn]
          go_ret
          exact ⟨ret_int (by rw [HX.out]; rfl), below_dO (hb.alloc hb.size _)⟩
      · have HX : Hid (earlier p.terms i ti.var = firstVar ti.var ((p.terms.take i).drop (k + 1)) (k + 1)) := show earlier p.terms i ti.var = _ from by rw [HG.out, HD.out, firstVar_cons]; simp [isVar, k2]
        have hk2 : (t.kind == 2) = false := by simpa using k2
        go_wp2
        go_quiet (fail)
        go_wp2
        go_roundw
        case rel => exact ⟨k + 1, by omega, by go_num, HX.out, hc2' _, below_dO (hb.alloc hb.size _)⟩
        case measure => simp [intOf]; omega
    · have z1 : ¬ (k : Int) < (i : Int) := by omega
      go_wp2
      go_ret
      exact ⟨ret_int (by rw [HG.out, List.drop_eq_nil_of_le (by omega)]; rfl), hb⟩
end Go.Proofs.Ytofmgaebgojonaa
