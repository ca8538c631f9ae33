/-
  OUR OWN TEXT. Ao1, Ao2, one behind the other.
-/
import Derived.Test.YtognpkdgphebeaaGreatJb
import Derived.Test.YtognpkdgphebeaaGreatUa
import Derived.Test.YtognpkdgphebeaaGreatJc
import Derived.Deep.DrawnRows
import Derived.BigQuiet
import Derived.Test.YtognpkdgphebeaaGreatJf
namespace Go.Proofs.YtognpkdgphebeaaGreat
open Go.RowKit
attribute [local go_sem ↓] Go.wp_at_zero Go.wp_at_succ

theorem hidO {p : Prop} (h : p) : Hid p := h
theorem below_dO {B n : Nat} {a w : World} (h : Below B a w) : Below B a (w.drewN n) := ⟨h.os, h.tape, h.output, h.size, h.block⟩
def tmOp (t : Tm) : Int := if t.kind == 3 then t.op else 1
def isVar (name : ByteArray) (t : Tm) : Bool := t.kind == 2 && (t.var.toList == name.toList)
/-- The first of the terms that is this variable, counted from k. -/
def firstVar (name : ByteArray) : List Tm → Nat → Option Nat
  | [], _ => none
  | t :: r, k => if isVar name t then some k else firstVar name r (k + 1)
def earlier (ts : List Tm) (i : Nat) (name : ByteArray) : Option Nat := firstVar name (ts.take i) 0
def atI : Option Nat → Int
  | none => -1
  | some k => (k : Int)
def zVa : V := (0, 0, ⟨#[]⟩)
def testOf (ts : List Tm) (i : Nat) (t : Tm) : Option Tt :=
  if t.kind == 0 then none
  else if t.var.toList.isEmpty then some ⟨(i : Int), tmOp t, -1, t.val⟩
  else match earlier ts i t.var with
    | none => none
    | some k => some ⟨(i : Int), tmOp t, (k : Int), zVa⟩
def testsUpTo (ts : List Tm) : Nat → List Tt
  | 0 => []
  | i + 1 => testsUpTo ts i ++ (match ts[i]? with | none => [] | some t => (testOf ts i t).toList)
def alphaOf (p : Pt) : Al := if gPt p then ⟨p.cls, (p.terms.length : Int), testsUpTo p.terms p.terms.length⟩ else ⟨⟨#[]⟩, 0, []⟩
theorem firstVar_cons (name : ByteArray) (t : Tm) (r : List Tm) (k : Nat) : firstVar name (t :: r) k = if isVar name t then some k else firstVar name r (k + 1) := rfl

set_option maxHeartbeats 400000 in
theorem operator_any (t : Tm) (w : World) :
    Calls Tryz.prog 136 #[.agg #[.int .i64 t.kind, .int .i64 t.op, .string t.var, .int .i64 t.val.kind, .int .i64 t.val.num, .string t.val.sym]] w fun e w' => e = .returned (.int .i64 (tmOp t)) ∧ Below w.heap.size w w' := by
  by_cases h3 : t.kind = 3
  · rw [h3]
    go_enter Tryz.func136, Tryz.ntmps136
    go_wp2
    go_ret
    exact ⟨by simp [tmOp, h3], (Below.refl _ _).alloc (Nat.le_refl _) _⟩
  · go_enter Tryz.func136, Tryz.ntmps136
    go_wp2
    go_ret
    exact ⟨by simp [tmOp, h3], (Below.refl _ _).alloc (Nat.le_refl _) _⟩

set_option maxHeartbeats 1600000 in
theorem bound_any (p : Pt) (a_terms : Option Addr) (c_terms : Nat) {q : Option Nat} (i : Nat) (ti : Tm) (w : World) (h_terms : TmsAt q w a_terms p.terms) (hi : p.terms[i]? = some ti) (hl : p.terms.length ≤ 1048576) (hcp : p.terms.length ≤ c_terms) :
    Calls Tryz.prog 135 #[.agg #[.bool p.neg, .string p.cls, .slice a_terms p.terms.length c_terms], .int .i64 (i : Int)] w fun e w' => e = .returned (.int .i64 (atI (earlier p.terms i ti.var))) ∧ Below w.heap.size w w' := by
  have B0 : ∀ o, Below w.heap.size w (w.alloc o) := fun o => (Below.refl _ _).alloc (Nat.le_refl _) _
  have hil : i < p.terms.length := (List.getElem?_eq_some_iff.1 hi).1
  have hlen : (p.terms.take i).length = i := by simp; omega
  have y0 : (0 : Int) ≤ (i : Int) := by omega
  have y1 : (i : Int) ≤ (c_terms : Int) := by omega
  have y2 : (i : Int) < (p.terms.length : Int) := by omega
  obtain ⟨bi, oi, ei, _, i0, i1, i2, i3, i4, i5⟩ := h_terms.get hi
  subst ei
  have HI2 := hidO i2
  clear i0 i1 i2 i3 i4 i5
  go_enter Tryz.func135, Tryz.ntmps135
  go_wp2
  go_loopw [12] (fun v wr => ∃ (k : Nat), k ≤ i ∧ v = .int .i64 k ∧ earlier p.terms i ti.var = firstVar ti.var ((p.terms.take i).drop k) k ∧ wr.cell? ⟨w.heap.size, 2, none⟩ = some (.slice (some ⟨bi, oi, none⟩) p.terms.length c_terms) ∧ Below w.heap.size w wr) (fun v _ => i - (intOf v).toNat)
  case atStart => exact ⟨0, by omega, rfl, rfl, by simp [go_sem], B0 _⟩
  case round =>
    obtain ⟨k, hk, rfl, hG, hc2, hb⟩ := hrel
    have HG := hidO hG
    clear hG
    by_cases hkl : k < i
    · obtain ⟨t, htk⟩ : ∃ t, p.terms[k]? = some t := ⟨p.terms[k]'(by omega), by simp⟩
      have htk' : (p.terms.take i)[k]? = some t := by rw [List.getElem?_take, if_pos hkl, htk]
      have HD : Hid ((p.terms.take i).drop k = t :: (p.terms.take i).drop (k + 1)) := drop_cons htk'
      obtain ⟨b, o, ea, hq, c0, c1, c2, c3, c4, c5⟩ := (h_terms.below hb).get htk
      cases ea
      have R1 : ∀ o, Below wr.heap.size wr (wr.alloc o) := fun o => (Below.refl _ _).alloc (Nat.le_refl _) _
      have z0 : (0 : Int) ≤ (k : Int) := by omega
      have z1 : (k : Int) < (i : Int) := by omega
      have hc2' := fun o => cell_below (R1 o) hc2
      have hi2' := fun o => cell_below (R1 o) (cell_below hb HI2.out)
      by_cases k2 : t.kind = 2
      · rw [k2] at c0
        have hk2 : ((2 : Int) == 2) = true := rfl
        cases hn : (t.var.toList == ti.var.toList)
        all_goals
          go_wp2
          go_quiet (fail)
          go_wp2
        · have HX : Hid (earlier p.terms i ti.var = firstVar ti.var ((p.terms.take i).drop (k + 1)) (k + 1)) := show earlier p.terms i ti.var = _ from by rw [HG.out, HD.out, firstVar_cons]; simp [isVar, hn]
          go_roundw
          case rel => exact ⟨k + 1, by omega, by go_num, HX.out, hc2' _, below_dO (hb.alloc hb.size _)⟩
          case measure => simp [intOf]; omega
        · have HX : Hid (earlier p.terms i ti.var = some k) := show earlier p.terms i ti.var = _ from by rw [HG.out, HD.out, firstVar_cons]; simp [isVar, k2, hn]
          go_ret
          exact ⟨ret_int (by rw [HX.out]; rfl), below_dO (hb.alloc hb.size _)⟩
      · have HX : Hid (earlier p.terms i ti.var = firstVar ti.var ((p.terms.take i).drop (k + 1)) (k + 1)) := show earlier p.terms i ti.var = _ from by rw [HG.out, HD.out, firstVar_cons]; simp [isVar, k2]
        have hk2 : (t.kind == 2) = false := by simpa using k2
        go_wp2
        go_quiet (fail)
        go_wp2
        go_roundw
        case rel => exact ⟨k + 1, by omega, by go_num, HX.out, hc2' _, below_dO (hb.alloc hb.size _)⟩
        case measure => simp [intOf]; omega
    · have z1 : ¬ (k : Int) < (i : Int) := by omega
      go_wp2
      go_ret
      exact ⟨ret_int (by rw [HG.out, List.drop_eq_nil_of_le (by omega)]; rfl), hb⟩
end Go.Proofs.YtognpkdgphebeaaGreat

namespace Go.Proofs.YtognpkdgphebeaaGreat
open Go.RowKit

def ttCells (t : Tt) : List Value := [.int .i64 t.slot, .int .i64 t.op, .int .i64 t.other, .int .i64 t.val.kind, .int .i64 t.val.num, .string t.val.sym]
theorem ttFlat_len : ∀ S : List Tt, (S.flatMap ttCells).length = S.length * 6
  | [] => rfl
  | s :: r => by rw [List.flatMap_cons, List.length_append, ttFlat_len r]; simp [ttCells]; omega
theorem ttFlat_at : ∀ (S : List Tt) (i : Nat) (s : Tt) (j : Nat) (v : Value), S[i]? = some s → (ttCells s)[j]? = some v → (S.flatMap ttCells)[i * 6 + j]? = some v
  | [], i, s, j, v, h, _ => by simp at h
  | x :: r, 0, s, j, v, h, hj => by
    simp at h
    subst h
    have hl : j < (ttCells x).length := (List.getElem?_eq_some_iff.1 hj).1
    rw [List.flatMap_cons, List.getElem?_append_left (by omega)]
    simpa using hj
  | x :: r, i + 1, s, j, v, h, hj => by
    have := ttFlat_at r i s j v (by simpa using h) hj
    rw [List.flatMap_cons, List.getElem?_append_right (by simp [ttCells]; omega), show (i + 1) * 6 + j - (ttCells x).length = i * 6 + j by simp [ttCells]; omega]
    exact this
theorem TtsAt.owns {w : World} {base n : Nat} {a : Option Addr} {c : Nat} {S : List Tt} (h : w.ownsRow base 226 6 (.slice a n c) n (S.flatMap ttCells)) : TtsAt none w a S := by
  intro i s hs
  obtain ⟨g, rfl, _, _, _⟩ := owns_cell h (ttFlat_at S i s 0 _ hs rfl)
  refine ⟨g, 0, ttCells s, rfl, Qb.bare _ _ _, rfl, ?_, rfl⟩
  intro j v hj
  obtain ⟨g', hg', _, hc, _⟩ := owns_cell h (ttFlat_at S i s j v hs hj)
  cases hg'
  rwa [Nat.zero_add]
theorem ttCells_one (s : Tt) : ∀ u ∈ ttCells s, u.oneCell' = true := by
  intro u hu
  simp [ttCells] at hu
  rcases hu with rfl | rfl | rfl | rfl | rfl | rfl <;> rfl
theorem infoTt' : (Tryz.prog.info? 226).map (fun i => (i.zero, i.size, i.bytes)) = some (some (.agg #[.int .i64 0, .int .i64 0, .int .i64 0, .int .i64 0, .int .i64 0, .string ⟨#[]⟩]), 6, 56) := by kernel_rfl

/-- A box of three cells, none of it frozen. -/
def C3 (w : World) (b : Nat) (x0 x1 x2 : Value) : Prop := w.cell? ⟨b, 0, none⟩ = some x0 ∧ w.cell? ⟨b, 1, none⟩ = some x1 ∧ w.cell? ⟨b, 2, none⟩ = some x2 ∧ w.frozen? ⟨b, 0, none⟩ = false ∧ w.frozen? ⟨b, 1, none⟩ = false ∧ w.frozen? ⟨b, 2, none⟩ = false
theorem C3.belowB {w w' : World} {b B : Nat} {x0 x1 x2 : Value} (h : C3 w b x0 x1 x2) (hb : Below B w w') (hB : b < B) : C3 w' b x0 x1 x2 := by
  obtain ⟨h0, h1, h2, g0, g1, g2⟩ := h
  have hk := hb.block b hB
  refine ⟨?_, ?_, ?_, ?_, ?_, ?_⟩ <;> simp only [World.cell?, World.frozen?, hk] <;> assumption
theorem C3.lt {w : World} {b : Nat} {x0 x1 x2 : Value} (h : C3 w b x0 x1 x2) : b < w.heap.size := by
  by_cases hp : b < w.heap.size
  · exact hp
  · have : w.heap[b]? = none := Array.getElem?_eq_none (by omega)
    have h0 := h.1
    simp [World.cell?, this] at h0
theorem C3.below {w w' : World} {b : Nat} {x0 x1 x2 : Value} (h : C3 w b x0 x1 x2) (hb : Below w.heap.size w w') : C3 w' b x0 x1 x2 := h.belowB hb h.lt
theorem C3.made (w : World) (t : TypeId) (x0 x1 x2 : Value) : C3 (w.alloc (.cells #[x0, x1, x2] t)) w.heap.size x0 x1 x2 := by
  refine ⟨?_, ?_, ?_, ?_, ?_, ?_⟩ <;> simp [go_sem]

theorem C3.set2 {w : World} {b : Nat} {x0 x1 x2 : Value} (h : C3 w b x0 x1 x2) (y : Value) : C3 (w.setCell ⟨b, 2, none⟩ y) b x0 x1 y := by
  have hl := h.lt
  obtain ⟨h0, h1, h2, g0, g1, g2⟩ := h
  refine ⟨?_, ?_, ?_, ?_, ?_, ?_⟩ <;> simp [go_sem, *]
theorem ao_own {w w' : World} {base : Nat} {t : TypeId} {m : Nat} {v : Value} {n : Nat} {xs : List Value} (h : w.ownsRow base t m v n xs) (hb : Below w.heap.size w w') : w'.ownsRow base t m v n xs :=
  owns_of_block h (fun g hg => hb.block g (h.lt g hg).2)
/-- One more test is put behind the others: the list's own place in the box is written. -/
theorem ao_put {w1 wr w3 : World} {B : Nat} {x0 x1 v : Value} {t : TypeId} {a3 : Option Addr} {m c3 : Nat} {xs : List Value} (hout : C3 wr B x0 x1 v) (hW3 : Below (B + 1) wr w3) (ho3 : w3.ownsRow (B + 1) t 6 (.slice a3 m c3) m xs) (hb : Below B w1 wr) :
    C3 (w3.setCell ⟨B, 2, none⟩ (.slice a3 m c3)) B x0 x1 (.slice a3 m c3) ∧ (w3.setCell ⟨B, 2, none⟩ (.slice a3 m c3)).ownsRow (B + 1) t 6 (.slice a3 m c3) m xs ∧ Below B w1 (w3.setCell ⟨B, 2, none⟩ (.slice a3 m c3)) := by
  refine ⟨(hout.belowB hW3 (by omega)).set2 _, owns_of_block ho3 (fun g hg => ?_), (hb.trans (hW3.mono (by omega))).setCell (by simp) _⟩
  have := (ho3.lt g hg).1
  exact Below.heap_setCell _ _ _ _ (by simp; omega)
theorem news_allocA (w : World) (L : List Value) (t : TypeId) (b : Nat) (hb : b = w.heap.size) (ad : Addr) (e : some (⟨b, 0, none⟩ : Addr) = some ad) (j : Nat) (u : Value) (h : L[j]? = some u) : (w.alloc (.cells L.toArray t)).cell? (ad.add j) = some u := by
  subst hb
  cases e
  rw [Addr.add_mid, Nat.zero_add]
  have hb := heap_alloc_new w (.cells L.toArray t)
  simp only [World.cell?, hb]
  simpa using h
theorem bytes_empty {s : ByteArray} (h : s.toList.isEmpty = true) : s = ⟨#[]⟩ := by
  have h1 : (s.toList == (⟨#[]⟩ : ByteArray).toList) = true := by
    have : s.toList = [] := by simpa using h
    rw [this, show (⟨#[]⟩ : ByteArray).toList = [] by decide +kernel]
    rfl
  rw [bytes_beq] at h1
  simpa using h1
theorem zeroV_eq {v : V} (h : zeroV v = true) : v = zVa := by
  simp only [zeroV, isE, Bool.and_eq_true, beq_iff_eq] at h
  obtain ⟨h0, h1, h2⟩ := h
  have h3 := bytes_empty h2
  exact Prod.ext h0 (Prod.ext h1 h3)
theorem gTm_zero {t : Tm} (h : gTm t = true) (hv : t.var.toList.isEmpty = false) : t.val = zVa := by
  have hE : isE t.var = false := hv
  unfold gTm operandOk at h
  rw [hE] at h
  split at h
  · simp at h
  · split at h
    · simp at h
    · split at h
      · simp only [Bool.and_eq_true] at h
        exact zeroV_eq h.2.2
      · split at h
        · simp only [Bool.false_and, Bool.false_or, Bool.and_eq_true] at h
          exact zeroV_eq h.2.2.2
        · cases h
theorem gPt_mem {p : Pt} (h : gPt p = true) {i : Nat} {t : Tm} (ht : p.terms[i]? = some t) : gTm t = true := by
  simp only [gPt, Bool.and_eq_true] at h
  exact List.all_eq_true.1 h.2.2 t (List.mem_of_getElem? ht)
theorem gPt_six {p : Pt} (h : gPt p = true) : p.terms.length ≤ 6 := by
  simp only [gPt, Bool.and_eq_true, decide_eq_true_eq] at h
  exact h.2.1
theorem tests_succ {ts : List Tm} {k : Nat} {t : Tm} (h : ts[k]? = some t) : testsUpTo ts (k + 1) = testsUpTo ts k ++ (testOf ts k t).toList := by
  simp [testsUpTo, h]
theorem tests_len (ts : List Tm) : ∀ k, (testsUpTo ts k).length ≤ k
  | 0 => Nat.le_refl _
  | k + 1 => by
    have := tests_len ts k
    unfold testsUpTo
    rw [List.length_append]
    cases ts[k]? with
    | none => simp; omega
    | some t => cases h : testOf ts k t <;> simp [h] <;> omega
end Go.Proofs.YtognpkdgphebeaaGreat
