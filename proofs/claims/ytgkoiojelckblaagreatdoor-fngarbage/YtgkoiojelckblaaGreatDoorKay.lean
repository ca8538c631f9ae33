/-
  OUR OWN TEXT. Ic2b, Ic4, Ic4b, Ic6, Sc3, Ic8, Ic9, Ic9b, Ic10, Ic3, Ic3b, Ic7, Ic11, one behind the other.
-/
import Derived.Test.YtgkoiojelckblaaGreatDoorKas
import Derived.BigQuiet
import Derived.Deep.RegionLaw
import Derived.Test.YtgkoiojelckblaaGreatDoorKag
import Derived.Test.YtgkoiojelckblaaGreatDoorSc1m
import Derived.Test.YtgkoiojelckblaaGreatDoorSc2m
import Derived.Test.YtgkoiojelckblaaGreatDoorKaq
import Derived.Deep.RegionHeld3
import Derived.Deep.DrawnRows
import Derived.StringKeys
import Derived.Maps.Own
import Derived.Maps.Views
import Derived.Maps.Keyed
import Derived.Shelf.SlMaps.Clone
namespace Go.Proofs.YtgkoiojelckblaaGreatDoor
open Go.RowKit
attribute [local go_sem ↓] Go.wp_at_zero Go.wp_at_succ

end Go.Proofs.YtgkoiojelckblaaGreatDoor

namespace Go.Proofs.YtgkoiojelckblaaGreatDoor
open Go.RowKit
attribute [local go_sem ↓] Go.wp_at_zero Go.wp_at_succ

end Go.Proofs.YtgkoiojelckblaaGreatDoor

namespace Go.Proofs.YtgkoiojelckblaaGreatDoor
open Go.RowKit
attribute [local go_sem ↓] Go.wp_at_zero Go.wp_at_succ

end Go.Proofs.YtgkoiojelckblaaGreatDoor

namespace Go.Proofs.YtgkoiojelckblaaGreatDoor
open Go.RowKit
attribute [local go_sem ↓] Go.wp_at_zero Go.wp_at_succ

theorem hideIt {p : Prop} (h : p) : Hid p := h

def spCells (s : Sp) : List Value := [.int .i64 (s.1 : Int), .int .i64 (s.2 : Int)]
theorem spFlat_at : ∀ (S : List Sp) (i : Nat) (s : Sp), S[i]? = some s → (S.flatMap spCells)[i * 2]? = some (.int .i64 (s.1 : Int)) ∧ (S.flatMap spCells)[i * 2 + 1]? = some (.int .i64 (s.2 : Int))
  | [], i, s, h => by simp at h
  | x :: r, 0, s, h => by
    simp at h
    subst h
    exact ⟨rfl, rfl⟩
  | x :: r, i + 1, s, h => by
    have := spFlat_at r i s (by simpa using h)
    rw [List.flatMap_cons]
    refine ⟨?_, ?_⟩
    · rw [List.getElem?_append_right (by simp [spCells]; omega), show (i + 1) * 2 - (spCells x).length = i * 2 by simp [spCells]; omega]
      exact this.1
    · rw [List.getElem?_append_right (by simp [spCells]; omega), show (i + 1) * 2 + 1 - (spCells x).length = i * 2 + 1 by simp [spCells]; omega]
      exact this.2
theorem SpsAt.owns {w : World} {base n : Nat} {a : Option Addr} {c : Nat} {S : List Sp} (h : w.ownsRow base 306 2 (.slice a n c) n (S.flatMap spCells)) : SpsAt none w a S := by
  intro i s hs
  obtain ⟨k0, k1⟩ := spFlat_at S i s hs
  obtain ⟨g, rfl, _, h0, _⟩ := owns_cell h k0
  obtain ⟨g1, he1, _, h1, _⟩ := owns_cell h k1
  cases he1
  refine ⟨g, 0, [.int .i64 (s.1 : Int), .int .i64 (s.2 : Int)], rfl, Qb.bare _ _ _, rfl, ?_, rfl⟩
  intro j v hj
  rw [Nat.zero_add]
  match j, hj with
  | 0, hj => simp at hj; subst hj; exact h0
  | 1, hj => simp at hj; subst hj; exact h1
theorem news_alloc' (w : World) (L : List Value) (t : TypeId) (ad : Addr) (e : some (⟨w.heap.size, 0, none⟩ : Addr) = some ad) (j : Nat) (u : Value) (h : L[j]? = some u) : (w.alloc (.cells L.toArray t)).cell? (ad.add j) = some u := by
  cases e
  rw [Addr.add_mid, Nat.zero_add]
  have hb := heap_alloc_new w (.cells L.toArray t)
  simp only [World.cell?, hb]
  simpa using h
theorem news_alloc2 (w : World) (L : List Value) (t : TypeId) (b : Nat) (hb : b = w.heap.size) (ad : Addr) (e : some (⟨b, 0, none⟩ : Addr) = some ad) (j : Nat) (u : Value) (h : L[j]? = some u) : (w.alloc (.cells L.toArray t)).cell? (ad.add j) = some u := by
  subst hb
  exact news_alloc' w L t ad e j u h
/-- Each op is a byte. -/
def OpsOk (es : List Ex) : Prop := ∀ e ∈ es, 0 ≤ e.op ∧ e.op < 256

end Go.Proofs.YtgkoiojelckblaaGreatDoor

namespace Go.Proofs.YtgkoiojelckblaaGreatDoor
open Go.RowKit
attribute [local go_sem ↓] Go.wp_at_zero Go.wp_at_succ

set_option maxHeartbeats 400000 in
theorem l2GoodAct_any (x : Ru) (a_pats : Option Addr) (c_pats : Nat) (a_exprs : Option Addr) (c_exprs : Nat) (a_acts : Option Addr) (c_acts : Nat) (y : Ac) (a_args : Option Addr) (c_args : Nat) (pb nx : Nat) (S : List Sp) {q : Option Nat} (w0 w : World)
    (hb0 : Below w0.heap.size w0 w) (h_exprs : ExsAt q w0 a_exprs x.exprs) (h_args : IntsAt q w0 a_args y.args) (hS : Spans x.exprs S) (hSl : S.length = x.exprs.length) (hle : x.exprs.length ≤ 60) (hcl : y.cls.size ≤ maxLen) (hal : y.args.length ≤ 1048576)
    (hp : w.cell? ⟨pb, 0, none⟩ = some (.int .i64 (nx : Int))) (hf : w.frozen? ⟨pb, 0, none⟩ = false) (hpb : w0.heap.size ≤ pb) (hpw : pb < w.heap.size) (hnx : nx ≤ 60) :
    Calls Tryz.prog 97 #[.agg #[.string x.name, .int .i64 x.sal, .slice a_pats x.pats.length c_pats, .slice a_exprs x.exprs.length c_exprs, .slice a_acts x.acts.length c_acts], .agg #[.int .i64 y.kind, .int .i64 y.k, .string y.cls, .slice a_args y.args.length c_args], .pointer (some ⟨pb, 0, none⟩)] w fun e w' =>
      e = .returned (.bool (gAc S y nx).isSome) ∧ Below pb w w' ∧ (∀ nx', gAc S y nx = some nx' → nx' ≤ 60 ∧ w'.cell? ⟨pb, 0, none⟩ = some (.int .i64 (nx' : Int))) ∧ w'.frozen? ⟨pb, 0, none⟩ = false := by
  cases hok : (fieldsOk y && decide (y.args.length ≤ 6))
  · exact l2GoodAct_no x a_pats c_pats a_exprs c_exprs a_acts c_acts y a_args c_args pb nx S w hcl hal hf hpw hok
  · have hok' := hok
    simp only [Bool.and_eq_true, decide_eq_true_eq] at hok'
    obtain ⟨hfo, _⟩ := hok'
    have hk : y.kind = 1 ∧ gCls y.cls = true ∧ y.k = 0 ∨ y.kind = 2 ∧ y.cls.toList.isEmpty = true ∧ ¬ y.k < -1000000 ∧ ¬ 1000000 < y.k ∧ ¬ (0 : Int) < (y.args.length : Int) ∨ y.kind = 3 ∧ y.cls.toList.isEmpty = true ∧ ¬ y.k < -1000000 ∧ ¬ 1000000 < y.k ∨ y.kind = 4 ∧ y.cls.toList.isEmpty = true ∧ y.k = 0 ∧ ¬ (0 : Int) < (y.args.length : Int) := by
      unfold fieldsOk at hfo
      split at hfo
      · rename_i h
        simp at h hfo
        exact .inl ⟨h, hfo.1, hfo.2⟩
      · split at hfo
        · rename_i h
          simp [isE, kOk] at h hfo
          exact .inr (.inl ⟨h, by simp [hfo.1.1], by omega, by omega, by simp [hfo.2]⟩)
        · split at hfo
          · rename_i h
            simp [isE, kOk] at h hfo
            exact .inr (.inr (.inl ⟨h, by simp [hfo.1], by omega, by omega⟩))
          · split at hfo
            · rename_i h
              simp [isE] at h hfo
              exact .inr (.inr (.inr ⟨h, by simp [hfo.1], hfo.2.1, by simp [hfo.2.2]⟩))
            · cases hfo
    rcases hk with ⟨k1, hg, k0⟩ | ⟨k2, he, b1, b2, ha⟩ | ⟨k3, he, b1, b2⟩ | ⟨k4, he, k0, ha⟩
    · exact l2GoodAct_ok1 x a_pats c_pats a_exprs c_exprs a_acts c_acts y a_args c_args pb nx S w0 w hb0 h_exprs h_args hS hSl hle hcl hal hp hf hpb hpw hnx hok k1 hg k0
    · exact l2GoodAct_ok2 x a_pats c_pats a_exprs c_exprs a_acts c_acts y a_args c_args pb nx S w0 w hb0 h_exprs h_args hS hSl hle hcl hal hp hf hpb hpw hnx hok k2 he b1 b2 ha
    · exact l2GoodAct_ok3 x a_pats c_pats a_exprs c_exprs a_acts c_acts y a_args c_args pb nx S w0 w hb0 h_exprs h_args hS hSl hle hcl hal hp hf hpb hpw hnx hok k3 he b1 b2
    · exact l2GoodAct_ok4 x a_pats c_pats a_exprs c_exprs a_acts c_acts y a_args c_args pb nx S w0 w hb0 h_exprs h_args hS hSl hle hcl hal hp hf hpb hpw hnx hok k4 he k0 ha
end Go.Proofs.YtgkoiojelckblaaGreatDoor

namespace Go.Proofs.YtgkoiojelckblaaGreatDoor
open Go.RowKit Go.Maps
attribute [local go_sem ↓] Go.wp_at_zero Go.wp_at_succ

/-- The map has just the names of known. -/
def NInv (known : List ByteArray) (D : DataW Unit) : Prop := ∀ s : ByteArray, s.size ≤ maxLen → has D (.string s.data.toList) = memB s known
theorem NInv.start : NInv [] (.map []) := fun _ _ => rfl
theorem memB_snoc (s v : ByteArray) (known : List ByteArray) : memB s (known ++ [v]) = (memB s known || decide (v = s)) := by
  simp [memB, List.any_append]
theorem NInv.put {known : List ByteArray} {D : DataW Unit} {v : ByteArray} (h : NInv known D) (hm : IsMap D) (d : DataW Unit) : NInv (known ++ [v]) (D.put (.string v.data.toList) d) := by
  intro s hs
  rw [memB_snoc]
  by_cases he : v = s
  · subst he
    rw [has_put_same hm (k := .string v.data.toList) trivial d, decide_eq_true rfl, Bool.or_true]
  · rw [has_put_other (fun e => he (by injection e with e; exact (Go.WideShapes.bytes_inj e).symm)) d, h s hs, decide_eq_false he, Bool.or_false]

end Go.Proofs.YtgkoiojelckblaaGreatDoor

namespace Go.Proofs.YtgkoiojelckblaaGreatDoor
open Go.RowKit Go.Maps
attribute [local go_sem ↓] Go.wp_at_zero Go.wp_at_succ

theorem termsGo_cons (t : Tm) (r : List Tm) (here : List ByteArray) : termsGo (t :: r) here = if asks t && !memB t.var here then none else termsGo r (if t.kind == 2 then here ++ [t.var] else here) := rfl
theorem hideH {p : Prop} (h : p) : Hid p := h
end Go.Proofs.YtgkoiojelckblaaGreatDoor

namespace Go.Proofs.YtgkoiojelckblaaGreatDoor
open Go.RowKit Go.Maps
attribute [local go_sem ↓] Go.wp_at_zero Go.wp_at_succ

end Go.Proofs.YtgkoiojelckblaaGreatDoor

namespace Go.Proofs.YtgkoiojelckblaaGreatDoor
open Go.RowKit Go.Maps
attribute [local go_sem ↓] Go.wp_at_zero Go.wp_at_succ

theorem RuBox.belowB {w w' : World} {b B : Nat} {x : Ru} {a_pats : Option Addr} {c_pats : Nat} {a_exprs : Option Addr} {c_exprs : Nat} {a_acts : Option Addr} {c_acts : Nat} (h : RuBox w b x a_pats c_pats a_exprs c_exprs a_acts c_acts) (hb : Below B w w') (hB : b < B) : RuBox w' b x a_pats c_pats a_exprs c_exprs a_acts c_acts := by
  obtain ⟨h0, h1, h2, h3, h4⟩ := h
  exact ⟨(hb.cell (p := ⟨b, 0, none⟩) hB).trans h0, (hb.cell (p := ⟨b, 1, none⟩) hB).trans h1, (hb.cell (p := ⟨b, 2, none⟩) hB).trans h2, (hb.cell (p := ⟨b, 3, none⟩) hB).trans h3, (hb.cell (p := ⟨b, 4, none⟩) hB).trans h4⟩
theorem patsGo_cons (p : Pt) (r : List Pt) (known : List ByteArray) (k : Nat) : patsGo (p :: r) known k = match termsGo p.terms known with | none => .inl k | some here => patsGo r (if p.neg then known else here) (k + 1) := rfl
def actsV (x : Ru) (known : List ByteArray) : Option Nat := firstBad (actVar x.exprs known) x.acts (x.pats.length + 1)
theorem scope_eq (x : Ru) : scope x = match patsGo x.pats [] 1 with | .inl i => some i | .inr known => actsV x known := by
  unfold scope actsV
  cases patsGo x.pats [] 1 <;> rfl

end Go.Proofs.YtgkoiojelckblaaGreatDoor

namespace Go.Proofs.YtgkoiojelckblaaGreatDoor
open Go.RowKit
attribute [local go_sem ↓] Go.wp_at_zero Go.wp_at_succ

end Go.Proofs.YtgkoiojelckblaaGreatDoor

namespace Go.Proofs.YtgkoiojelckblaaGreatDoor
open Go.RowKit
attribute [local go_sem ↓] Go.wp_at_zero Go.wp_at_succ

end Go.Proofs.YtgkoiojelckblaaGreatDoor

namespace Go.Proofs.YtgkoiojelckblaaGreatDoor
open Go.RowKit
attribute [local go_sem ↓] Go.wp_at_zero Go.wp_at_succ

def rest (x : Ru) : Option Nat := if (spansGo [] x.exprs).length < x.exprs.length then some ((spansGo [] x.exprs).length + 1) else actsGo (spansGo [] x.exprs) x.acts 0 1
theorem shape_go (x : Ru) (h : headOk x = true) : shape x = match firstBad gPt x.pats 1 with | some i => some i | none => rest x := by
  unfold shape rest
  rw [if_pos h]
  cases firstBad gPt x.pats 1 <;> rfl
theorem actsGo_cons (S : List Sp) (a : Ac) (r : List Ac) (nx k : Nat) : actsGo S (a :: r) nx k = match gAc S a nx with | none => some k | some nx' => actsGo S r nx' (k + 1) := rfl

end Go.Proofs.YtgkoiojelckblaaGreatDoor

namespace Go.Proofs.YtgkoiojelckblaaGreatDoor
open Go.RowKit
attribute [local go_sem ↓] Go.wp_at_zero Go.wp_at_succ

theorem firstBad_none {α : Type} {f : α → Bool} : ∀ {l : List α} {k : Nat}, firstBad f l k = none → ∀ x ∈ l, f x = true
  | [], _, _, x, hx => by simp at hx
  | y :: r, k, h, x, hx => by
    rw [firstBad_cons] at h
    split at h
    · rename_i hy
      rcases List.mem_cons.1 hx with rfl | hm
      · exact hy
      · exact firstBad_none h x hm
    · cases h
theorem argsGo_mem {S : List Sp} : ∀ {l : List Int} {nx n : Nat}, argsGo S l nx = some n → ∀ v ∈ l, 0 ≤ v ∧ v < (S.length : Int)
  | [], _, _, _, v, hv => by simp at hv
  | x :: r, nx, n, h, v, hv => by
    rw [argsGo_cons] at h
    split at h
    · rename_i hc
      simp only [Bool.and_eq_true, decide_eq_true_eq] at hc
      rcases List.mem_cons.1 hv with rfl | hm
      · exact ⟨hc.1, hc.2.1⟩
      · exact argsGo_mem h v hm
    · cases h
theorem actsGo_none {S : List Sp} : ∀ {l : List Ac} {nx k : Nat}, actsGo S l nx k = none → ∀ y ∈ l, ∀ v ∈ y.args, 0 ≤ v ∧ v < (S.length : Int)
  | [], _, _, _, y, hy, _, _ => by simp at hy
  | a :: r, nx, k, h, y, hy, v, hv => by
    rw [actsGo_cons] at h
    cases hg : gAc S a nx with
    | none => rw [hg] at h; cases h
    | some n' =>
      rw [hg] at h
      rcases List.mem_cons.1 hy with rfl | hm
      · unfold gAc at hg
        split at hg
        · exact argsGo_mem hg v hv
        · cases hg
      · exact actsGo_none h y hm v hv
/-- What a rule of right shape has. -/
theorem shape_none {x : Ru} (h : shape x = none) : x.pats.length ≤ 6 ∧ x.acts.length ≤ 8 ∧ x.exprs.length ≤ 60 ∧ (∀ p ∈ x.pats, p.terms.length ≤ 6) ∧ (spansGo [] x.exprs).length = x.exprs.length ∧ ∀ y ∈ x.acts, ∀ v ∈ y.args, 0 ≤ v ∧ v < (x.exprs.length : Int) := by
  have hh : headOk x = true := by
    cases hc : headOk x
    · simp [shape, hc] at h
    · rfl
  rw [shape_go x hh] at h
  have hh' := hh
  simp only [headOk, Bool.and_eq_true, decide_eq_true_eq] at hh'
  cases hf : firstBad gPt x.pats 1 with
  | some i => rw [hf] at h; cases h
  | none =>
    rw [hf] at h
    have h' : rest x = none := h
    unfold rest at h'
    split at h'
    · cases h'
    · rename_i hlt
      have hsp := (spansGo_spans (es := x.exprs) (l := x.exprs) (Spans.nil x.exprs) rfl).1.1
      have hfull : (spansGo [] x.exprs).length = x.exprs.length := by omega
      refine ⟨hh'.2.1, hh'.2.2.1, hh'.2.2.2, fun p hp => ?_, hfull, fun y hy v hv => ?_⟩
      · have := firstBad_none hf p hp
        simp only [gPt, Bool.and_eq_true, decide_eq_true_eq] at this
        exact this.2.1
      · have := actsGo_none h' y hy v hv
        omega

theorem cell_lt {w : World} {b o : Nat} {x : Value} (h : w.cell? ⟨b, o, none⟩ = some x) : b < w.heap.size := by
  by_cases hp : b < w.heap.size
  · exact hp
  · have : w.heap[b]? = none := Array.getElem?_eq_none (by omega)
    simp [World.cell?, this] at h
end Go.Proofs.YtgkoiojelckblaaGreatDoor
