/-
  OUR OWN TEXT. Val, Rd0, one behind the other.
-/
import Derived.Test.YtfgpcjdjbbhdmaaGreatDoorZa
import Derived.Deep.Slices
import Derived.Deep.Strs
import Derived.Lib.SmallJoins
import Derived.Deep.MidRow
namespace Go.Proofs.YtfgpcjdjbbhdmaaGreatDoor

def gVal (v : V) : Bool := (v.kind == 0 && v.sym.toList.isEmpty) || (v.kind == 1 && (v.num == 0 && gSym v.sym.data.toList))
def gSlots (vs : List V) : Bool := decide (vs.length ≤ 6) && vs.all gVal
def okF (last : Int) (f : F) : Bool := decide (last < f.tag) && (decide (f.tag ≤ 1000000) && (gSym f.cls.data.toList && gSlots f.slots))
def gFrom (last : Int) : List F → Bool
  | [] => true
  | f :: r => okF last f && gFrom f.tag r
def gFacts (fs : List F) : Bool := decide (fs.length ≤ 40) && gFrom 0 fs
/-- No fact of pre is like f (the model's question, at a pair). -/
def pairOk (sg : Bool) (f g : F) : Bool := !(sg && (decide (g.cls = f.cls) && decide (f.slots = g.slots)))
def pre1 (sg : Bool) (f : F) (pre : List F) : Bool := pre.all (pairOk sg f)
def pairs (sg : Bool) (nx : Int) : List F → List F → Bool
  | _, [] => true
  | pre, f :: r => decide (f.tag < nx) && (pre1 sg f pre && pairs sg nx (pre ++ [f]) r)
/-- A valid store, as the model asks it. -/
def sHead (fs : List F) (nx cp : Int) : Bool := decide (0 ≤ cp) && (decide (cp ≤ 40) && (decide ((fs.length : Int) ≤ cp) && (gFacts fs && (decide (1 ≤ nx) && decide (nx ≤ 1000001)))))
def sValid (fs : List F) (nx cp : Int) (sg : Bool) : Bool := sHead fs nx cp && pairs sg nx [] fs

/-- What makes two facts alike. -/
abbrev Lk := ByteArray × List V
def like (f : F) : Lk := (f.cls, f.slots)
theorem like_eq {f g : F} : like f = like g ↔ f.cls = g.cls ∧ f.slots = g.slots := Prod.mk.injEq _ _ _ _ ▸ Iff.rfl
/-- The last fact's tag is below nx. -/
def lastOk (nx : Int) (fs : List F) : Bool := match fs.getLast? with | some f => decide (f.tag < nx) | none => true
/-- A valid store, as the program asks it. -/
def iValid (fs : List F) (nx cp : Int) (sg : Bool) : Bool := sHead fs nx cp && (lastOk nx fs && (!sg || decide ((fs.map like).Nodup)))

theorem gFrom_last {last : Int} : ∀ {fs : List F}, gFrom last fs = true → ∀ f ∈ fs, ∀ l, fs.getLast? = some l → f.tag ≤ l.tag
  | [], _, f, hf, _, _ => by simp at hf
  | g :: r, h, f, hf, l, hl => by
    simp only [gFrom, Bool.and_eq_true] at h
    cases r with
    | nil =>
      simp at hf hl
      subst hf
      subst hl
      exact Int.le_refl _
    | cons g' r' =>
      have hl' : (g' :: r').getLast? = some l := by simpa using hl
      rcases List.mem_cons.1 hf with rfl | hm
      · have h1 := gFrom_last h.2 g' (by simp) l hl'
        have h2 := h.2
        simp only [gFrom, okF, Bool.and_eq_true, decide_eq_true_eq] at h2
        omega
      · exact gFrom_last h.2 f hm l hl'

theorem lastOk_iff {last nx : Int} {fs : List F} (h : gFrom last fs = true) : lastOk nx fs = fs.all (fun f => decide (f.tag < nx)) := by
  unfold lastOk
  cases hl : fs.getLast? with
  | none =>
    have : fs = [] := by simpa using hl
    simp [this]
  | some l =>
    have hm : l ∈ fs := List.mem_of_getLast? hl
    by_cases hx : l.tag < nx
    · have : fs.all (fun f => decide (f.tag < nx)) = true := by
        rw [List.all_eq_true]
        intro f hf
        have := gFrom_last h f hf l hl
        simp
        omega
      simp [this, hx]
    · have : fs.all (fun f => decide (f.tag < nx)) = false := by
        rw [List.all_eq_false]
        exact ⟨l, hm, by simpa using hx⟩
      simp [this, hx]

theorem pairs_split (sg : Bool) (nx : Int) : ∀ (fs pre : List F), pairs sg nx pre fs = (fs.all (fun f => decide (f.tag < nx)) && pairs sg (nx) pre fs)
  | [], _ => by simp [pairs]
  | f :: r, pre => by
    simp only [pairs, List.all_cons]
    rw [pairs_split sg nx r (pre ++ [f])]
    cases decide (f.tag < nx) <;> cases pre1 sg f pre <;> cases r.all (fun f => decide (f.tag < nx)) <;> cases pairs sg nx (pre ++ [f]) r <;> rfl

theorem pairs_false (nx : Int) : ∀ (fs pre : List F), pairs false nx pre fs = fs.all (fun f => decide (f.tag < nx))
  | [], _ => by simp [pairs]
  | f :: r, pre => by
    simp only [pairs, List.all_cons]
    rw [pairs_false nx r (pre ++ [f])]
    have : pre1 false f pre = true := by simp [pre1, pairOk]
    simp [this]

theorem pre1_true (f : F) (pre : List F) : pre1 true f pre = true ↔ like f ∉ pre.map like := by
  unfold pre1
  rw [List.all_eq_true]
  constructor
  · intro h hm
    obtain ⟨g, hg, he⟩ := List.mem_map.1 hm
    have := h g hg
    rw [like_eq] at he
    simp [pairOk, he.1, he.2] at this
  · intro h g hg
    simp only [pairOk, Bool.true_and, Bool.not_eq_true', Bool.and_eq_false_iff, decide_eq_false_iff_not]
    by_cases h1 : g.cls = f.cls
    · right
      intro h2
      exact h (List.mem_map.2 ⟨g, hg, like_eq.2 ⟨h1, h2.symm⟩⟩)
    · left
      exact h1

theorem pairs_true (nx : Int) : ∀ (fs pre : List F), (pre.map like).Nodup → pairs true nx pre fs = (fs.all (fun f => decide (f.tag < nx)) && decide (((pre ++ fs).map like).Nodup))
  | [], pre, h => by simp [pairs, h]
  | f :: r, pre, h => by
    simp only [pairs, List.all_cons]
    by_cases hm : like f ∈ pre.map like
    · have : ¬ ((pre ++ f :: r).map like).Nodup := by
        rw [List.map_append, List.nodup_append]
        rintro ⟨_, _, h3⟩
        exact h3 (like f) hm (like f) (by simp) rfl
      have hp : pre1 true f pre = false := by
        cases hq : pre1 true f pre
        · rfl
        · exact absurd hm ((pre1_true f pre).1 hq)
      rw [decide_eq_false this, hp]
      simp
    · have h' : ((pre ++ [f]).map like).Nodup := by
        rw [List.map_append, List.nodup_append]
        refine ⟨h, by simp, ?_⟩
        intro a ha b hb
        simp at hb
        subst hb
        intro e
        exact hm (e ▸ ha)
      rw [pairs_true nx r (pre ++ [f]) h', (pre1_true f pre).2 hm, Bool.true_and, List.append_assoc, Bool.and_assoc]
      rfl

/-- THE TWO ARE ONE. -/
theorem iValid_eq (fs : List F) (nx cp : Int) (sg : Bool) : iValid fs nx cp sg = sValid fs nx cp sg := by
  unfold iValid sValid
  cases hh : sHead fs nx cp with
  | false => rfl
  | true =>
    have hg : gFrom 0 fs = true := by
      simp only [sHead, gFacts, Bool.and_eq_true] at hh
      exact hh.2.2.2.1.2
    rw [lastOk_iff hg]
    cases sg with
    | false => simp [pairs_false]
    | true =>
      rw [pairs_true nx fs [] (by simp)]
      simp

end Go.Proofs.YtfgpcjdjbbhdmaaGreatDoor

namespace Go.Proofs.YtfgpcjdjbbhdmaaGreatDoor
open Go.RowKit Go.Deep

theorem laidOut : laidOutB Tryz.prog = true := by kernel_rfl
theorem ownK : ownKnob Tryz.prog.godebug = none := by kernel_rfl
theorem cellsI : Tryz.prog.cellsOf 3 = 1 := by kernel_rfl
theorem cellsI64 : Tryz.prog.cellsOf 2 = 1 := by kernel_rfl
theorem cellsS : Tryz.prog.cellsOf 9 = 1 := by kernel_rfl
def VOk (v : V) : Prop := (Lit.int .i64 v.kind).wf = true ∧ (Lit.int .i64 v.num).wf = true ∧ v.sym.size ≤ maxLen
theorem cellsLV : Tryz.prog.cellsOf 183 = 3 := by kernel_rfl

theorem map_range_at {α : Type} {f : Nat → α} {len i : Nat} {x : α} (h : ((List.range len).map f)[i]? = some x) : i < len ∧ f i = x := by
  have hi : i < len := by simpa using (List.getElem?_eq_some_iff.1 h).1
  simp [hi] at h
  exact ⟨hi, h⟩

theorem spot_none {w : World} {b o : Nat} {sp : Option Nat} {n : Nat} {x y : Value} (h0 : w.cell? ((⟨b, o, sp⟩ : Addr).add 0) = some x) (_h : w.cell? ((⟨b, o, sp⟩ : Addr).add n) = some y) : sp = none := by
  have h1 := World.cell?_spot h0
  simpa [Addr.add] using h1

section
variable {H : Type} {enc : TypeId × Value → H} {w : World} {base : Nat} {spare : Nat → Bool} {held : Bool}

theorem rd_val {n : Nat} {v0 v1 v2 : Value} {x : DataW H × List MemPlace} (h : DataW.trod enc Tryz.prog w base spare held n 183 [v0, v1, v2] = some x) :
    ∃ v : V, v0 = .int .i64 v.kind ∧ v1 = .int .i64 v.num ∧ v2 = .string v.sym ∧ VOk v := by
  obtain ⟨y0, y1, y2, k, _, _, h0, h1, h2⟩ := trod_struct3 Tryz.underlying183 h
  simp only [cellsI, cellsI64, cellsS, List.drop_zero, List.drop_succ_cons, List.take_succ_cons, List.take_zero] at h0 h1 h2
  obtain ⟨a, e0, _, wa⟩ := DataW.trod_int Tryz.underlying3 h0
  obtain ⟨b, e1, _, wb⟩ := DataW.trod_int Tryz.underlying2 h1
  obtain ⟨s, e2, _, hs⟩ := DataW.trod_string Tryz.underlying9 h2
  simp at e0 e1 e2
  exact ⟨(a, b, s), e0, e1, e2, wa, wb, hs⟩
end
end Go.Proofs.YtfgpcjdjbbhdmaaGreatDoor
