/-
  OUR OWN TEXT. Pl4, Rd4, one behind the other.
-/
import Derived.Test.YtognpkdgphebeaaGreatUh
import Derived.Test.YtognpkdgphebeaaGreatUi
import Derived.Test.YtognpkdgphebeaaGreatJa
import Derived.Maps.OwnSet
import Derived.Maps.RangeWalk
import Derived.DeepKeys4
import Derived.Deep.RegionHeld3
import Derived.Deep.DrawnRows
import Derived.Test.YtognpkdgphebeaaGreatJq
import Derived.Deep.Slices
import Derived.Deep.Strs
import Derived.Lib.SmallJoins
namespace Go.Proofs.YtognpkdgphebeaaGreat
open Go.RowKit Go.Maps
attribute [local go_sem ↓] Go.wp_at_zero Go.wp_at_succ

def fidx (tag : Int) : List F → Option Nat
  | [] => none
  | f :: r => if f.tag = tag then some 0 else (fidx tag r).map (· + 1)
def Read (f : F) : Prop := (Lit.int .i64 f.tag).wf = true ∧ ∀ v ∈ f.slots, VOk v
theorem run_makeMap_hint {P : Program} {t k e : TypeId} (ht : P.underlying t = some (.map k e)) (n : Int) (w : World) : (Instr.makeMap t (some (.int .i64 n))).run P w = .ok (.map (some w.heap.size)) (w.alloc (.map #[] 0)) := by
  simp [Instr.makeMap, run_underlying ht, asInt, asIntOf]
theorem hidden {p : Prop} (h : p) : Hid p := h
theorem fidx_snoc (tag : Int) (f : F) : ∀ (l : List F), fidx tag (l ++ [f]) = match fidx tag l with | some i => some i | none => if f.tag = tag then some l.length else none
  | [] => by by_cases h : f.tag = tag <;> simp [fidx, h]
  | g :: r => by
    rw [List.cons_append, fidx, fidx]
    by_cases h : g.tag = tag
    · simp [h]
    · rw [if_neg h, if_neg h, fidx_snoc tag f r]
      cases fidx tag r with
      | some i => rfl
      | none => by_cases h' : f.tag = tag <;> simp [h']

theorem fidx_fresh {f : F} : ∀ {fs : List F} {last : Int} {k : Nat}, gFrom last fs = true → fs[k]? = some f → fidx f.tag (fs.take k) = none
  | [], _, _, _, h => by simp at h
  | _ :: _, _, 0, _, _ => rfl
  | g :: r, last, k + 1, hg, h => by
    have hg2 : gFrom g.tag r = true := by simp only [gFrom, Bool.and_eq_true] at hg; exact hg.2
    have hm : r[k]? = some f := by simpa using h
    have := gFrom_lt hg2 f (List.mem_of_getElem? hm)
    rw [List.take_succ_cons, fidx, if_neg (by omega), fidx_fresh hg2 hm]
    rfl

structure PInv (fs : List F) (k : Nat) (D : DataW Unit) : Prop where
  absent : ∀ tag, fidx tag (fs.take k) = none → Maps.has D (.int .i64 tag) = false
  present : ∀ tag i, fidx tag (fs.take k) = some i → Maps.has D (.int .i64 tag) = true ∧ ∀ z, D.atKey (.int .i64 tag) z = .lit (.int .i64 i)

theorem PInv.start (fs : List F) : PInv fs 0 (.map []) := ⟨fun _ _ => rfl, fun tag i h => by simp [fidx] at h⟩

theorem PInv.step {fs : List F} {k : Nat} {D : DataW Unit} {f : F} (h : PInv fs k D) (hm : IsMap D) (hg : gFrom 0 fs = true) (hf : fs[k]? = some f) : PInv fs (k + 1) (D.put (.int .i64 f.tag) (.lit (.int .i64 k))) := by
  have hk : k < fs.length := (List.getElem?_eq_some_iff.1 hf).1
  have hfr := fidx_fresh hg hf
  have hl : (fs.take k).length = k := by simp; omega
  have key : ∀ tag, fidx tag (fs.take (k + 1)) = if f.tag = tag then some k else fidx tag (fs.take k) := by
    intro tag
    rw [take_succ' fs k f hf, fidx_snoc, hl]
    by_cases ht : f.tag = tag
    · subst ht
      rw [hfr]
    · rw [if_neg ht, if_neg ht]
      cases fidx tag (fs.take k) <;> rfl
  constructor
  · intro tag hn
    rw [key] at hn
    by_cases ht : f.tag = tag
    · rw [if_pos ht] at hn; cases hn
    · rw [if_neg ht] at hn
      rw [has_put_other (fun e => ht (by cases e; rfl))]
      exact h.absent tag hn
  · intro tag i hn
    rw [key] at hn
    by_cases ht : f.tag = tag
    · rw [if_pos ht] at hn
      cases hn
      subst ht
      have hkl : WideAt.IsKeyLit (.int .i64 f.tag) := trivial
      exact ⟨has_put_same hm hkl _, fun z => atKey_put_same hm hkl _ z⟩
    · rw [if_neg ht] at hn
      obtain ⟨h1, h2⟩ := h.present tag i hn
      have hne : Lit.int .i64 tag ≠ Lit.int .i64 f.tag := fun e => ht (by cases e; rfl)
      exact ⟨by rw [has_put_other hne]; exact h1, fun z => by rw [atKey_put_other hne]; exact h2 z⟩

theorem wf_natP {k : Nat} (h : k ≤ 1048576) : (Lit.int .i64 (k : Int)).wf = true := by
  have h1 : IntKind.i64.min = -9223372036854775808 := rfl
  have h2 : IntKind.i64.max = 9223372036854775807 := rfl
  simp only [Lit.wf, h1, h2, Bool.and_eq_true, decide_eq_true_eq]
  omega

theorem lawI : Keyed Tryz.prog 3 := int_keyed Tryz.underlying3

set_option maxHeartbeats 800000 in
theorem places_any (a : Option Addr) (c : Nat) (fs : List F) (nx cp : Int) (sg : Bool) (w : World) (hv : FactsAt w a fs) (hl : fs.length ≤ 1048576) (hg : gFrom 0 fs = true) (hr : ∀ f ∈ fs, Read f) :
    Calls Tryz.prog 78 #[.agg #[.slice a fs.length c, .int .i64 nx, .int .i64 cp, .bool sg]] w fun e w' =>
      ∃ b D, e = .returned (.map (some b)) ∧ w'.ownsMap Tryz.prog 3 (plainElem Tryz.prog 3) b fs.length D ∧ PInv fs fs.length D ∧ Below w.heap.size w w' := by
  have hmm := run_makeMap_hint (P := Tryz.prog) (t := 151) Tryz.underlying151
  go_enter Tryz.func78, Tryz.ntmps78
  go_wp2
  clear hmm
  go_loopw [13] (fun i wr => ∃ (k : Nat) (D : DataW Unit), k ≤ fs.length ∧ i = .int .i64 k ∧ wr.ownsMap Tryz.prog 3 (plainElem Tryz.prog 3) (w.heap.size + 1) k D ∧ PInv fs k D ∧ Below w.heap.size w wr) (fun i _ => fs.length - (intOf i).toNat)
  case atStart => exact ⟨0, .map [], by omega, rfl, by have := World.ownsMap_made (H := Unit) (w.alloc (.cells #[.slice a fs.length c, .int .i64 nx, .int .i64 cp, .bool sg] 153)) Tryz.prog 3 (plainElem Tryz.prog 3); simpa using this, PInv.start fs, ((Below.refl _ _).alloc (Nat.le_refl _) _).alloc (by simp) _⟩
  case round =>
    obtain ⟨k, D, hk', rfl, hown, hI, hb⟩ := hrel
    by_cases hkl : k < fs.length
    · obtain ⟨f, hfk⟩ : ∃ f, fs[k]? = some f := ⟨fs[k], by simp [hkl]⟩
      obtain ⟨b, o, rfl, c0, c1, s, cs, c2, hsl⟩ := hv.below hb k f hfk
      have htg := (hr f (List.mem_of_getElem? hfk)).1
      have hI2 := hI.step hown.isMap hg hfk
      obtain ⟨w2, hrun, ho2, hg2⟩ := (hown.alloc (.cells #[.int .i64 f.tag, .string f.cls, .slice s f.slots.length cs] 83)).update lawI (t := 151) Tryz.underlying151 (by unfold maxLen; omega) (keyOf_int_mk Tryz.underlying3 htg) (plainElem_int Tryz.underlying3 (wf_natP (k := k) (by omega)))
      have HO2 := hidden ho2
      have HG2 := hidden hg2
      have hbl := hown.lt
      clear ho2 hg2 hI hown
      go_wp2
      clear hrun
      go_roundw
      case rel => exact ⟨k + 1, _, by omega, by go_num, HO2.out, hI2, (hb.alloc hb.size _).grown HG2.out (by have := hb.size; simp; omega) (fun j hj => by cases hj; omega)⟩
      case measure => simp [intOf]; omega
    · go_wp2
      go_ret
      obtain rfl : k = fs.length := by omega
      exact ⟨_, D, rfl, hown, hI, hb⟩

theorem zeroI (w : World) : (zeroValue 3).run Tryz.prog w = .ok (.int .i64 0) w := by kernel_rfl

def atOf : Option Nat → Int
  | some i => i
  | none => 0

theorem look_any {fs : List F} {w : World} {b : Nat} {D : DataW Unit} (h : w.ownsMap Tryz.prog 3 (plainElem Tryz.prog 3) b fs.length D) (hI : PInv fs fs.length D) {tag : Int} (hw : (Lit.int .i64 tag).wf = true) :
    (Instr.lookup 151 (.map (some b)) (.int .i64 tag) true).run Tryz.prog w = .ok (.tuple #[.int .i64 (atOf (fidx tag fs)), .bool (fidx tag fs).isSome]) w := by
  obtain ⟨v, ps, hrun, hv⟩ := h.look_ok lawI (t := 151) Tryz.underlying151 (zeroI w) (plainElem_int Tryz.underlying3 (by decide)) (keyOf_int_mk Tryz.underlying3 hw)
  obtain ⟨c, rfl, hc, _⟩ := plainElem_int_inv Tryz.underlying3 hv
  simp only [Prod.mk.injEq] at hc
  have ht : fs.take fs.length = fs := List.take_of_length_le (Nat.le_refl _)
  rw [hrun]
  cases hi : fidx tag fs with
  | none =>
    have h1 := hI.absent tag (by rw [ht]; exact hi)
    have h2 := atKey_of_not_has h1 (.lit (.int .i64 0))
    rw [h2] at hc
    rw [h1]
    have := hc.1
    cases this
    rfl
  | some i =>
    obtain ⟨h1, h2⟩ := hI.present tag i (by rw [ht]; exact hi)
    rw [h2] at hc
    rw [h1]
    have := hc.1
    cases this
    rfl
end Go.Proofs.YtognpkdgphebeaaGreat

namespace Go.Proofs.YtognpkdgphebeaaGreat
open Go.RowKit Go.Deep

def Arg (fs : List F) : Prop := fs.length ≤ maxLen ∧ ∀ f ∈ fs, f.cls.size ≤ maxLen ∧ f.slots.length ≤ maxLen ∧ Read f
theorem cellsLF : Tryz.prog.cellsOf 71 = 3 := by kernel_rfl
theorem cellsLVS : Tryz.prog.cellsOf 69 = 1 := by kernel_rfl
section
variable {H : Type} {enc : TypeId × Value → H} {w : World} {base : Nat} {spare : Nat → Bool} {held : Bool}

theorem rd_vals {n : Nat} {cs : List Value} {x : DataW H × List MemPlace} (h : DataW.trod enc Tryz.prog w base spare held n 69 cs = some x) :
    ∃ a c, ∃ vs : List V, cs = [.slice a vs.length c] ∧ ValsAt w a vs ∧ vs.length ≤ maxLen ∧ ∀ v ∈ vs, VOk v := by
  rcases open_slice Tryz.underlying69 h with ⟨rfl, _⟩ | ⟨a, len, cap, m, k, D, Pl, rfl, _, hl, hm, hmm, _, hx⟩
  · exact ⟨none, 0, [], rfl, fun i v hv => by simp at hv, Nat.zero_le _, fun v hv => by simp at hv⟩
  have hlm : len ≤ m := by rw [hmm]; split <;> omega
  have each : ∀ i, i < len → ∃ v : V, (w.cell? (a.add (i * 3)) = some (.int .i64 v.kind) ∧ w.cell? (a.add (i * 3 + 1)) = some (.int .i64 v.num) ∧ w.cell? (a.add (i * 3 + 2)) = some (.string v.sym)) ∧ VOk v := by
    intro i hi
    obtain ⟨cs', h1, h2⟩ := hx i (by omega)
    rw [cellsLV] at h1
    obtain ⟨_, hlen, hcell⟩ := World.cells?_some h1
    match cs', hlen with
    | [v0, v1, v2], _ =>
      obtain ⟨v, rfl, rfl, rfl, hv⟩ := rd_val h2
      have e0 := hcell 0 (by omega)
      have e1 := hcell 1 (by omega)
      have e2 := hcell 2 (by omega)
      rw [add_add] at e0 e1 e2
      exact ⟨v, ⟨by simpa using e0, by simpa using e1, by simpa using e2⟩, hv⟩
  obtain ⟨f, hf⟩ := choose_lt each
  refine ⟨some a, cap, (List.range len).map f, by simp, ?_, by simp; omega, ?_⟩
  · intro i v hv
    obtain ⟨hji, rfl⟩ := map_range_at hv
    obtain ⟨⟨e0, e1, e2⟩, _⟩ := hf i hji
    obtain ⟨b, o, sp⟩ := a
    have hsp : sp = none := spot_none (by simpa using (hf 0 (by omega)).1.1) e0
    subst hsp
    refine ⟨b, o, rfl, ?_, ?_, ?_⟩
    · rw [Addr.add_mid] at e0; exact e0
    · rw [Addr.add_mid] at e1; exact e1
    · rw [Addr.add_mid] at e2; exact e2
  · intro v hv
    obtain ⟨i, hi, rfl⟩ := List.mem_map.1 hv
    exact (hf i (List.mem_range.1 hi)).2

theorem rd_fact {n : Nat} {v0 v1 v2 : Value} {x : DataW H × List MemPlace} (h : DataW.trod enc Tryz.prog w base spare held n 71 [v0, v1, v2] = some x) :
    ∃ f : F, v0 = .int .i64 f.tag ∧ v1 = .string f.cls ∧ (∃ a c, v2 = .slice a f.slots.length c ∧ ValsAt w a f.slots) ∧ f.cls.size ≤ maxLen ∧ f.slots.length ≤ maxLen ∧ Read f := by
  obtain ⟨y0, y1, y2, k, _, _, h0, h1, h2⟩ := trod_struct3 Tryz.underlying71 h
  simp only [cellsI, cellsLVS, cellsS, List.drop_zero, List.drop_succ_cons, List.take_succ_cons, List.take_zero] at h0 h1 h2
  obtain ⟨t, e0, _, wt⟩ := DataW.trod_int Tryz.underlying3 h0
  obtain ⟨s, e1, _, hs⟩ := DataW.trod_string Tryz.underlying9 h1
  obtain ⟨a, c, vs, e2, hv, hl, hok⟩ := rd_vals h2
  simp at e0 e1 e2
  exact ⟨⟨t, s, vs⟩, e0, e1, ⟨a, c, e2, hv⟩, hs, hl, wt, hok⟩

theorem rd_intsW {n : Nat} {cs : List Value} {x : DataW H × List MemPlace} (h : DataW.trod enc Tryz.prog w base spare held n 28 cs = some x) :
    ∃ a c, ∃ vs : List Int, cs = [.slice a vs.length c] ∧ IntsAt none w a vs ∧ vs.length ≤ c ∧ vs.length ≤ maxLen ∧ ∀ v ∈ vs, (Lit.int .i64 v).wf = true :=
  rd_rows (0 : Int) 28 3 3 1 Tryz.underlying28 cellsI (by omega) (fun n cs x h hc => by
    match cs, hc with
    | [v0], _ =>
      obtain ⟨k, e0, _, hw⟩ := DataW.trod_int Tryz.underlying3 h
      exact ⟨k, e0, hw⟩) h

theorem rd_facts {n : Nat} {cs : List Value} {x : DataW H × List MemPlace} (h : DataW.trod enc Tryz.prog w base spare held n 27 cs = some x) :
    ∃ a c, ∃ fs : List F, cs = [.slice a fs.length c] ∧ FactsAt w a fs ∧ Arg fs := by
  rcases open_slice Tryz.underlying27 h with ⟨rfl, _⟩ | ⟨a, len, cap, m, k, D, Pl, rfl, _, hl, hm, hmm, _, hx⟩
  · exact ⟨none, 0, [], rfl, fun i v hv => by simp at hv, Nat.zero_le _, fun v hv => by simp at hv⟩
  have hlm : len ≤ m := by rw [hmm]; split <;> omega
  have each : ∀ i, i < len → ∃ f : F, (w.cell? (a.add (i * 3)) = some (.int .i64 f.tag) ∧ w.cell? (a.add (i * 3 + 1)) = some (.string f.cls) ∧ ∃ a' c', w.cell? (a.add (i * 3 + 2)) = some (.slice a' f.slots.length c') ∧ ValsAt w a' f.slots) ∧ f.cls.size ≤ maxLen ∧ f.slots.length ≤ maxLen ∧ Read f := by
    intro i hi
    obtain ⟨cs', h1, h2⟩ := hx i (by omega)
    rw [cellsLF] at h1
    obtain ⟨_, hlen, hcell⟩ := World.cells?_some h1
    match cs', hlen with
    | [v0, v1, v2], _ =>
      obtain ⟨f, rfl, rfl, ⟨a', c', rfl, hv⟩, hf⟩ := rd_fact h2
      have e0 := hcell 0 (by omega)
      have e1 := hcell 1 (by omega)
      have e2 := hcell 2 (by omega)
      rw [add_add] at e0 e1 e2
      exact ⟨f, ⟨by simpa using e0, by simpa using e1, a', c', by simpa using e2, hv⟩, hf⟩
  have : Nonempty (Inhabited F) := ⟨⟨⟨0, ByteArray.empty, []⟩⟩⟩
  obtain ⟨inh⟩ := this
  obtain ⟨f, hf⟩ := choose_lt each
  refine ⟨some a, cap, (List.range len).map f, by simp, ?_, by simp; omega, ?_⟩
  · intro i v hv
    obtain ⟨hji, rfl⟩ := map_range_at hv
    obtain ⟨⟨e0, e1, a', c', e2, hsl⟩, _⟩ := hf i hji
    obtain ⟨b, o, sp⟩ := a
    have hsp : sp = none := spot_none (by simpa using (hf 0 (by omega)).1.1) e0
    subst hsp
    refine ⟨b, o, rfl, ?_, ?_, a', c', ?_, hsl⟩
    · rw [Addr.add_mid] at e0; exact e0
    · rw [Addr.add_mid] at e1; exact e1
    · rw [Addr.add_mid] at e2; exact e2
  · intro v hv
    obtain ⟨i, hi, rfl⟩ := List.mem_map.1 hv
    exact (hf i (List.mem_range.1 hi)).2
end
end Go.Proofs.YtognpkdgphebeaaGreat
