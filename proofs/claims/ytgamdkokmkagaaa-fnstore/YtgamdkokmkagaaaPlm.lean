/-
  OUR OWN TEXT. The program's table of places: the place of each tag's fact, where tags rise.
-/
import Derived.Test.YtgamdkokmkagaaaJt
import Derived.Test.YtgamdkokmkagaaaJp
namespace Go.Proofs.Ytgamdkokmkagaaa
open Go.RowKit Go.Maps
attribute [local go_sem ↓] Go.wp_at_zero Go.wp_at_succ

theorem fidx_snoc (tag : Int) (f : F) : ∀ (l : List F), fidx tag (l ++ [f]) = match fidx tag l with | some i => some i | none => if f.tag = tag then some l.length else none
  | [] => by by_cases h : f.tag = tag <;> simp [fidx, h]
  | g :: r => by
    rw [List.cons_append, fidx, fidx]
    by_cases h : g.tag = tag
    · simp [h]
    · rw [if_neg h, if_neg h, fidx_snoc tag f r]
      cases fidx tag r with
      | some i => rfl
      | none => by_cases h' : f.tag = tag <;> simp [h']

theorem fidx_fresh {f : F} : ∀ {fs : List F} {last : Int} {k : Nat}, gFrom last fs = true → fs[k]? = some f → fidx f.tag (fs.take k) = none
  | [], _, _, _, h => by simp at h
  | _ :: _, _, 0, _, _ => rfl
  | g :: r, last, k + 1, hg, h => by
    have hg2 : gFrom g.tag r = true := by simp only [gFrom, Bool.and_eq_true] at hg; exact hg.2
    have hm : r[k]? = some f := by simpa using h
    have := gFrom_lt hg2 f (List.mem_of_getElem? hm)
    rw [List.take_succ_cons, fidx, if_neg (by omega), fidx_fresh hg2 hm]
    rfl

structure PInv (fs : List F) (k : Nat) (D : DataW Unit) : Prop where
  absent : ∀ tag, fidx tag (fs.take k) = none → Maps.has D (.int .i64 tag) = false
  present : ∀ tag i, fidx tag (fs.take k) = some i → Maps.has D (.int .i64 tag) = true ∧ ∀ z, D.atKey (.int .i64 tag) z = .lit (.int .i64 i)

theorem PInv.start (fs : List F) : PInv fs 0 (.map []) := ⟨fun _ _ => rfl, fun tag i h => by simp [fidx] at h⟩

theorem PInv.step {fs : List F} {k : Nat} {D : DataW Unit} {f : F} (h : PInv fs k D) (hm : IsMap D) (hg : gFrom 0 fs = true) (hf : fs[k]? = some f) : PInv fs (k + 1) (D.put (.int .i64 f.tag) (.lit (.int .i64 k))) := by
  have hk : k < fs.length := (List.getElem?_eq_some_iff.1 hf).1
  have hfr := fidx_fresh hg hf
  have hl : (fs.take k).length = k := by simp; omega
  have key : ∀ tag, fidx tag (fs.take (k + 1)) = if f.tag = tag then some k else fidx tag (fs.take k) := by
    intro tag
    rw [take_succ' fs k f hf, fidx_snoc, hl]
    by_cases ht : f.tag = tag
    · subst ht
      rw [hfr]
    · rw [if_neg ht, if_neg ht]
      cases fidx tag (fs.take k) <;> rfl
  constructor
  · intro tag hn
    rw [key] at hn
    by_cases ht : f.tag = tag
    · rw [if_pos ht] at hn; cases hn
    · rw [if_neg ht] at hn
      rw [has_put_other (fun e => ht (by cases e; rfl))]
      exact h.absent tag hn
  · intro tag i hn
    rw [key] at hn
    by_cases ht : f.tag = tag
    · rw [if_pos ht] at hn
      cases hn
      subst ht
      have hkl : WideAt.IsKeyLit (.int .i64 f.tag) := trivial
      exact ⟨has_put_same hm hkl _, fun z => atKey_put_same hm hkl _ z⟩
    · rw [if_neg ht] at hn
      obtain ⟨h1, h2⟩ := h.present tag i hn
      have hne : Lit.int .i64 tag ≠ Lit.int .i64 f.tag := fun e => ht (by cases e; rfl)
      exact ⟨by rw [has_put_other hne]; exact h1, fun z => by rw [atKey_put_other hne]; exact h2 z⟩

theorem wf_nat {k : Nat} (h : k ≤ 1048576) : (Lit.int .i64 (k : Int)).wf = true := by
  have h1 : IntKind.i64.min = -9223372036854775808 := rfl
  have h2 : IntKind.i64.max = 9223372036854775807 := rfl
  simp only [Lit.wf, h1, h2, Bool.and_eq_true, decide_eq_true_eq]
  omega

theorem lawI : Keyed Try.prog 3 := int_keyed Try.underlying3

set_option maxHeartbeats 800000 in
theorem places_any (a : Option Addr) (c : Nat) (fs : List F) (nx cp : Int) (sg : Bool) (w : World) (hv : FactsAt w a fs) (hl : fs.length ≤ 1048576) (hg : gFrom 0 fs = true) (hr : ∀ f ∈ fs, Read f) :
    Calls Try.prog 171 #[.agg #[.slice a fs.length c, .int .i64 nx, .int .i64 cp, .bool sg]] w fun e w' =>
      ∃ b D, e = .returned (.map (some b)) ∧ w'.ownsMap Try.prog 3 (plainElem Try.prog 3) b fs.length D ∧ PInv fs fs.length D ∧ Below w.heap.size w w' := by
  have hmm := run_makeMap_hint (P := Try.prog) (t := 226) Try.underlying226
  go_enter Try.func171, Try.ntmps171
  go_wp2
  clear hmm
  go_loopw [13] (fun i wr => ∃ (k : Nat) (D : DataW Unit), k ≤ fs.length ∧ i = .int .i64 k ∧ wr.ownsMap Try.prog 3 (plainElem Try.prog 3) (w.heap.size + 1) k D ∧ PInv fs k D ∧ Below w.heap.size w wr) (fun i _ => fs.length - (intOf i).toNat)
  case atStart => exact ⟨0, .map [], by omega, rfl, by have := World.ownsMap_made (H := Unit) (w.alloc (.cells #[.slice a fs.length c, .int .i64 nx, .int .i64 cp, .bool sg] 26)) Try.prog 3 (plainElem Try.prog 3); simpa using this, PInv.start fs, ((Below.refl _ _).alloc (Nat.le_refl _) _).alloc (by simp) _⟩
  case round =>
    obtain ⟨k, D, hk', rfl, hown, hI, hb⟩ := hrel
    by_cases hkl : k < fs.length
    · obtain ⟨f, hfk⟩ : ∃ f, fs[k]? = some f := ⟨fs[k], by simp [hkl]⟩
      obtain ⟨b, o, rfl, c0, c1, s, cs, c2, hsl⟩ := hv.below hb k f hfk
      have htg := (hr f (List.mem_of_getElem? hfk)).1
      have hI2 := hI.step hown.isMap hg hfk
      obtain ⟨w2, hrun, ho2, hg2⟩ := (hown.alloc (.cells #[.int .i64 f.tag, .string f.cls, .slice s f.slots.length cs] 117)).update lawI (t := 226) Try.underlying226 (by unfold maxLen; omega) (keyOf_int_mk Try.underlying3 htg) (plainElem_int Try.underlying3 (wf_nat (k := k) (by omega)))
      have HO2 := hidden ho2
      have HG2 := hidden hg2
      have hbl := hown.lt
      clear ho2 hg2 hI hown
      go_wp2
      clear hrun
      go_roundw
      case rel => exact ⟨k + 1, _, by omega, by go_num, HO2.out, hI2, (hb.alloc hb.size _).grown HG2.out (by have := hb.size; simp; omega) (fun j hj => by cases hj; omega)⟩
      case measure => simp [intOf]; omega
    · go_wp2
      go_ret
      obtain rfl : k = fs.length := by omega
      exact ⟨_, D, rfl, hown, hI, hb⟩

theorem zeroI (w : World) : (zeroValue 3).run Try.prog w = .ok (.int .i64 0) w := by kernel_rfl

def atOf : Option Nat → Int
  | some i => i
  | none => 0

theorem look_any {fs : List F} {w : World} {b : Nat} {D : DataW Unit} (h : w.ownsMap Try.prog 3 (plainElem Try.prog 3) b fs.length D) (hI : PInv fs fs.length D) {tag : Int} (hw : (Lit.int .i64 tag).wf = true) :
    (Instr.lookup 226 (.map (some b)) (.int .i64 tag) true).run Try.prog w = .ok (.tuple #[.int .i64 (atOf (fidx tag fs)), .bool (fidx tag fs).isSome]) w := by
  obtain ⟨v, ps, hrun, hv⟩ := h.look_ok lawI (t := 226) Try.underlying226 (zeroI w) (plainElem_int Try.underlying3 (by decide)) (keyOf_int_mk Try.underlying3 hw)
  obtain ⟨c, rfl, hc, _⟩ := plainElem_int_inv Try.underlying3 hv
  simp only [Prod.mk.injEq] at hc
  have ht : fs.take fs.length = fs := List.take_of_length_le (Nat.le_refl _)
  rw [hrun]
  cases hi : fidx tag fs with
  | none =>
    have h1 := hI.absent tag (by rw [ht]; exact hi)
    have h2 := atKey_of_not_has h1 (.lit (.int .i64 0))
    rw [h2] at hc
    rw [h1]
    have := hc.1
    cases this
    rfl
  | some i =>
    obtain ⟨h1, h2⟩ := hI.present tag i (by rw [ht]; exact hi)
    rw [h2] at hc
    rw [h1]
    have := hc.1
    cases this
    rfl
end Go.Proofs.Ytgamdkokmkagaaa
