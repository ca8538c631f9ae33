/-
  OUR OWN TEXT. Md0, Vm, one behind the other.
-/
import Derived.Test.YtgamdkokmkagaaaSp8m
namespace Go.Proofs.Ytgamdkokmkagaaa
open Go.RowKit

def clsAt (fs : List F) (i : Nat) : ByteArray := match fs[i]? with | some f => f.cls | none => ByteArray.empty
def mdSome (fs : List F) (nx cp : Int) (sg : Bool) (tag : Int) (cls : ByteArray) (vs : List V) (i : Nat) : C6 :=
  if 0 < twinOf sg tag cls vs fs then ⟨fs, nx, cp, sg, 2, twinOf sg tag cls vs fs⟩ else if 1000000 < nx then ⟨fs, nx, cp, sg, 4, 0⟩ else ⟨fs.eraseIdx i ++ [⟨nx, cls, vs⟩], nx + 1, cp, sg, 0, nx⟩
def mdfy (fs : List F) (nx cp : Int) (sg : Bool) (tag : Int) (vs : List V) : C6 :=
  if sValid fs nx cp sg && gSlots vs then (match fidx tag fs with | none => ⟨fs, nx, cp, sg, 5, 0⟩ | some i => mdSome fs nx cp sg tag (clsAt fs i) vs i) else C6.bad

theorem mdfy_bad {fs : List F} {nx cp : Int} {sg : Bool} {tag : Int} {vs : List V} (h : (sValid fs nx cp sg && gSlots vs) = false) : mdfy fs nx cp sg tag vs = C6.bad := by unfold mdfy; rw [h]; rfl
theorem mdfy_none {fs : List F} {nx cp : Int} {sg : Bool} {tag : Int} {vs : List V} (h1 : sValid fs nx cp sg = true) (h2 : gSlots vs = true) (hi : fidx tag fs = none) : mdfy fs nx cp sg tag vs = ⟨fs, nx, cp, sg, 5, 0⟩ := by unfold mdfy; rw [h1, h2, hi]; rfl
theorem mdfy_some {fs : List F} {nx cp : Int} {sg : Bool} {tag : Int} {vs : List V} {i : Nat} {f : F} (h1 : sValid fs nx cp sg = true) (h2 : gSlots vs = true) (hi : fidx tag fs = some i) (hf : fs[i]? = some f) : mdfy fs nx cp sg tag vs = mdSome fs nx cp sg tag f.cls vs i := by
  unfold mdfy clsAt
  rw [h1, h2, hi]
  simp only [Bool.and_self, if_true, hf]

theorem mdSome_dup {fs : List F} {nx cp : Int} {sg : Bool} {tag T : Int} {cls : ByteArray} {vs : List V} {i : Nat} (hT : twinOf sg tag cls vs fs = T) (ht : 0 < T) : mdSome fs nx cp sg tag cls vs i = ⟨fs, nx, cp, sg, 2, T⟩ := by
  unfold mdSome
  rw [hT, if_pos ht]
theorem mdSome_end {fs : List F} {nx cp : Int} {sg : Bool} {tag T : Int} {cls : ByteArray} {vs : List V} {i : Nat} (hT : twinOf sg tag cls vs fs = T) (ht : ¬ 0 < T) (hn : 1000000 < nx) : mdSome fs nx cp sg tag cls vs i = ⟨fs, nx, cp, sg, 4, 0⟩ := by
  unfold mdSome
  rw [hT, if_neg ht, if_pos hn]
theorem mdSome_ok {fs : List F} {nx cp : Int} {sg : Bool} {tag T : Int} {cls : ByteArray} {vs : List V} {i : Nat} (hT : twinOf sg tag cls vs fs = T) (ht : ¬ 0 < T) (hn : ¬ 1000000 < nx) : mdSome fs nx cp sg tag cls vs i = ⟨fs.eraseIdx i ++ [⟨nx, cls, vs⟩], nx + 1, cp, sg, 0, nx⟩ := by
  unfold mdSome
  rw [hT, if_neg ht, if_neg hn]
end Go.Proofs.Ytgamdkokmkagaaa

namespace Go.Proofs.Ytgamdkokmkagaaa

/-- A valid store, said so that it can be taken apart. -/
structure VS (fs : List F) (nx cp : Int) (sg : Bool) : Prop where
  cp0 : 0 ≤ cp
  cp40 : cp ≤ 40
  len : (fs.length : Int) ≤ cp
  good : gFrom 0 fs = true
  nx1 : 1 ≤ nx
  nxm : nx ≤ 1000001
  low : ∀ f ∈ fs, f.tag < nx
  nodup : sg = true → (fs.map like).Nodup
theorem VS.iff {fs : List F} {nx cp : Int} {sg : Bool} : sValid fs nx cp sg = true ↔ VS fs nx cp sg := by
  unfold sValid
  cases sg with
  | false =>
    rw [pairs_false]
    simp only [sHead, gFacts, Bool.and_eq_true, decide_eq_true_eq, List.all_eq_true]
    constructor
    · rintro ⟨⟨h1, h2, h3, ⟨h4, h5⟩, h6, h7⟩, h8⟩
      exact ⟨h1, h2, h3, h5, h6, h7, h8, fun h => by cases h⟩
    · intro h
      exact ⟨⟨h.cp0, h.cp40, h.len, ⟨by have := h.len; have := h.cp40; omega, h.good⟩, h.nx1, h.nxm⟩, h.low⟩
  | true =>
    rw [pairs_true nx fs [] List.nodup_nil]
    simp only [sHead, gFacts, Bool.and_eq_true, decide_eq_true_eq, List.all_eq_true, List.nil_append]
    constructor
    · rintro ⟨⟨h1, h2, h3, ⟨h4, h5⟩, h6, h7⟩, h8, h9⟩
      exact ⟨h1, h2, h3, h5, h6, h7, h8, fun _ => h9⟩
    · intro h
      exact ⟨⟨h.cp0, h.cp40, h.len, ⟨by have := h.len; have := h.cp40; omega, h.good⟩, h.nx1, h.nxm⟩, h.low, h.nodup rfl⟩
theorem gFrom_weak : ∀ {fs : List F} {last last' : Int}, last ≤ last' → gFrom last' fs = true → gFrom last fs = true
  | [], _, _, _, _ => rfl
  | f :: r, last, last', h, hg => by
    simp only [gFrom, okF, Bool.and_eq_true, decide_eq_true_eq] at hg ⊢
    exact ⟨⟨by omega, hg.1.2⟩, hg.2⟩
theorem gFrom_erase : ∀ {fs : List F} {last : Int} (i : Nat), gFrom last fs = true → gFrom last (fs.eraseIdx i) = true
  | [], _, _, _ => rfl
  | f :: r, last, 0, h => by
    simp only [gFrom, okF, Bool.and_eq_true, decide_eq_true_eq] at h
    exact gFrom_weak (by omega) h.2
  | f :: r, last, i + 1, h => by
    simp only [gFrom, Bool.and_eq_true] at h
    simp only [List.eraseIdx_cons_succ, gFrom, Bool.and_eq_true]
    exact ⟨h.1, gFrom_erase i h.2⟩
theorem gFrom_snoc : ∀ {fs : List F} {last : Int} {g : F}, gFrom last fs = true → (∀ f ∈ fs, f.tag < g.tag) → last < g.tag → g.tag ≤ 1000000 → gSym g.cls.data.toList = true → gSlots g.slots = true → gFrom last (fs ++ [g]) = true
  | [], last, g, _, _, h1, h2, h3, h4 => by simp [gFrom, okF, h1, h2, h3, h4]
  | f :: r, last, g, h, hl, h1, h2, h3, h4 => by
    simp only [gFrom, Bool.and_eq_true, List.cons_append] at h ⊢
    exact ⟨h.1, gFrom_snoc h.2 (fun x hx => hl x (by simp [hx])) (hl f (by simp)) h2 h3 h4⟩
theorem twin_free {but : Int} {cls : ByteArray} {vs : List V} : ∀ {fs : List F} {last : Int}, 0 ≤ last → gFrom last fs = true → ¬ 0 < twinTag but cls vs fs → ∀ f ∈ fs, bars but cls vs f = false
  | [], _, _, _, _, f, hf => by simp at hf
  | g :: r, last, hl, h, ht, f, hf => by
    simp only [gFrom, okF, Bool.and_eq_true, decide_eq_true_eq] at h
    unfold twinTag at ht
    split at ht
    · omega
    · rcases List.mem_cons.1 hf with rfl | hf
      · simpa using ‹¬ bars but cls vs f = true›
      · exact twin_free (last := g.tag) (by omega) h.2 ht f hf
theorem like_free {but : Int} {cls : ByteArray} {vs : List V} {fs : List F} (h : ∀ f ∈ fs, bars but cls vs f = false) (hb : ∀ f ∈ fs, f.tag ≠ but) : (cls, vs) ∉ fs.map like := by
  intro hm
  obtain ⟨f, hf, he⟩ := List.mem_map.1 hm
  have h1 := h f hf
  have h2 := hb f hf
  simp only [like, Prod.mk.injEq] at he
  simp [bars, h2, he.1, he.2] at h1
theorem cls_good : ∀ {fs : List F} {last : Int}, gFrom last fs = true → ∀ f ∈ fs, gSym f.cls.data.toList = true
  | [], _, _, f, hf => by simp at hf
  | g :: r, last, h, f, hf => by
    simp only [gFrom, okF, Bool.and_eq_true] at h
    rcases List.mem_cons.1 hf with rfl | hf
    · exact h.1.2.2.1
    · exact cls_good h.2 f hf
theorem VS.add {fs : List F} {nx cp : Int} {sg : Bool} {cls : ByteArray} {vs : List V} (h : VS fs nx cp sg) (hn : ¬ 1000000 < nx) (hl : (fs.length : Int) < cp) (h2 : gSym cls.data.toList = true) (h3 : gSlots vs = true) (hf : sg = true → (cls, vs) ∉ fs.map like) : VS (fs ++ [⟨nx, cls, vs⟩]) (nx + 1) cp sg := by
  refine ⟨h.cp0, h.cp40, by simp; omega, gFrom_snoc h.good (fun f hf' => h.low f hf') (by have := h.nx1; show (0 : Int) < nx; omega) (by show nx ≤ 1000000; omega) h2 h3, by have := h.nx1; omega, by omega, ?_, ?_⟩
  · intro f hf'
    rcases List.mem_append.1 hf' with hf' | hf'
    · have := h.low f hf'
      omega
    · simp at hf'
      subst hf'
      show nx < nx + 1
      omega
  · intro hs
    rw [List.map_append, List.nodup_append]
    refine ⟨h.nodup hs, by simp, fun x hx y hy e => ?_⟩
    simp at hy
    subst hy
    rw [e] at hx
    exact hf hs hx
theorem VS.drop {fs : List F} {nx cp : Int} {sg : Bool} (h : VS fs nx cp sg) (i : Nat) : VS (fs.eraseIdx i) nx cp sg := by
  refine ⟨h.cp0, h.cp40, ?_, gFrom_erase i h.good, h.nx1, h.nxm, fun f hf => h.low f (List.mem_of_mem_eraseIdx hf), fun hs => ?_⟩
  · have h1 := h.len
    have h2 : (fs.eraseIdx i).length ≤ fs.length := List.length_eraseIdx_le _ _
    omega
  · exact (h.nodup hs).sublist ((List.eraseIdx_sublist _ _).map like)
/-- What promise 1 asks of what a change tells. -/
def Told (fs : List F) (nx cp : Int) (sg : Bool) (r : C6) : Prop := r.code = 1 ∨ (VS r.fs r.nx r.cp r.sg ∧ nx ≤ r.nx ∧ r.cp = cp ∧ r.sg = sg ∧ (r.code ≠ 0 → r.fs = fs ∧ r.nx = nx))
theorem Told.same {fs : List F} {nx cp : Int} {sg : Bool} (h : VS fs nx cp sg) (k t : Int) : Told fs nx cp sg ⟨fs, nx, cp, sg, k, t⟩ := .inr ⟨h, Int.le_refl _, rfl, rfl, fun _ => ⟨rfl, rfl⟩⟩
theorem tags_pos {fs : List F} (h : gFrom 0 fs = true) : ∀ f ∈ fs, f.tag ≠ 0 := fun f hf => by
  have := gFrom_lt h f hf
  omega
theorem asrt_told {fs : List F} {nx cp : Int} {sg : Bool} (cls : ByteArray) (vs : List V) (h : VS fs nx cp sg) : Told fs nx cp sg (asrt fs nx cp sg cls vs) := by
  cases hg : (sValid fs nx cp sg && (gSym cls.data.toList && gSlots vs))
  · rw [asrt_bad hg]
    exact .inl rfl
  · simp only [Bool.and_eq_true] at hg
    obtain ⟨h1, h2, h3⟩ := hg
    rw [asrt_ok h1 h2 h3]
    unfold asOk
    split
    · exact Told.same h _ _
    · rename_i ht
      split
      · exact Told.same h _ _
      · rename_i hc
        split
        · exact Told.same h _ _
        · rename_i hn
          refine .inr ⟨h.add hn (by have := h.len; omega) h2 h3 (fun hs => ?_), by show nx ≤ nx + 1; omega, rfl, rfl, fun hk => absurd rfl hk⟩
          subst hs
          exact like_free (but := 0) (twin_free (Int.le_refl 0) h.good ht) (tags_pos h.good)
theorem retr_told {fs : List F} {nx cp : Int} {sg : Bool} (tag : Int) (h : VS fs nx cp sg) : Told fs nx cp sg (retr fs nx cp sg tag) := by
  have hv := VS.iff.2 h
  cases hi : fidx tag fs with
  | none =>
    rw [retr_none hv hi]
    exact Told.same h _ _
  | some i =>
    rw [retr_some hv hi]
    exact .inr ⟨h.drop i, Int.le_refl _, rfl, rfl, fun hk => absurd rfl hk⟩
theorem erase_tag : ∀ {fs : List F} {last : Int} {tag : Int} {i : Nat}, gFrom last fs = true → fidx tag fs = some i → ∀ f ∈ fs.eraseIdx i, f.tag ≠ tag
  | [], _, _, _, _, h, _, _ => by simp [fidx] at h
  | g :: r, last, tag, i, hg, h, f, hf => by
    simp only [gFrom, Bool.and_eq_true] at hg
    unfold fidx at h
    split at h
    · rename_i hgt
      injection h with h
      subst h
      have := gFrom_lt hg.2 f hf
      omega
    · rename_i hgt
      cases hi : fidx tag r with
      | none => rw [hi] at h; simp at h
      | some j =>
        rw [hi] at h
        simp at h
        subst h
        simp only [List.eraseIdx_cons_succ] at hf
        rcases List.mem_cons.1 hf with rfl | hf
        · exact hgt
        · exact erase_tag hg.2 hi f hf
theorem mdfy_told {fs : List F} {nx cp : Int} {sg : Bool} (tag : Int) (vs : List V) (h : VS fs nx cp sg) : Told fs nx cp sg (mdfy fs nx cp sg tag vs) := by
  have hv := VS.iff.2 h
  cases hg : gSlots vs
  · rw [mdfy_bad (by rw [hg, Bool.and_false])]
    exact .inl rfl
  · cases hi : fidx tag fs with
    | none =>
      rw [mdfy_none hv hg hi]
      exact Told.same h _ _
    | some i =>
      have hlt := fidx_lt hi
      obtain ⟨f, hf⟩ : ∃ f, fs[i]? = some f := ⟨fs[i], by simp [hlt]⟩
      rw [mdfy_some hv hg hi hf]
      unfold mdSome
      split
      · exact Told.same h _ _
      · rename_i ht
        split
        · exact Told.same h _ _
        · rename_i hn
          have hlen : (fs.eraseIdx i).length = fs.length - 1 := List.length_eraseIdx_of_lt hlt
          refine .inr ⟨(h.drop i).add hn (by have := h.len; omega) (cls_good h.good f (List.mem_of_getElem? hf)) hg (fun hs => ?_), by show nx ≤ nx + 1; omega, rfl, rfl, fun hk => absurd rfl hk⟩
          subst hs
          exact like_free (but := tag) (fun x hx => twin_free (Int.le_refl 0) h.good ht x (List.mem_of_mem_eraseIdx hx)) (erase_tag h.good hi)
end Go.Proofs.Ytgamdkokmkagaaa
