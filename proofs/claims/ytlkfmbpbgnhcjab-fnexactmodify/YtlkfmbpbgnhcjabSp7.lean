/-
  OUR OWN TEXT. What Retract tells, as plain data; the model's Retract.
-/
import Derived.Test.YtlkfmbpbgnhcjabSp6
namespace Go.Proofs.Ytlkfmbpbgnhcjab
open Go.RowKit

/-- A change, as plain data. -/
structure C6 where
  fs : List F
  nx : Int
  cp : Int
  sg : Bool
  code : Int
  tag : Int
def C6.bad : C6 := ⟨[], 0, 0, false, 1, 0⟩
def C6.val (r : C6) (a : Option Addr) (c : Nat) : Value := .agg #[.slice a r.fs.length c, .int .i64 r.nx, .int .i64 r.cp, .bool r.sg, .int .i64 r.code, .int .i64 r.tag]

def retr (fs : List F) (nx cp : Int) (sg : Bool) (tag : Int) : C6 :=
  if sValid fs nx cp sg then (match fidx tag fs with | none => ⟨fs, nx, cp, sg, 5, 0⟩ | some i => ⟨fs.eraseIdx i, nx, cp, sg, 0, tag⟩) else C6.bad

theorem retr_bad {fs : List F} {nx cp : Int} {sg : Bool} {tag : Int} (h : sValid fs nx cp sg = false) : retr fs nx cp sg tag = C6.bad := by unfold retr; rw [h]; rfl
theorem retr_none {fs : List F} {nx cp : Int} {sg : Bool} {tag : Int} (h : sValid fs nx cp sg = true) (hi : fidx tag fs = none) : retr fs nx cp sg tag = ⟨fs, nx, cp, sg, 5, 0⟩ := by unfold retr; rw [h, hi]; rfl
theorem retr_some {fs : List F} {nx cp : Int} {sg : Bool} {tag : Int} {i : Nat} (h : sValid fs nx cp sg = true) (hi : fidx tag fs = some i) : retr fs nx cp sg tag = ⟨fs.eraseIdx i, nx, cp, sg, 0, tag⟩ := by unfold retr; rw [h, hi]; rfl

theorem gFrom_lt {last : Int} : ∀ {fs : List F}, gFrom last fs = true → ∀ f ∈ fs, last < f.tag
  | [], _, f, hf => by simp at hf
  | g :: r, h, f, hf => by
    simp only [gFrom, okF, Bool.and_eq_true, decide_eq_true_eq] at h
    rcases List.mem_cons.1 hf with rfl | hm
    · exact h.1.1
    · have := gFrom_lt h.2 f hm
      omega

theorem filter_erase {tag : Int} : ∀ {fs : List F} {last : Int} {i : Nat}, gFrom last fs = true → fidx tag fs = some i → fs.filter (noTag tag) = fs.eraseIdx i
  | [], _, _, _, h => by simp [fidx] at h
  | f :: r, last, i, hg, h => by
    have hg2 : gFrom f.tag r = true := by simp only [gFrom, Bool.and_eq_true] at hg; exact hg.2
    unfold fidx at h
    by_cases ht : f.tag = tag
    · rw [if_pos ht] at h
      cases h
      rw [List.filter_cons, List.eraseIdx_zero]
      have : noTag tag f = false := by simp [noTag, ht]
      rw [this]
      simp only [Bool.false_eq_true, if_false, List.tail_cons]
      rw [List.filter_eq_self]
      intro g hgm
      have := gFrom_lt hg2 g hgm
      simp [noTag]
      omega
    · rw [if_neg ht] at h
      obtain ⟨j, hj, rfl⟩ := Option.map_eq_some_iff.1 h
      rw [List.filter_cons, List.eraseIdx_cons_succ]
      have : noTag tag f = true := by simp [noTag, ht]
      rw [this, if_pos rfl, filter_erase hg2 hj]

theorem sValid_from {fs : List F} {nx cp : Int} {sg : Bool} (h : sValid fs nx cp sg = true) : gFrom 0 fs = true := by
  simp only [sValid, sHead, gFacts, Bool.and_eq_true] at h
  exact h.1.2.2.2.1.2

theorem fidx_lt {tag : Int} : ∀ {fs : List F} {i : Nat}, fidx tag fs = some i → i < fs.length
  | [], _, h => by simp [fidx] at h
  | f :: r, i, h => by
    unfold fidx at h
    split at h
    · cases h; simp
    · obtain ⟨j, hj, rfl⟩ := Option.map_eq_some_iff.1 h
      have := fidx_lt hj
      simp
      omega

set_option maxHeartbeats 800000 in
theorem sRetract_any (a : Option Addr) (c : Nat) (fs : List F) (nx cp : Int) (sg : Bool) (tag : Int) (w : World) (hv : FactsAt w a fs) (hc : fs.length ≤ c) (hl : fs.length ≤ 1048576) (hs : ∀ f ∈ fs, Sized f) :
    Calls Try.prog 30 #[.agg #[.slice a fs.length c, .int .i64 nx, .int .i64 cp, .bool sg], .int .i64 tag] w fun e w' =>
      (∃ a' c', e = .returned ((retr fs nx cp sg tag).val a' c') ∧ FactsAt w' a' (retr fs nx cp sg tag).fs) ∧ Below w.heap.size w w' := by
  have B2 : ∀ o o', Below w.heap.size w ((w.alloc o).alloc o') := fun o o' => ((Below.refl _ _).alloc (Nat.le_refl _) _).alloc (by simp) _
  have hz2 : w.heap.size < w.heap.size + 1 + 1 := by omega
  have hsl : ∀ f ∈ fs, f.slots.length ≤ 1048576 := fun f hf => (hs f hf).2.1
  cases hva : sValid fs nx cp sg
  · rw [retr_bad hva]
    go_enter Try.func30, Try.ntmps30
    go_wp2_with (go_at_call 18; refine (sStoreValid_any a c fs nx cp sg _ (hv.below (B2 _ _)) hc hl hs).mono ?_; rintro e w1 ⟨rfl, hb1⟩; obtain ⟨hc1, hf1⟩ := bcell hb1)
    refine bodyPost_ret (v := C6.bad.val none 0) (by simp [results, Try.results30, go_sem, hc1, C6.val, C6.bad]) rfl ⟨⟨none, 0, rfl, fun i f hf => by simp [C6.bad] at hf⟩, ?_⟩
    have hB : Below w.heap.size w w1 := (B2 _ _).trans (hb1.mono (by simp; omega))
    exact (((((hB.setCell (by simp) _).setCell (by simp) _).setCell (by simp) _).setCell (by simp) _).setCell (by simp) _).setCell (by simp) _
  · cases hi : fidx tag fs with
    | none =>
      rw [retr_none hva hi]
      have hix : ixInt (fidx tag fs) = -1 := by rw [hi]; rfl
      clear hi
      go_enter Try.func30, Try.ntmps30
      go_wp2_with (go_at_call 18; refine (sStoreValid_any a c fs nx cp sg _ (hv.below (B2 _ _)) hc hl hs).mono ?_; rintro e w1 ⟨rfl, hb1⟩; obtain ⟨hc1, hf1⟩ := bcell hb1)
      have hW1 : Below w.heap.size w w1 := (B2 _ _).trans (hb1.mono (by simp; omega))
      have hz1 : w.heap.size + 1 < w1.heap.size := by have := hb1.size; simp at this; omega
      refine (l1Copy_any a c fs nx cp sg w1 (hv.below hW1) hl hsl).mono ?_
      rintro e w2 ⟨⟨a2, c2, xs2, rfl, ho2⟩, hb2⟩
      have hW2 : Below w.heap.size w w2 := hW1.trans (hb2.mono hW1.size)
      obtain ⟨hc2, hf2⟩ := bcell hb2
      have hz2' : w.heap.size + 1 < w2.heap.size := Nat.lt_of_lt_of_le hz1 hb2.size
      have hz3' : w.heap.size < w2.heap.size := by omega
      have hz4' : w.heap.size < w1.heap.size := by omega
      have hv2 := hv.below hW2
      go_wp2_with (go_at_call 62; refine (l1Find_any a c fs tag _ (hv2.below ?_) hl).mono ?_; exact (Below.refl _ _).alloc (Nat.le_refl _) _; rintro e w3 ⟨rfl, rfl⟩)
      refine bodyPost_ret (v := C6.val ⟨fs, nx, cp, sg, 5, 0⟩ a2 c2) (by simp [results, Try.results30, go_sem, hc1, hc2, C6.val, hz1, hz2']) rfl ⟨⟨a2, c2, rfl, ?_⟩, ?_⟩
      · exact (((((((ho2.set (by simp; omega) _).set (by simp; omega) _).set (by simp; omega) _).set (by simp; omega) _).set (by simp; omega) _).set (by simp; omega) _).allocd _).at
      · exact ((((((hW2.setCell (by simp) _).setCell (by simp) _).setCell (by simp) _).setCell (by simp) _).setCell (by simp) _).setCell (by simp) _).alloc (by simp [World.setCell]; omega) _
    | some i =>
      rw [retr_some hva hi]
      have hfe := filter_erase (sValid_from hva) hi
      have hix : ixInt (fidx tag fs) = (i : Int) := by rw [hi]; rfl
      have HFE := hidden' hfe
      clear hi hfe
      go_enter Try.func30, Try.ntmps30
      go_wp2_with (go_at_call 18; refine (sStoreValid_any a c fs nx cp sg _ (hv.below (B2 _ _)) hc hl hs).mono ?_; rintro e w1 ⟨rfl, hb1⟩; obtain ⟨hc1, hf1⟩ := bcell hb1)
      have hW1 : Below w.heap.size w w1 := (B2 _ _).trans (hb1.mono (by simp; omega))
      have hz1 : w.heap.size + 1 < w1.heap.size := by have := hb1.size; simp at this; omega
      refine (l1Copy_any a c fs nx cp sg w1 (hv.below hW1) hl hsl).mono ?_
      rintro e w2 ⟨⟨a2, c2, xs2, rfl, ho2⟩, hb2⟩
      have hW2 : Below w.heap.size w w2 := hW1.trans (hb2.mono hW1.size)
      obtain ⟨hc2, hf2⟩ := bcell hb2
      have hz2' : w.heap.size + 1 < w2.heap.size := Nat.lt_of_lt_of_le hz1 hb2.size
      have hz3' : w.heap.size < w2.heap.size := by omega
      have hz4' : w.heap.size < w1.heap.size := by omega
      have hv2 := hv.below hW2
      have hZ := fun o => (ho2.on.kept (w' := w2.alloc o) (fun b _ hlt => Below.heap_alloc _ _ _ hlt))
      go_wp2_with (first | (go_at_call 62; refine (l1Find_any a c fs tag _ (hv2.below ?_) hl).mono ?_; exact (Below.refl _ _).alloc (Nat.le_refl _) _; rintro e w3 ⟨rfl, rfl⟩) | (go_at_call 63; refine (l1Without_any _ a2 c2 fs tag _ (hZ _) hl).mono ?_; rintro e w4 ⟨⟨a4, c4, xs4, rfl, ho4⟩, hb4⟩; obtain ⟨hc4, hf4⟩ := bcell hb4))
      rw [HFE.out] at ho4
      have hz5 : w2.heap.size < w4.heap.size := by have := hb4.size; simp at this; omega
      have hz6 : w.heap.size + 1 < w4.heap.size := by omega
      have hE := hidden' (ho4.at hb4)
      clear ho4
      have hz7 : w.heap.size + 1 < w2.heap.size + 1 := by omega
      have hz8 : ¬ w.heap.size + 1 = w2.heap.size := by omega
      have hz9 : ¬ w2.heap.size = w.heap.size + 1 := by omega
      refine bodyPost_ret (v := C6.val ⟨fs.eraseIdx i, nx, cp, sg, 0, tag⟩ a4 c4) (by simp [results, Try.results30, go_sem, hc1, hc2, hc4, C6.val, hz1, hz2', hz7, HFE.out]) rfl ⟨⟨a4, c4, rfl, ?_⟩, ?_⟩
      · refine (hE.out.kept ?_).at
        intro b hz hlt
        have hne1 : b ≠ w2.heap.size := by simp at hz hlt; omega
        have hne2 : b ≠ w.heap.size + 1 := by simp at hz hlt; omega
        have k1 : ∀ (v : World) o u, (v.setCell ⟨w2.heap.size, o, none⟩ u).heap[b]? = v.heap[b]? := fun v o u => Below.heap_setCell _ _ _ _ hne1
        have k2 : ∀ (v : World) o u, (v.setCell ⟨w.heap.size + 1, o, none⟩ u).heap[b]? = v.heap[b]? := fun v o u => Below.heap_setCell _ _ _ _ hne2
        simp only [k1, k2]
      · have hB4 : Below w.heap.size w w4 := (hW2.alloc (by omega) _).trans (hb4.mono (by simp; omega))
        exact ((((((hB4.setCell (by simp; omega) _).setCell (by simp) _).setCell (by simp) _).setCell (by simp) _).setCell (by simp) _).setCell (by simp) _).setCell (by simp) _
end Go.Proofs.Ytlkfmbpbgnhcjab
