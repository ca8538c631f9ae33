/-
  OUR OWN TEXT. Impl2, Impl3, one behind the other.
-/
import Derived.Test.YtgamdkokmkagaaaJn
import Derived.Test.YtgamdkokmkagaaaImpl1m
import Derived.Test.YtgamdkokmkagaaaJo
import Derived.Deep.RegionHeld3
import Derived.Deep.QuietTactic
import Derived.BigQuiet
import Derived.Deep.DrawnRows
namespace Go.Proofs.Ytgamdkokmkagaaa
open Go.RowKit
attribute [local go_sem ↓] Go.wp_at_zero Go.wp_at_succ

/-- Numbers that are read are numbers of their kind. -/
def Read (f : F) : Prop := (Lit.int .i64 f.tag).wf = true ∧ ∀ v ∈ f.slots, VOk v

theorem kok_of {fs : List F} {last : Int} (hs : ∀ f ∈ fs, Sized f) (hr : ∀ f ∈ fs, Read f) (hg : gFrom last fs = true) : ∀ f ∈ fs, KOk f := by
  induction fs generalizing last with
  | nil => intro f hf; simp at hf
  | cons g r ih =>
    intro f hf
    simp only [gFrom, okF, gSlots, Bool.and_eq_true, decide_eq_true_eq] at hg
    rcases List.mem_cons.1 hf with rfl | hm
    · exact ⟨(hs f (by simp)).1, hg.1.2.2.2.1, (hr f (by simp)).2⟩
    · exact ih (fun x hx => hs x (by simp [hx])) (fun x hx => hr x (by simp [hx])) hg.2 f hm

set_option maxHeartbeats 1600000 in
theorem valid_bad (a : Option Addr) (c : Nat) (fs : List F) (nx cp : Int) (sg : Bool) (w : World) (hv : FactsAt w a fs) (hl : fs.length ≤ 1048576) (hs : ∀ f ∈ fs, Sized f) (hh : sHead fs nx cp = false) :
    Calls Try.prog 65 #[.agg #[.slice a fs.length c, .int .i64 nx, .int .i64 cp, .bool sg]] w fun e w' =>
      e = .returned (.bool (iValid fs nx cp sg)) ∧ Below w.heap.size w w' := by
  have HR : Hid (iValid fs nx cp sg = false) := by unfold iValid; rw [hh]; exact rfl
  have B1 : ∀ o, Below w.heap.size w (w.alloc o) := fun o => (Below.refl _ _).alloc (Nat.le_refl _) _
  have hcs : cp < 0 ∨ (0 ≤ cp ∧ 40 < cp) ∨ (0 ≤ cp ∧ cp ≤ 40 ∧ cp < fs.length) ∨ (0 ≤ cp ∧ cp ≤ 40 ∧ (fs.length : Int) ≤ cp ∧ nx < 1) ∨ (0 ≤ cp ∧ cp ≤ 40 ∧ (fs.length : Int) ≤ cp ∧ 1 ≤ nx ∧ 1000001 < nx) ∨ (0 ≤ cp ∧ cp ≤ 40 ∧ (fs.length : Int) ≤ cp ∧ 1 ≤ nx ∧ nx ≤ 1000001 ∧ gFacts fs = false) := by
    rcases sHead_cases fs nx cp hh with h | h | h | ⟨h1, h2, h3, h4⟩ | ⟨h1, h2, h3, _, h5⟩ | ⟨h1, h2, h3, _, h5, h6⟩
    · omega
    · omega
    · omega
    · by_cases h5 : nx < 1
      · omega
      · by_cases h6 : 1000001 < nx
        · omega
        · exact .inr (.inr (.inr (.inr (.inr ⟨h1, h2, h3, by omega, by omega, h4⟩))))
    · omega
    · omega
  clear hh
  rcases hcs with h1 | ⟨h1, h2⟩ | ⟨h1, h2, h3⟩ | ⟨h1, h2, h3, h4⟩ | ⟨h1, h2, h3, h4, h5⟩ | ⟨h1, h2, h3, h4, h5, h6⟩
  all_goals
    go_enter Try.func65, Try.ntmps65
    go_wp2_with (go_at_call 107; refine (goodFacts_any a c fs _ (hv.below (B1 _)) hl hs).mono ?_; rintro e w' ⟨rfl, hb'⟩; obtain ⟨hc, hf⟩ := bcell hb')
    go_ret
    first
    | exact ⟨ret_bool HR.out.symm, B1 _⟩
    | exact ⟨ret_bool HR.out.symm, (B1 _).trans (hb'.mono (by simp))⟩

end Go.Proofs.Ytgamdkokmkagaaa

namespace Go.Proofs.Ytgamdkokmkagaaa
open Go.RowKit
attribute [local go_sem ↓] Go.wp_at_zero Go.wp_at_succ

set_option maxHeartbeats 1600000 in
theorem valid_good (a : Option Addr) (c : Nat) (fs : List F) (nx cp : Int) (sg : Bool) (w : World) (hv : FactsAt w a fs) (hs : ∀ f ∈ fs, Sized f) (hr : ∀ f ∈ fs, Read f) (hh : sHead fs nx cp = true) :
    Calls Try.prog 65 #[.agg #[.slice a fs.length c, .int .i64 nx, .int .i64 cp, .bool sg]] w fun e w' =>
      e = .returned (.bool (iValid fs nx cp sg)) ∧ Below w.heap.size w w' := by
  have HR : Hid (iValid fs nx cp sg = (lastOk nx fs && (!sg || decide ((fs.map like).Nodup)))) := by unfold iValid; rw [hh]; exact rfl
  have B1 : ∀ o, Below w.heap.size w (w.alloc o) := fun o => (Below.refl _ _).alloc (Nat.le_refl _) _
  obtain ⟨h1, h2, h3, h4, h5, h6⟩ : 0 ≤ cp ∧ cp ≤ 40 ∧ (fs.length : Int) ≤ cp ∧ gFacts fs = true ∧ 1 ≤ nx ∧ nx ≤ 1000001 := by
    unfold sHead at hh
    simpa [Bool.and_eq_true] using hh
  have hkok : ∀ f ∈ fs, KOk f := kok_of (last := 0) hs hr (by simp only [gFacts, Bool.and_eq_true] at h4; exact h4.2)
  clear hh
  go_enter Try.func65, Try.ntmps65
  go_wp2_with (go_at_call 107; refine (goodFacts_any _ c fs _ (hv.below (B1 _)) (by omega) hs).mono ?_; rintro e w' ⟨rfl, hb'⟩; obtain ⟨hc, hf⟩ := bcell hb')
  have q0 : w'.cell? ⟨w.heap.size, 0, none⟩ = some (.slice a fs.length c) := by rw [hc _ _ (by simp)]; simp [go_sem]
  have q1 : w'.cell? ⟨w.heap.size, 1, none⟩ = some (.int .i64 nx) := by rw [hc _ _ (by simp)]; simp [go_sem]
  have q3 : w'.cell? ⟨w.heap.size, 3, none⟩ = some (.bool sg) := by rw [hc _ _ (by simp)]; simp [go_sem]
  have hB : Below w.heap.size w w' := (B1 _).trans (hb'.mono (by simp))
  clear hc hf hb' B1 h1 h2 h5 h6
  cases hfs : fs.getLast? with
  | none =>
    obtain rfl : fs = [] := by simpa using hfs
    clear hfs
    go_quiet (fail)
    have hBq : Below w.heap.size w (w'.drewN nq) := below_drewN hB _
    have hvq := hv.below hBq
    clear hv
    cases sg
    all_goals
      go_wp2_with (go_at_call 123; refine (allUnlike_any a c [] _ hvq (by simp) (fun f hf => by simp at hf) (fun f hf => by simp at hf)).mono ?_; rintro e w3 ⟨rfl, hb3⟩)
      go_ret
    · exact ⟨ret_bool (by rw [HR.out]; rfl), hBq⟩
    · exact ⟨ret_bool (by rw [HR.out]; rfl), hBq.trans (hb3.mono hBq.size)⟩
  | some l =>
    obtain ⟨m, hm⟩ : ∃ m, fs.length = m + 1 := ⟨fs.length - 1, by cases fs with | nil => simp at hfs | cons x r => simp⟩
    have hlm : fs[m]? = some l := by rw [List.getLast?_eq_getElem?, hm] at hfs; simpa using hfs
    obtain ⟨b, o, rfl, c0, _, _, _, _, _⟩ := (hv.below hB) m l hlm
    have c1 : w'.cell? ⟨b, o + (fs.length - 1) * 3, none⟩ = some (.int .i64 l.tag) := by
      rw [show fs.length - 1 = m by omega]; exact c0
    have z0 : (0 : Int) ≤ (fs.length : Int) - 1 := by omega
    have z1 : (fs.length : Int) - 1 < (fs.length : Int) := by omega
    have z2 : (0 : Int) < (fs.length : Int) := by omega
    have z3 : (1 : Int) ≤ (fs.length : Int) := by omega
    clear c0 hm
    have d0 : decide (0 < fs.length) = true := by simp; omega
    have hw : IntKind.i64.wrap ((fs.length : Int) - 1) = (fs.length : Int) - 1 := by rw [IntKind.wrap_i64]; omega
    go_region_held3 (fun w2 => w2.cell? ⟨w.heap.size, 0, none⟩ = some (.slice (some ⟨b, o, none⟩) fs.length c) ∧ w2.cell? ⟨w.heap.size, 1, none⟩ = some (.int .i64 nx) ∧ w2.cell? ⟨b, o + (fs.length - 1) * 3, none⟩ = some (.int .i64 l.tag)) ((exact ⟨q0, q1, c1⟩)) (fail)
    have hBq : Below w.heap.size w w'.drew := hB.drew
    have hvq := hv.below hBq
    have HL : Hid (lastOk nx fs = decide (l.tag < nx)) := by unfold lastOk; rw [hfs]; exact rfl
    clear hv c1 hw z0 z1
    by_cases ht : nx ≤ l.tag
    · go_wp2
      go_ret
      exact ⟨ret_bool (by rw [HR.out, HL.out, decide_eq_false (by omega)]; rfl), hBq⟩
    · cases sg
      all_goals
        go_wp2_with (go_at_call 123; refine (allUnlike_any (some ⟨b, o, none⟩) c fs _ hvq (by omega) hkok (fun f hf => (hr f hf).1)).mono ?_; rintro e w3 ⟨rfl, hb3⟩)
        go_ret
      · exact ⟨ret_bool (by rw [HR.out, HL.out, decide_eq_true (p := l.tag < nx) (by omega)]; rfl), hBq⟩
      · exact ⟨ret_bool (by rw [HR.out, HL.out, decide_eq_true (p := l.tag < nx) (by omega)]; rfl), hBq.trans (hb3.mono hBq.size)⟩

/-- THE PROGRAM's StoreValid ANSWERS AS THE MODEL's. -/
theorem iStoreValid_any (a : Option Addr) (c : Nat) (fs : List F) (nx cp : Int) (sg : Bool) (w : World) (hv : FactsAt w a fs) (hl : fs.length ≤ 1048576) (hs : ∀ f ∈ fs, Sized f) (hr : ∀ f ∈ fs, Read f) :
    Calls Try.prog 65 #[.agg #[.slice a fs.length c, .int .i64 nx, .int .i64 cp, .bool sg]] w fun e w' =>
      e = .returned (.bool (sValid fs nx cp sg)) ∧ Below w.heap.size w w' := by
  rw [← iValid_eq]
  cases hh : sHead fs nx cp
  · exact valid_bad a c fs nx cp sg w hv hl hs hh
  · exact valid_good a c fs nx cp sg w hv hs hr hh

set_option maxHeartbeats 400000 in
theorem storeValid_any (a : Option Addr) (c : Nat) (fs : List F) (nx cp : Int) (sg : Bool) (w : World) (hv : FactsAt w a fs) (hl : fs.length ≤ 1048576) (hs : ∀ f ∈ fs, Sized f) (hr : ∀ f ∈ fs, Read f) :
    Calls Try.prog 17 #[.agg #[.slice a fs.length c, .int .i64 nx, .int .i64 cp, .bool sg]] w fun e w' =>
      e = .returned (.bool (sValid fs nx cp sg)) ∧ Below w.heap.size w w' := by
  have B1 : ∀ o, Below w.heap.size w (w.alloc o) := fun o => (Below.refl _ _).alloc (Nat.le_refl _) _
  go_enter Try.func17, Try.ntmps17
  go_wp2_with (go_at_call 65; refine (iStoreValid_any a c fs nx cp sg _ (hv.below (B1 _)) hl hs hr).mono ?_; rintro e w' ⟨rfl, hb'⟩)
  go_ret
  exact ⟨rfl, (B1 _).trans (hb'.mono (by simp))⟩
end Go.Proofs.Ytgamdkokmkagaaa
