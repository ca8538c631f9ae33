/-
  OUR OWN TEXT. Modes: the plain mathematics: how many terms look at an earlier positive pattern, and what a way tells of a rule.
-/
import Derived.Test.YtgkoiojelckblaaGreatDoorKag
import Derived.Laws.Strings
namespace Go.Proofs.YtgkoiojelckblaaGreatDoor

/-- Checked rules have right patterns, at most six. -/
theorem firstBad_noneM {α : Type} (f : α → Bool) : ∀ (l : List α) (k : Nat), firstBad f l k = none → ∀ x ∈ l, f x = true
  | [], _, _, x, hx => by simp at hx
  | y :: r, k, h, x, hx => by
    unfold firstBad at h
    cases hy : f y
    · rw [hy] at h
      simp at h
    · rw [hy] at h
      simp only [if_true] at h
      rcases List.mem_cons.1 hx with rfl | hx
      · exact hy
      · exact firstBad_noneM f r (k + 1) h x hx
theorem shape_pats {r : Ru} (h : shape r = none) : r.pats.length ≤ 6 ∧ ∀ p ∈ r.pats, gPt p = true := by
  unfold shape at h
  split at h
  · rename_i hh
    simp only [headOk, Bool.and_eq_true, decide_eq_true_eq] at hh
    refine ⟨hh.2.1, ?_⟩
    cases hb : firstBad gPt r.pats 1 with
    | some i => rw [hb] at h; cases h
    | none => exact firstBad_noneM gPt r.pats 1 hb
  · cases h
theorem chk1_shape {pre : List Ru} {r : Ru} (h : (chk1 pre r).1 = 0) : shape r = none ∧ positives r.pats ≤ 3 := by
  unfold chk1 at h
  cases hs : shape r with
  | some i => rw [hs] at h; simp at h
  | none =>
    refine ⟨rfl, ?_⟩
    rw [hs] at h
    simp only at h
    split at h
    · simp at h
    · split at h
      · rename_i hp
        exact hp.2
      · simp at h
theorem chkGo_each : ∀ (l pre : List Ru) (k : Nat), (chkGo pre l k).1 = 0 → ∀ r ∈ l, shape r = none ∧ positives r.pats ≤ 3
  | [], _, _, _, r, hr => by simp at hr
  | q :: s, pre, k, h, r, hr => by
    unfold chkGo at h
    split at h
    · rename_i h0
      rcases List.mem_cons.1 hr with rfl | hr
      · exact chk1_shape h0
      · exact chkGo_each s _ _ h r hr
    · rename_i h0
      exact absurd h h0
theorem chk_each {rs : List Ru} (h : (chk rs).1 = 0) : rs.length ≤ 16 ∧ ∀ r ∈ rs, shape r = none ∧ positives r.pats ≤ 3 := by
  unfold chk at h
  split at h
  · rename_i hl
    exact ⟨hl, chkGo_each rs [] 0 h⟩
  · simp at h
end Go.Proofs.YtgkoiojelckblaaGreatDoor
