/-
  OUR OWN TEXT. Numbers in falling order: one list for all orders of the same numbers.
-/
import Derived.Test.YtajgedhmliekoaaLl
namespace Go.Proofs.Ytajgedhmliekoaa
open Go.RowKit

def geI (x y : Int) : Bool := decide (y ≤ x)
/-- The numbers, the greatest first. -/
def recy (xs : List Int) : List Int := xs.mergeSort geI
def Falls (ys : List Int) : Prop := ys.Pairwise (fun x y => y ≤ x)
theorem recy_perm (xs : List Int) : (recy xs).Perm xs := List.mergeSort_perm xs geI
theorem recy_len (xs : List Int) : (recy xs).length = xs.length := (recy_perm xs).length_eq
theorem recy_falls (xs : List Int) : Falls (recy xs) := by
  have tr : ∀ a b c : Int, geI a b = true → geI b c = true → geI a c = true := fun a b c h1 h2 => by simp only [geI, decide_eq_true_eq] at *; omega
  have to : ∀ a b : Int, (geI a b || geI b a) = true := fun a b => by simp only [geI, Bool.or_eq_true, decide_eq_true_eq]; omega
  have h := List.pairwise_mergeSort tr to xs
  unfold Falls recy
  exact h.imp (fun hab => by simpa [geI] using hab)
theorem recy_eq {xs ys : List Int} (hp : ys.Perm xs) (hs : Falls ys) : ys = recy xs :=
  List.Perm.eq_of_pairwise (le := fun x y : Int => y ≤ x) (fun a b _ _ h1 h2 => by omega) hs (recy_falls xs) (hp.trans (recy_perm xs).symm)

theorem falls_at {ys : List Int} (h : Falls ys) {i j : Nat} {x y : Int} (hij : i < j) (hx : ys[i]? = some x) (hy : ys[j]? = some y) : y ≤ x := by
  obtain ⟨hi, rfl⟩ := List.getElem?_eq_some_iff.1 hx
  obtain ⟨hj, rfl⟩ := List.getElem?_eq_some_iff.1 hy
  exact (List.pairwise_iff_getElem.1 h) i j hi hj hij
/-- One number at its place. -/
theorem falls_put {ys : List Int} (h : Falls ys) {k : Nat} {t : Int} (hk : k ≤ ys.length) (hd : ∀ y ∈ ys.drop k, y < t) (hl : k = 0 ∨ ∃ x, ys[k - 1]? = some x ∧ t ≤ x) : Falls (ys.take k ++ [t] ++ ys.drop k) := by
  have ht : ∀ x ∈ ys.take k, t ≤ x := by
    intro x hx
    rcases hl with rfl | ⟨z, hz, htz⟩
    · simp at hx
    · obtain ⟨i, hi, rfl⟩ := List.getElem_of_mem hx
      rw [List.length_take] at hi
      have hi' : i < ys.length := by omega
      have hik : i < k := by omega
      have hxi : (ys.take k)[i]'(by rw [List.length_take]; exact hi) = ys[i] := by simp
      rw [hxi]
      by_cases he : i = k - 1
      · subst he
        rw [List.getElem?_eq_getElem hi'] at hz
        injection hz with hz
        omega
      · have := falls_at h (i := i) (j := k - 1) (by omega) (List.getElem?_eq_getElem hi') hz
        omega
  unfold Falls at *
  rw [List.append_assoc, List.pairwise_append]
  refine ⟨h.sublist (List.take_sublist _ _), ?_, ?_⟩
  · rw [List.singleton_append, List.pairwise_cons]
    exact ⟨fun y hy => Int.le_of_lt (hd y hy), h.sublist (List.drop_sublist _ _)⟩
  · intro x hx y hy
    have h1 := ht x hx
    rcases List.mem_append.1 hy with hy | hy
    · simp at hy
      subst hy
      exact h1
    · have := hd y hy
      omega
theorem perm_put (ys : List Int) (k : Nat) (t : Int) {zs : List Int} (h : ys.Perm zs) : (ys.take k ++ [t] ++ ys.drop k).Perm (zs ++ [t]) := by
  have h1 : (ys.take k ++ [t] ++ ys.drop k).Perm (ys.take k ++ ys.drop k ++ [t]) := by
    rw [List.append_assoc, List.append_assoc]
    exact List.Perm.append_left _ List.perm_append_comm
  rw [List.take_append_drop] at h1
  exact h1.trans (h.append_right _)
/-- What Recency answers. -/
def recA (xs : List Int) : List Int := if xs.length ≤ 1000 then recy xs else []
theorem recA_len (xs : List Int) : (recA xs).length ≤ xs.length := by
  unfold recA
  split
  · rw [recy_len]; exact Nat.le_refl _
  · exact Nat.zero_le _
theorem recA_yes {xs : List Int} (h : xs.length ≤ 1000) : recA xs = recy xs := if_pos h
theorem recA_no {xs : List Int} (h : ¬ xs.length ≤ 1000) : recA xs = [] := if_neg h
end Go.Proofs.Ytajgedhmliekoaa
