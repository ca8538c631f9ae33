/-
  OUR OWN TEXT. Parsing as plain mathematics: lists of words in, faults or data out.
-/
import Derived.Test.YtdhpoagjmiligaaGreatDoorKav
namespace Go.Proofs.YtdhpoagjmiligaaGreatDoor

/-- A fault: its code and its place. -/
abbrev Flt := Int × Nat
/-- What reading tells: a fault, or what was read and the words that are left. -/
abbrev Px (α : Type) := Except Flt (α × List Wd)
def andP {α β : Type} (r : Px α) (f : α → List Wd → Px β) : Px β := match r with
  | .error e => .error e
  | .ok (x, l) => f x l
/-- A word's kind as the program counts it, and what it keeps of its text. -/
def pkW (x : Wd) : Int := if x.kind = 0 then 0 else if x.kind = 1 then 40 else if x.kind = 2 then 41 else pkind x.text
def ptW (x : Wd) : Bs := if x.kind = 0 then [] else if x.kind = 1 then [] else if x.kind = 2 then [] else ptext x.text
def badW (x : Wd) : Option Flt := if x.kind = 7 then some (1, x.pos) else if x.kind = 8 then some (2, x.pos) else none
def nextW : List Wd → Px Wd
  | [] => .error (0, 0)
  | x :: r => match badW x with
    | some f => .error f
    | none => .ok (x, if x.kind = 0 then x :: r else r)
def takeW (k : Int) (l : List Wd) : Px Wd := match nextW l with
  | .error f => .error f
  | .ok (x, r) => if pkW x = k then .ok (x, r) else .error (3, x.pos)
/-- A word is as the cutting makes it. -/
def WdOk (x : Wd) : Prop := (x.text = [] ∧ x.num = 0 ∧ (x.kind = 0 ∨ x.kind = 1 ∨ x.kind = 2 ∨ x.kind = 7)) ∨ (x.kind = mkind x.text ∧ x.num = mnum x.text)
theorem mkind_ne (t : Bs) : mkind t ≠ 0 ∧ mkind t ≠ 1 ∧ mkind t ≠ 2 ∧ mkind t ≠ 7 := by
  unfold mkind
  repeat' split
  all_goals decide
theorem opTx_ix (t : Bs) : decide (t ∈ opTx) = decide (testIx t ≠ 0) := by
  by_cases h : testIx t = 0
  · rw [show decide (testIx t ≠ 0) = false from decide_eq_false fun hh => hh h]
    refine decide_eq_false fun hm => ?_
    obtain ⟨i, hi, e⟩ := List.getElem_of_mem hm
    have hi' : i < 6 := hi
    have := testIx_hit (t := t) (n := i + 1) (by omega) (by omega) (by rw [← e]; simp [List.getD, hi])
    omega
  · rw [show decide (testIx t ≠ 0) = true from decide_eq_true h]
    refine decide_eq_true ?_
    apply Classical.byContradiction
    intro hm
    refine h (testIx_none fun j hj e => hm ?_)
    rw [← e]
    have hj' : j < opTx.length := hj
    simp [List.getD, hj']
/-- What is no word by one count is none by the other. -/
theorem pkind_bad (t : Bs) : pkind t = -1 ↔ mkind t = 8 := by
  have hix := opTx_ix t
  unfold pkind mkind isOtherW
  rw [hix]
  by_cases h1 : (numOf t).isSome = true
  · simp [h1]
  · by_cases h2 : gSym t = true
    · by_cases h3 : isVarW t = true <;> simp [h1, h2, h3]
    · by_cases h3 : isVarW t = true
      · simp [h1, h2, h3]
      · by_cases h4 : testIx t ≠ 0
        · simp [h1, h2, h3, h4]
        · by_cases h5 : t ∈ arTx
          · simp [h1, h2, h3, h4, h5]
          · by_cases h6 : t = [95]
            · rw [if_neg h1, if_neg h2, if_neg h3, if_neg h4, if_neg h5, if_pos h6, if_neg h1, if_neg h3, if_neg h2, if_pos (by rw [decide_eq_true h6]; rfl)]
              decide
            · by_cases h7 : t = [61, 62]
              · rw [if_neg h1, if_neg h2, if_neg h3, if_neg h4, if_neg h5, if_neg h6, if_pos h7, if_neg h1, if_neg h3, if_neg h2, if_pos (by rw [decide_eq_true h7]; simp)]
                decide
              · simp [h1, h2, h3, h4, h5, h6, h7]
end Go.Proofs.YtdhpoagjmiligaaGreatDoor
