/-
  OUR OWN TEXT. The plain mathematics of Chapter 1: nothing of the program, nothing of the walk.
-/
namespace Go.Proofs.YtgkoiojelckblaaGreatDoor

/-- A letter 'a' to 'z'; a digit; a byte of a symbol: of a byte as a number. -/
def isL (c : Int) : Bool := decide (97 ≤ c) && decide (c ≤ 122)
def isD (c : Int) : Bool := decide (48 ≤ c) && decide (c ≤ 57)
def isC (c : Int) : Bool := isL c || isD c || decide (c = 45)
def byteL (c : UInt8) : Bool := isL (c.toNat : Int)
def byteC (c : UInt8) : Bool := isC (c.toNat : Int)

/-- A good symbol. -/
def gSym (s : List UInt8) : Bool := decide (1 ≤ s.length) && decide (s.length ≤ 20) && byteL (s.headD 0) && s.all byteC

theorem isC_of_isL {c : Int} (h : isL c = true) : isC c = true := by simp [isC, h]

theorem gSym_short {s : List UInt8} (h : s.length = 0) : gSym s = false := by simp [gSym, h]
theorem gSym_long {s : List UInt8} (h : 20 < s.length) : gSym s = false := by
  have : decide (s.length ≤ 20) = false := by simpa using h
  simp [gSym, this]
theorem gSym_head {s : List UInt8} (h : byteL (s.headD 0) = false) : gSym s = false := by simp only [gSym, h, Bool.and_false, Bool.false_and]
theorem gSym_bad {s : List UInt8} {k : Nat} (hk : k < s.length) (h : byteC s[k] = false) : gSym s = false := by
  have : s.all byteC = false := by
    rw [List.all_eq_false]
    exact ⟨s[k], List.getElem_mem hk, by simp [h]⟩
  simp [gSym, this]
theorem gSym_good {s : List UInt8} (h1 : 1 ≤ s.length) (h2 : s.length ≤ 20) (h3 : byteL (s.headD 0) = true) (h4 : s.all byteC = true) : gSym s = true := by
  simp only [gSym, h3, h4, Bool.and_true, Bool.and_eq_true, decide_eq_true_eq]
  exact ⟨h1, h2⟩
theorem all_take_succ {s : List UInt8} {k : Nat} (hk : k < s.length) (h : (s.take k).all byteC = true) (hc : byteC s[k] = true) : (s.take (k + 1)).all byteC = true := by
  rw [List.take_succ_eq_append_getElem hk, List.all_append, h]
  simp [hc]

end Go.Proofs.YtgkoiojelckblaaGreatDoor
