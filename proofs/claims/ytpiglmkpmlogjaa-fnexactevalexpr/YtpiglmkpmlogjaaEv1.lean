/-
  OUR OWN TEXT. The plain mathematics of EvalExpr: what an operation tells, and numbers by their digits of base 65536.
-/
import Derived.Test.YtpiglmkpmlogjaaTyB
import Derived.Test.YtpiglmkpmlogjaaChk
import Derived.WalkKit
import Derived.Laws.BitsAllLaws
namespace Go.Proofs.Ytpiglmkpmlogjaa

def least : Int := -9223372036854775808
def fits (n : Int) : Bool := decide (-9223372036854775808 ≤ n) && decide (n ≤ 9223372036854775807)
theorem fits_yes {n : Int} (h1 : -9223372036854775808 ≤ n) (h2 : n ≤ 9223372036854775807) : fits n = true := by simp [fits, h1, h2]
theorem fits_iff {n : Int} : fits n = true ↔ -9223372036854775808 ≤ n ∧ n ≤ 9223372036854775807 := by simp [fits]
theorem fits_no {n : Int} : fits n = false ↔ ¬ (-9223372036854775808 ≤ n ∧ n ≤ 9223372036854775807) := by rw [← fits_iff]; simp

/-- A result, if it is a number of 64 bits; else the code 6. -/
def narrow (n : Int) : Int × Int := if fits n = true then (n, 0) else (0, 6)
/-- An operation of two numbers: the number and the code. -/
def calc1 (op a b : Int) : Int × Int :=
  if op = 43 then narrow (a + b)
  else if op = 45 then narrow (a - b)
  else if op = 42 then narrow (a * b)
  else if b = 0 then (0, 7)
  else if op = 47 then narrow (a.tdiv b)
  else (a.tmod b, 0)

def vZero : V := ⟨0, 0, ByteArray.empty⟩
def evBad (c : Int) : Ev := ⟨c, vZero⟩
def lookB (bs : List Bd) (s : ByteArray) : Option V :=
  match bs with
  | [] => none
  | b :: r => if b.var = s then some b.val else lookB r s
def evVar (bs : List Bd) (s : ByteArray) : Ev :=
  match lookB bs s with
  | some v => ⟨0, v⟩
  | none => evBad 1
def evOp (op : Int) (x y : Ev) : Ev :=
  if x.code ≠ 0 then x else if y.code ≠ 0 then y
  else if x.val.kind ≠ 0 ∨ y.val.kind ≠ 0 then evBad 8
  else if (calc1 op x.val.num y.val.num).2 ≠ 0 then evBad (calc1 op x.val.num y.val.num).2
  else ⟨0, ⟨0, (calc1 op x.val.num y.val.num).1, ByteArray.empty⟩⟩
def zEv : Ev := evBad 0
/-- One expr, over those ahead of it. -/
def ev1 (bs : List Bd) (tab : List Ev) (e : Ex) : Ev :=
  if e.kind = 0 then ⟨0, e.val⟩
  else if e.kind = 1 then evVar bs e.var
  else evOp e.op (tab.getD e.a.toNat zEv) (tab.getD e.b.toNat zEv)
def table (bs : List Bd) : List Ex → List Ev → List Ev
  | [], tab => tab
  | e :: r, tab => table bs r (tab ++ [ev1 bs tab e])
/-- An expr that can be evaluated at place k. -/
def soundE (k : Nat) (e : Ex) : Bool :=
  e.kind == 0 || e.kind == 1 || (e.kind == 2 && isAr e.op && decide (0 ≤ e.a) && decide (e.a < (k : Int)) && decide (0 ≤ e.b) && decide (e.b < (k : Int)))
def soundGo : List Ex → Nat → Bool
  | [], _ => true
  | e :: r, k => soundE k e && soundGo r (k + 1)
def evalX (es : List Ex) (bs : List Bd) (i : Int) : Ev :=
  if 0 ≤ i ∧ i < (es.length : Int) ∧ es.length ≤ 60 then
    if soundGo (es.take (i.toNat + 1)) 0 = true then (table bs (es.take (i.toNat + 1)) []).getD i.toNat zEv else evBad 1
  else evBad 1

/-- Digits of base 65536, the lowest first. -/
def dval : List Nat → Nat
  | [] => 0
  | d :: r => d + 65536 * dval r
theorem dval_append : ∀ (l m : List Nat), dval (l ++ m) = dval l + 65536 ^ l.length * dval m
  | [], m => by simp [dval]
  | d :: r, m => by
    rw [List.cons_append, dval, dval, dval_append r m, List.length_cons, Nat.pow_succ, Nat.mul_add, ← Nat.mul_assoc, Nat.mul_comm 65536 (65536 ^ r.length)]
    omega
theorem dval_lt : ∀ (l : List Nat), (∀ d ∈ l, d < 65536) → dval l < 65536 ^ l.length
  | [], _ => by simp [dval]
  | d :: r, h => by
    have h1 := dval_lt r (fun x hx => h x (List.mem_cons_of_mem _ hx))
    have h2 := h d (by simp)
    rw [dval, List.length_cons, Nat.pow_succ]
    omega
theorem dval_set : ∀ (l : List Nat) (j d x : Nat), l[j]? = some x → dval (l.set j d) + 65536 ^ j * x = dval l + 65536 ^ j * d
  | [], j, d, x, h => by simp at h
  | y :: r, 0, d, x, h => by
    simp at h
    subst h
    simp [dval]
    omega
  | y :: r, j + 1, d, x, h => by
    rw [List.getElem?_cons_succ] at h
    have h1 := dval_set r j d x h
    rw [List.set_cons_succ, dval, dval, Nat.pow_succ, Nat.mul_comm (65536 ^ j) 65536, Nat.mul_assoc, Nat.mul_assoc]
    omega
theorem dval_take (l : List Nat) (k y : Nat) (h : l[k]? = some y) : dval (l.take (k + 1)) = dval (l.take k) + 65536 ^ k * y := by
  obtain ⟨hk, rfl⟩ := List.getElem?_eq_some_iff.1 h
  rw [List.take_succ_eq_append_getElem hk, dval_append, List.length_take, Nat.min_eq_left (by omega)]
  simp [dval]
theorem dval_zeros (n : Nat) : dval (List.replicate n 0) = 0 := by
  induction n with
  | zero => rfl
  | succ n ih => rw [List.replicate_succ, dval, ih]

/-- The inner step of the multiplication. -/
theorem mul_step {V0 X Bk P c o s : Nat} (hs : s = o + X + c) {V1 : Nat} (h0 : V1 + P * c = V0 + Bk) {V2 : Nat} (hset : V2 + P * o = V1 + P * (s % 65536)) : V2 + P * 65536 * (s / 65536) = V0 + (Bk + P * X) := by
  have h1 : s % 65536 + 65536 * (s / 65536) = s := Nat.mod_add_div s 65536
  have h2 : P * (s % 65536) + P * 65536 * (s / 65536) = P * s := by
    rw [Nat.mul_assoc, ← Nat.mul_add, h1]
  have h3 : P * s = P * o + P * X + P * c := by rw [hs, Nat.mul_add, Nat.mul_add]
  omega
theorem prod_lt {x y : Nat} (hx : x < 65536) (hy : y < 65536) : x * y ≤ 4294836225 := by
  have h1 : x * y ≤ 65535 * 65535 := Nat.mul_le_mul (by omega) (by omega)
  omega

/-- The program's own test of a product. -/
theorem prod_test {a b : Int} (hb : fits b = true) (hb0 : b ≠ 0) (c : Int) (k : Int) (hk : c = a * b - 18446744073709551616 * k) : (c.tdiv b = a) ↔ c = a * b := by
  rw [fits_iff] at *
  constructor
  · intro h
    have h1 : c = b * (c.tdiv b) + c.tmod b := (Int.mul_tdiv_add_tmod c b).symm
    rw [h] at h1
    have h2 : b * a = a * b := Int.mul_comm _ _
    have h3 : (c.tmod b).natAbs < b.natAbs := by
      rw [Int.natAbs_tmod]
      exact Nat.mod_lt _ (by omega)
    have h4 : c.tmod b = - (18446744073709551616 * k) := by omega
    have h5 : k = 0 := by omega
    rw [hk, h5]
    omega
  · intro h
    rw [h]
    exact Int.mul_tdiv_cancel a hb0
theorem tdiv_fits {a b : Int} (ha : fits a = true) (hb : fits b = true) (hb0 : b ≠ 0) : fits (a.tdiv b) = true ↔ ¬ (a = least ∧ b = -1) := by
  have key : (a.tdiv b).natAbs ≤ a.natAbs := by
    rw [Int.natAbs_tdiv]
    exact Nat.div_le_self _ _
  rw [fits_iff] at *
  constructor
  · rintro h ⟨rfl, rfl⟩
    have : Int.tdiv least (-1) = 9223372036854775808 := by decide
    omega
  · intro h
    by_cases hl : a = least
    · have hb1 : b ≠ -1 := fun e => h ⟨hl, e⟩
      by_cases hp : 0 < b
      · have h1 : a.tdiv b ≤ 0 := by
          subst hl
          have h2 : Int.tdiv least b = - (Int.tdiv 9223372036854775808 b) := by
            rw [show least = -9223372036854775808 from rfl, Int.neg_tdiv]
          have h3 : 0 ≤ Int.tdiv 9223372036854775808 b := Int.tdiv_nonneg (by omega) (by omega)
          omega
        unfold least at hl
        omega
      · have hb2 : 2 ≤ b.natAbs := by omega
        have h4 : (a.tdiv b).natAbs ≤ 4611686018427387904 := by
          rw [Int.natAbs_tdiv, hl]
          have : least.natAbs = 9223372036854775808 := by decide
          rw [this]
          have h5 := Nat.div_le_div_left (a := 9223372036854775808) hb2 (by omega)
          omega
        omega
    · unfold least at hl
      omega
/-- Numbers of 64 bits wrap around. -/
theorem wrapEx (x : Int) : ∃ k, IntKind.i64.wrap x = x - 18446744073709551616 * k ∧ fits (IntKind.i64.wrap x) = true := by
  refine ⟨(x + 9223372036854775808) / 18446744073709551616, ?_, ?_⟩
  · simp [IntKind.wrap, IntKind.bits, IntKind.signed]
    omega
  · rw [fits_iff]
    simp [IntKind.wrap, IntKind.bits, IntKind.signed]
    omega
theorem wrap64_fit {x : Int} (h : fits x = true) : IntKind.i64.wrap x = x := by
  obtain ⟨k, h1, h2⟩ := wrapEx x
  rw [fits_iff] at h h2
  omega
theorem wrap64_eq {x : Int} : IntKind.i64.wrap x = x ↔ fits x = true := by
  constructor
  · intro h
    obtain ⟨k, h1, h2⟩ := wrapEx x
    rwa [h] at h2
  · exact wrap64_fit
/-- The program's own test of a sum, a difference, a product. -/
theorem sum_test {a b : Int} (ha : fits a = true) (hb : fits b = true) : (decide (a < IntKind.i64.wrap (a + b)) == decide (0 < b)) = fits (a + b) := by
  obtain ⟨k, h1, h2⟩ := wrapEx (a + b)
  rw [fits_iff] at ha hb h2
  have h3 : fits (a + b) = decide (-9223372036854775808 ≤ a + b ∧ a + b ≤ 9223372036854775807) := by simp [fits]
  rw [h3]
  by_cases c1 : a < IntKind.i64.wrap (a + b) <;> by_cases c2 : 0 < b <;> by_cases c3 : -9223372036854775808 ≤ a + b ∧ a + b ≤ 9223372036854775807 <;> simp [c1, c2, c3] <;> omega
theorem diff_test {a b : Int} (ha : fits a = true) (hb : fits b = true) : (decide (IntKind.i64.wrap (a - b) < a) == decide (0 < b)) = fits (a - b) := by
  obtain ⟨k, h1, h2⟩ := wrapEx (a - b)
  rw [fits_iff] at ha hb h2
  have h3 : fits (a - b) = decide (-9223372036854775808 ≤ a - b ∧ a - b ≤ 9223372036854775807) := by simp [fits]
  rw [h3]
  by_cases c1 : IntKind.i64.wrap (a - b) < a <;> by_cases c2 : 0 < b <;> by_cases c3 : -9223372036854775808 ≤ a - b ∧ a - b ≤ 9223372036854775807 <;> simp [c1, c2, c3] <;> omega
theorem prod_ok {a b : Int} (ha : fits a = true) (hb : fits b = true) (hb0 : b ≠ 0) : (IntKind.i64.wrap ((IntKind.i64.wrap (a * b)).tdiv b) = a ∧ ¬ (a = least ∧ b = -1)) ↔ fits (a * b) = true := by
  obtain ⟨k, h1, h2⟩ := wrapEx (a * b)
  have ht := prod_test (a := a) hb hb0 _ k h1
  have hw := wrap64_eq (x := a * b)
  have hd := tdiv_fits h2 hb hb0
  by_cases hl : IntKind.i64.wrap (a * b) = least ∧ b = -1
  · obtain ⟨hl1, rfl⟩ := hl
    rw [hl1] at h1
    rw [fits_iff] at ha
    unfold least at h1
    have ha1 : a = least := by unfold least; omega
    subst ha1
    constructor
    · rintro ⟨_, h⟩
      exact absurd ⟨rfl, rfl⟩ h
    · intro h
      rw [fits_iff] at h
      unfold least at h
      omega
  · rw [wrap64_fit (hd.2 hl), ht, ← hw]
    constructor
    · exact fun h => h.1
    · intro h
      refine ⟨h, ?_⟩
      rintro ⟨rfl, rfl⟩
      rw [hw, fits_iff] at h
      unfold least at h
      omega
theorem and16 (s : Nat) (h : s < 18446744073709551616) : bits .and .u64 (s : Int) 65535 = ((s % 65536 : Nat) : Int) := by
  have := u64_and_nat s 65535 h (by omega)
  rw [show ((65535 : Nat) : Int) = 65535 from rfl] at this
  rw [this, show (65535 : Nat) = 2 ^ 16 - 1 from rfl, Nat.and_two_pow_sub_one_eq_mod]
theorem or16 (u d : Nat) (hu : u < 281474976710656) (hd : d < 65536) : bits .or .u64 ((u * 65536 : Nat) : Int) (d : Int) = ((u * 65536 + d : Nat) : Int) := by
  rw [u64_or_nat _ _ (by omega) (by omega), nat_join 16 (u * 65536) d (by omega) (by omega)]
end Go.Proofs.Ytpiglmkpmlogjaa
