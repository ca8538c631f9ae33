/-
  OUR OWN TEXT. What it is for rules to be checked: the plain mathematics, nothing of the walk.
-/
import Derived.Test.YtjjjagepnnbebaaGreatDoorTym
import Derived.Test.YtjjjagepnnbebaaGreatDoorKae
namespace Go.Proofs.YtjjjagepnnbebaaGreatDoor

def isE (s : ByteArray) : Bool := s.toList.isEmpty
def zeroV (v : V) : Bool := v.kind == 0 && (v.num == 0 && isE v.sym)
def operandOk (t : Tm) : Bool := (isE t.var && gVal t.val) || (gSym t.var.data.toList && zeroV t.val)
def gTm (t : Tm) : Bool :=
  if t.kind == 0 then t.op == 0 && (isE t.var && zeroV t.val)
  else if t.kind == 1 then t.op == 0 && (isE t.var && gVal t.val)
  else if t.kind == 2 then t.op == 0 && (gSym t.var.data.toList && zeroV t.val)
  else if t.kind == 3 then decide (1 ≤ t.op) && (decide (t.op ≤ 6) && operandOk t)
  else false
def notB : ByteArray := ⟨#[110, 111, 116]⟩
def gCls (s : ByteArray) : Bool := gSym s.data.toList && !(decide (s = notB))
def gPt (p : Pt) : Bool := gCls p.cls && (decide (p.terms.length ≤ 6) && p.terms.all gTm)

/-- The first that is bad, counted from k. -/
def firstBad {α : Type} (f : α → Bool) : List α → Nat → Option Nat
  | [], _ => none
  | x :: r, k => if f x then firstBad f r (k + 1) else some k

/-- What an expr covers: the first of its exprs, and how deep it is. -/
abbrev Sp := Nat × Nat
def isAr (op : Int) : Bool := op == 43 || (op == 45 || (op == 42 || (op == 47 || op == 37)))
def leafOk (e : Ex) : Bool := e.op == 0 && (e.a == 0 && e.b == 0)
def spanAB (S : List Sp) (a b : Int) : Option Sp :=
  match S[b.toNat]?, S[a.toNat]? with
  | some sb, some sa => if decide (a = (sb.1 : Int) - 1) && decide (1 + max sa.2 sb.2 ≤ 20) then some (sa.1, 1 + max sa.2 sb.2) else none
  | _, _ => none
def opOk (S : List Sp) (e : Ex) : Bool := isAr e.op && (isE e.var && (zeroV e.val && (decide (e.b = (S.length : Int) - 1) && (decide (0 ≤ e.b) && decide (0 ≤ e.a)))))
def spanOf (S : List Sp) (e : Ex) : Option Sp :=
  if e.kind == 0 then (if leafOk e && (isE e.var && gVal e.val) then some (S.length, 0) else none)
  else if e.kind == 1 then (if leafOk e && (gSym e.var.data.toList && zeroV e.val) then some (S.length, 0) else none)
  else if e.kind == 2 then (if opOk S e then spanAB S e.a e.b else none)
  else none
def spansGo : List Sp → List Ex → List Sp
  | S, [] => S
  | S, e :: r => match spanOf S e with
    | none => S
    | some s => spansGo (S ++ [s]) r

def argsGo (S : List Sp) : List Int → Nat → Option Nat
  | [], nx => some nx
  | x :: r, nx => if decide (0 ≤ x) && (decide (x < (S.length : Int)) && decide ((S[x.toNat]?.getD (0, 0)).1 = nx)) then argsGo S r (x.toNat + 1) else none
def kOk (k : Int) : Bool := decide (-1000000 ≤ k) && decide (k ≤ 1000000)
def fieldsOk (a : Ac) : Bool :=
  if a.kind == 1 then gCls a.cls && a.k == 0
  else if a.kind == 2 then (isE a.cls && kOk a.k) && a.args.isEmpty
  else if a.kind == 3 then isE a.cls && kOk a.k
  else if a.kind == 4 then isE a.cls && (a.k == 0 && a.args.isEmpty)
  else false
def gAc (S : List Sp) (a : Ac) (nx : Nat) : Option Nat := if fieldsOk a && decide (a.args.length ≤ 6) then argsGo S a.args nx else none
def actsGo (S : List Sp) : List Ac → Nat → Nat → Option Nat
  | [], nx, k => if nx = S.length then none else some k
  | a :: r, nx, k => match gAc S a nx with
    | none => some k
    | some nx' => actsGo S r nx' (k + 1)
def headOk (r : Ru) : Bool := gSym r.name.data.toList && (decide (r.pats.length ≤ 6) && (decide (r.acts.length ≤ 8) && decide (r.exprs.length ≤ 60)))
/-- The item of the first fault of shape. -/
def shape (r : Ru) : Option Nat :=
  if headOk r then
    match firstBad gPt r.pats 1 with
    | some i => some i
    | none => if (spansGo [] r.exprs).length < r.exprs.length then some ((spansGo [] r.exprs).length + 1) else actsGo (spansGo [] r.exprs) r.acts 0 1
  else some 0

def pos1 (p : Pt) : Bool := !p.neg
def positives (ps : List Pt) : Nat := ps.countP pos1

def memB (s : ByteArray) (l : List ByteArray) : Bool := l.any fun x => decide (x = s)
def asks (t : Tm) : Bool := t.kind == 3 && !isE t.var
def termsGo : List Tm → List ByteArray → Option (List ByteArray)
  | [], here => some here
  | t :: r, here => if asks t && !memB t.var here then none else termsGo r (if t.kind == 2 then here ++ [t.var] else here)
/-- Either the item of the first pattern with an unknown variable, or what is known behind all. -/
def patsGo : List Pt → List ByteArray → Nat → Nat ⊕ List ByteArray
  | [], known, _ => .inr known
  | p :: r, known, k => match termsGo p.terms known with
    | none => .inl k
    | some here => patsGo r (if p.neg then known else here) (k + 1)
def knownE (known : List ByteArray) (e : Ex) : Bool := !(e.kind == 1) || memB e.var known
def upTo (a : Ac) : Nat := match a.args.getLast? with | none => 0 | some l => l.toNat + 1
def actVar (es : List Ex) (known : List ByteArray) (a : Ac) : Bool := a.args.isEmpty || (es.take (upTo a)).all (knownE known)
/-- The item of the first variable that is not known. -/
def scope (r : Ru) : Option Nat :=
  match patsGo r.pats [] 1 with
  | .inl i => some i
  | .inr known => firstBad (actVar r.exprs known) r.acts (r.pats.length + 1)
def refOk (most : Nat) (a : Ac) : Bool := !((a.kind == 2 || a.kind == 3) && !(decide (1 ≤ a.k) && decide (a.k ≤ (most : Int))))
def refs (r : Ru) : Option Nat := firstBad (refOk (positives r.pats)) r.acts (r.pats.length + 1)

/-- What is wrong with one rule behind others: a code and an item. -/
def chk1 (pre : List Ru) (r : Ru) : Int × Int :=
  match shape r with
  | some i => (1, i)
  | none => if pre.any (fun o => decide (o.name = r.name)) then (2, 0)
    else if 1 ≤ positives r.pats ∧ positives r.pats ≤ 3 then
      match scope r with
      | some i => (4, i)
      | none => match refs r with
        | some i => (5, i)
        | none => (0, 0)
    else (3, 0)
def chkGo : List Ru → List Ru → Nat → Int × Int × Int
  | _, [], _ => (0, 0, 0)
  | pre, r :: s, k => if (chk1 pre r).1 = 0 then chkGo (pre ++ [r]) s (k + 1) else ((chk1 pre r).1, k, (chk1 pre r).2)
def chk (rs : List Ru) : Int × Int × Int := if rs.length ≤ 16 then chkGo [] rs 0 else (1, 0, 0)

/-- The spans of the first exprs, each right. -/
def Spans (es : List Ex) (S : List Sp) : Prop := S.length ≤ es.length ∧ ∀ (i : Nat) (s : Sp) (e : Ex), S[i]? = some s → es[i]? = some e → spanOf (S.take i) e = some s

theorem Spans.nil (es : List Ex) : Spans es [] := ⟨Nat.zero_le _, fun i s e h => by simp at h⟩
theorem Spans.snoc {es : List Ex} {S : List Sp} {e : Ex} {s : Sp} (h : Spans es S) (he : es[S.length]? = some e) (hs : spanOf S e = some s) : Spans es (S ++ [s]) := by
  refine ⟨by have := (List.getElem?_eq_some_iff.1 he).1; simp; omega, fun i s' e' hi hi' => ?_⟩
  by_cases hlt : i < S.length
  · rw [List.getElem?_append_left hlt] at hi
    rw [List.take_append_of_le_length (by omega)]
    exact h.2 i s' e' hi hi'
  · have hil : i < (S ++ [s]).length := (List.getElem?_eq_some_iff.1 hi).1
    simp at hil
    obtain rfl : i = S.length := by omega
    simp at hi
    subst hi
    rw [he] at hi'
    injection hi' with hi'
    subst hi'
    rw [List.take_append_of_le_length (Nat.le_refl _), List.take_length]
    exact hs

theorem spansGo_spans {es : List Ex} : ∀ {l : List Ex} {S : List Sp}, Spans es S → es.drop S.length = l → Spans es (spansGo S l) ∧ S.length ≤ (spansGo S l).length
  | [], S, h, _ => ⟨h, Nat.le_refl _⟩
  | e :: r, S, h, hd => by
    have he : es[S.length]? = some e := by
      have := List.getElem?_drop (xs := es) (i := S.length) (j := 0)
      rw [hd] at this
      simpa using this.symm
    unfold spansGo
    split
    · exact ⟨h, Nat.le_refl _⟩
    · rename_i s hs
      have hd' : es.drop (S ++ [s]).length = r := by
        rw [List.length_append, ← List.drop_drop, hd]
        rfl
      have := spansGo_spans (h.snoc he hs) hd'
      exact ⟨this.1, by have := this.2; simp at this; omega⟩

/-- What the parts of an operation are. -/
theorem Spans.op {es : List Ex} {S : List Sp} (h : Spans es S) {i : Nat} {s : Sp} {e : Ex} (hi : S[i]? = some s) (he : es[i]? = some e) (hk : e.kind = 2) :
    ∃ (a b : Nat) (sa sb : Sp), e.a = (a : Int) ∧ e.b = (b : Int) ∧ b + 1 = i ∧ a < b + 1 ∧ S[a]? = some sa ∧ S[b]? = some sb ∧ s = (sa.1, 1 + max sa.2 sb.2) := by
  have := h.2 i s e hi he
  unfold spanOf at this
  simp only [hk] at this
  rw [if_neg (by decide), if_neg (by decide), if_pos (by decide)] at this
  split at this
  · rename_i ho
    simp only [opOk, Bool.and_eq_true, decide_eq_true_eq] at ho
    obtain ⟨_, _, _, hb, hb0, ha0⟩ := ho
    have hi' : i < S.length := (List.getElem?_eq_some_iff.1 hi).1
    have hlen : (S.take i).length = i := by simp; omega
    rw [hlen] at hb
    obtain ⟨b, hb'⟩ := Int.eq_ofNat_of_zero_le hb0
    obtain ⟨a, ha'⟩ := Int.eq_ofNat_of_zero_le ha0
    unfold spanAB at this
    rw [hb', ha'] at this
    simp only [Int.toNat_natCast] at this
    split at this
    · rename_i sb sa e1 e2
      rw [List.getElem?_take] at e1 e2
      split at e1
      · split at e2
        · split at this
          · injection this with this
            exact ⟨a, b, sa, sb, ha', hb', by omega, by omega, e2, e1, this.symm⟩
          · cases this
        · cases e2
      · cases e1
    · cases this
  · cases this

theorem Spans.leaf {es : List Ex} {S : List Sp} (h : Spans es S) {i : Nat} {s : Sp} {e : Ex} (hi : S[i]? = some s) (he : es[i]? = some e) (hk : e.kind ≠ 2) : s = (i, 0) := by
  have := h.2 i s e hi he
  have hi' : i < S.length := (List.getElem?_eq_some_iff.1 hi).1
  have hlen : (S.take i).length = i := by simp; omega
  unfold spanOf at this
  have hk2 : (e.kind == 2) = false := by simpa using hk
  rw [hk2, hlen] at this
  split at this
  · split at this
    · injection this with this
      exact this.symm
    · cases this
  · split at this
    · split at this
      · injection this with this
        exact this.symm
      · cases this
    · simp at this

theorem Spans.depth_le {es : List Ex} {S : List Sp} (h : Spans es S) (i : Nat) (s : Sp) (hi : S[i]? = some s) : s.2 ≤ 20 := by
  have hi' : i < S.length := (List.getElem?_eq_some_iff.1 hi).1
  have hes := h.1
  obtain ⟨e, he⟩ : ∃ e, es[i]? = some e := ⟨es[i]'(by omega), by simp⟩
  by_cases hk : e.kind = 2
  · have := h.2 i s e hi he
    unfold spanOf at this
    simp only [hk] at this
    rw [if_neg (by decide), if_neg (by decide), if_pos (by decide)] at this
    split at this
    · unfold spanAB at this
      split at this
      · split at this
        · rename_i hc
          injection this with this
          simp only [Bool.and_eq_true, decide_eq_true_eq] at hc
          rw [← this]
          exact hc.2
        · cases this
      · cases this
    · cases this
  · rw [h.leaf hi he hk]
    exact Nat.zero_le _

/-- An expr covers exprs up to itself. -/
theorem Spans.first_le {es : List Ex} {S : List Sp} (h : Spans es S) : ∀ (i : Nat) (s : Sp), S[i]? = some s → s.1 ≤ i := by
  intro i
  induction i using Nat.strongRecOn with
  | _ i ih =>
    intro s hi
    have hi' : i < S.length := (List.getElem?_eq_some_iff.1 hi).1
    have hes := h.1
    obtain ⟨e, he⟩ : ∃ e, es[i]? = some e := ⟨es[i]'(by omega), by simp⟩
    by_cases hk : e.kind = 2
    · obtain ⟨a, b, sa, sb, _, _, h1, h2, h3, h4, rfl⟩ := h.op hi he hk
      have := ih a (by omega) sa h3
      simp
      omega
    · rw [h.leaf hi he hk]
      exact Nat.le_refl _
end Go.Proofs.YtjjjagepnnbebaaGreatDoor
