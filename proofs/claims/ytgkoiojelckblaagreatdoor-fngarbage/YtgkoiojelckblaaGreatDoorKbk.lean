/-
  OUR OWN TEXT. Px3, Sx25, Pr3, one behind the other.
-/
import Derived.Test.YtgkoiojelckblaaGreatDoorKbi
import Derived.Test.YtgkoiojelckblaaGreatDoorKbh
import Derived.Test.YtgkoiojelckblaaGreatDoorKbg
namespace Go.Proofs.YtgkoiojelckblaaGreatDoor

/-- Words as a text has them. -/
def GoodL (l : List Wd) : Prop := WsOk l ∧ ∀ x ∈ l, WdOk x
def FineR {α : Type} (r : Px α) : Prop := match r with
  | .error f => f.1 ≠ 0
  | .ok (_, l) => GoodL l
/-- Faults bear a code, and what is left is right. -/
def Fine {α : Type} (p : List Wd → Px α) : Prop := ∀ l, GoodL l → FineR (p l)
theorem Fine.next : Fine nextW := fun l h => by
  cases l with
  | nil => exact absurd rfl h.1.ne
  | cons x r =>
    cases hr : nextW (x :: r) with
    | error f =>
      unfold nextW badW at hr
      by_cases h7 : x.kind = 7
      · simp [h7] at hr
        rw [← hr]
        show (1 : Int) ≠ 0
        decide
      · by_cases h8 : x.kind = 8
        · simp [h8] at hr
          rw [← hr]
          show (2 : Int) ≠ 0
          decide
        · simp [h7, h8] at hr
    | ok q =>
      obtain ⟨y, r'⟩ := q
      obtain ⟨rfl, rfl⟩ := nextW_head hr
      show GoodL _
      split
      · exact h
      · exact ⟨h.1.tail (by assumption), fun z hz => h.2 z (List.mem_cons_of_mem _ hz)⟩
theorem Fine.take (k : Int) : Fine (takeW k) := fun l h => by
  have := Fine.next l h
  unfold takeW
  cases hr : nextW l with
  | error f => rw [hr] at this; exact this
  | ok q =>
    obtain ⟨x, r⟩ := q
    rw [hr] at this
    simp only
    split
    · exact this
    · show (3 : Int) ≠ 0
      decide
theorem Fine.and {α β : Type} {p : List Wd → Px α} {k : α → List Wd → Px β} (hp : Fine p) (hk : ∀ x, Fine (k x)) : Fine (fun l => andP (p l) k) := fun l h => by
  have := hp l h
  show FineR (andP (p l) k)
  cases hr : p l with
  | error f => rw [hr] at this; exact this
  | ok q =>
    obtain ⟨x, r⟩ := q
    rw [hr] at this
    exact hk x r this
theorem Fine.ret {α : Type} (x : α) : Fine (fun l => (.ok (x, l) : Px α)) := fun _ h => h
theorem Fine.cls : Fine pClass := fun l h => by
  have := Fine.take 97 l h
  unfold pClass
  cases hr : takeW 97 l with
  | error f => rw [hr] at this; exact this
  | ok q =>
    obtain ⟨x, r⟩ := q
    rw [hr] at this
    simp only
    split
    · show (3 : Int) ≠ 0
      decide
    · exact this
theorem Fine.list {α : Type} {rd : List Wd → Px α} (hrd : Fine rd) : ∀ n, Fine (pList rd n) := by
  intro n
  induction n with
  | zero =>
    intro l h
    have := Fine.next l h
    unfold pList
    cases hr : nextW l with
    | error f => rw [hr] at this; exact this
    | ok q =>
      obtain ⟨x, r⟩ := q
      rw [hr] at this
      simp only
      split
      · exact this
      · split
        · show (3 : Int) ≠ 0
          decide
        · show (4 : Int) ≠ 0
          decide
  | succ n ih =>
    intro l h
    have := Fine.next l h
    unfold pList
    cases hr : nextW l with
    | error f => rw [hr] at this; exact this
    | ok q =>
      obtain ⟨x, r⟩ := q
      rw [hr] at this
      simp only
      split
      · exact this
      · have h2 := hrd l h
        cases hv : rd l with
        | error f => rw [hv] at h2; exact h2
        | ok q =>
          obtain ⟨v, l1⟩ := q
          rw [hv] at h2
          have h3 := ih l1 h2
          simp only
          cases hp : pList rd n l1 with
          | error f => rw [hp] at h3; exact h3
          | ok q =>
            obtain ⟨vs, l2⟩ := q
            rw [hp] at h3
            exact h3
theorem words_good (src : Bs) : GoodL (wordsOf src) := by
  obtain ⟨h1, h2⟩ := wordsAt_ok src 0 (Nat.zero_le _)
  exact ⟨h2, fun x hx => (h1 x hx).1⟩
end Go.Proofs.YtgkoiojelckblaaGreatDoor

namespace Go.Proofs.YtgkoiojelckblaaGreatDoor
open Go.RowKit
attribute [local go_sem ↓] Go.wp_at_zero Go.wp_at_succ

def unitX {α : Type} (r : Px α) : Except Flt Unit := match r with
  | .error f => .error f
  | .ok _ => .ok ()
theorem FnMap.below {w w' : World} {pb mb : Nat} {f : Bs → Option Nat} (h : FnMap w pb mb f) (hb : Below w.heap.size w w') : FnMap w' pb mb f := h.block (hb.block mb h.lt)
end Go.Proofs.YtgkoiojelckblaaGreatDoor

namespace Go.Proofs.YtgkoiojelckblaaGreatDoor

theorem Fine.test : Fine pTest := (Fine.take 61).and fun o => Fine.next.and fun x => by
  intro l h
  show FineR (if _ then _ else _)
  split
  · exact ((Fine.take 41).and fun _ => Fine.ret _) l h
  · split
    · exact ((Fine.take 41).and fun _ => Fine.ret _) l h
    · show (3 : Int) ≠ 0
      decide
theorem Fine.term : Fine pTerm := Fine.next.and fun x => by
  intro l h
  show FineR (if _ then _ else _)
  split
  · exact h
  · split
    · exact h
    · split
      · exact h
      · split
        · exact Fine.test l h
        · show (3 : Int) ≠ 0
          decide
theorem Fine.pat : Fine pPat := (Fine.take 97).and fun x => by
  intro l h
  show FineR (if _ then _ else _)
  split
  · exact (Fine.cls.and fun c => (Fine.term.list 6).and fun _ => Fine.ret _) l h
  · exact ((Fine.term.list 6).and fun _ => Fine.ret _) l h
theorem Fine.bound (n m : Int) : Fine (boundW n m) := fun l h => by
  have := Fine.next l h
  unfold boundW
  cases hr : nextW l with
  | error f => rw [hr] at this; exact this
  | ok q =>
    obtain ⟨x, r⟩ := q
    simp only
    split
    · show (4 : Int) ≠ 0
      decide
    · exact h
theorem Fine.opE {f : Nat} (hf : ∀ s, Fine (pExpr f s)) (s : ES) : Fine (pOp f s) := (Fine.take 43).and fun _ => (hf s).and fun p => (hf p.2).and fun _ => (Fine.take 41).and fun _ => Fine.ret _
theorem Fine.expr : ∀ (f : Nat) (s : ES), Fine (pExpr f s) := by
  have key : ∀ (f : Nat), (∀ s, Fine (fun l => match f with | 0 => (.error (4, 0) : Px (Int × ES)) | g + 1 => pExpr g s l)) → ∀ s, Fine (pExpr f s) := by
    intro f hf s l h
    have h1 := Fine.bound (s.2 : Int) 60 l h
    have h2 := Fine.next l h
    cases hb : boundW (s.2 : Int) 60 l with
    | error e => rw [hb] at h1; rw [pExpr_bad hb]; exact h1
    | ok u =>
      cases hn : nextW l with
      | error e => rw [hn] at h2; rw [pExpr_next hb hn]; exact h2
      | ok q =>
        obtain ⟨x, l1⟩ := q
        rw [hn] at h2
        by_cases hk : pkW x = 48 ∨ pkW x = 97
        · rw [pExpr_const hb hn hk]; exact h2
        · by_cases h63 : pkW x = 63
          · rw [pExpr_var hb hn h63]; exact h2
          · by_cases h40 : pkW x = 40
            · cases f with
              | zero =>
                rw [pExpr_deep hb hn h40]
                show (4 : Int) ≠ 0
                decide
              | succ f =>
                rw [pExpr_op hb hn h40]
                exact ((Fine.opE hf _).and fun _ => Fine.ret _) l1 h2
            · rw [pExpr_else hb hn hk h63 h40]
              show (3 : Int) ≠ 0
              decide
  intro f
  induction f with
  | zero => exact key 0 (fun _ _ _ => show (4 : Int) ≠ 0 by decide)
  | succ f ih => exact key (f + 1) ih
theorem Fine.listE {σ α : Type} {rd : σ → List Wd → Px (α × σ)} (hrd : ∀ s, Fine (rd s)) : ∀ n s, Fine (pListE rd n s) := by
  intro n
  induction n with
  | zero =>
    intro s l h
    have := Fine.next l h
    unfold pListE
    cases hr : nextW l with
    | error f => rw [hr] at this; exact this
    | ok q =>
      obtain ⟨x, r⟩ := q
      rw [hr] at this
      simp only
      split
      · exact this
      · split
        · show (3 : Int) ≠ 0
          decide
        · show (4 : Int) ≠ 0
          decide
  | succ n ih =>
    intro s l h
    have := Fine.next l h
    unfold pListE
    cases hr : nextW l with
    | error f => rw [hr] at this; exact this
    | ok q =>
      obtain ⟨x, r⟩ := q
      rw [hr] at this
      simp only
      split
      · exact this
      · have h2 := hrd s l h
        cases hv : rd s l with
        | error f => rw [hv] at h2; exact h2
        | ok q =>
          obtain ⟨⟨v, s1⟩, l1⟩ := q
          rw [hv] at h2
          have h3 := ih s1 l1 h2
          simp only
          cases hp : pListE rd n s1 l1 with
          | error f => rw [hp] at h3; exact h3
          | ok q =>
            obtain ⟨vs, l2⟩ := q
            rw [hp] at h3
            exact h3
theorem Fine.many {α : Type} {rd : List Wd → Px α} (k : Int) (hrd : Fine rd) : ∀ n, Fine (pMany k rd n) := by
  intro n
  induction n with
  | zero =>
    intro l h
    have := Fine.next l h
    unfold pMany
    cases hr : nextW l with
    | error f => rw [hr] at this; exact this
    | ok q =>
      obtain ⟨x, r⟩ := q
      simp only
      split
      · exact h
      · split
        · show (4 : Int) ≠ 0
          decide
        · show (3 : Int) ≠ 0
          decide
  | succ n ih =>
    intro l h
    have := Fine.next l h
    unfold pMany
    cases hr : nextW l with
    | error f => rw [hr] at this; exact this
    | ok q =>
      obtain ⟨x, r⟩ := q
      simp only
      split
      · exact h
      · have ht := Fine.take 40 l h
        cases hk : takeW 40 l with
        | error f => rw [hk] at ht; exact ht
        | ok q =>
          obtain ⟨y, l1⟩ := q
          rw [hk] at ht
          have hc := hrd l1 ht
          simp only
          cases hp : rd l1 with
          | error f => rw [hp] at hc; exact hc
          | ok q =>
            obtain ⟨v, l2⟩ := q
            rw [hp] at hc
            have hi := ih l2 hc
            simp only
            cases hq : pMany k rd n l2 with
            | error f => rw [hq] at hi; exact hi
            | ok q =>
              obtain ⟨vs, l3⟩ := q
              rw [hq] at hi
              exact hi
theorem Fine.manyS {σ α : Type} {rd : σ → List Wd → Px (α × σ)} (k : Int) (hrd : ∀ s, Fine (rd s)) : ∀ n s, Fine (pManyS k rd n s) := by
  intro n
  induction n with
  | zero =>
    intro s l h
    have := Fine.next l h
    unfold pManyS
    cases hr : nextW l with
    | error f => rw [hr] at this; exact this
    | ok q =>
      obtain ⟨x, r⟩ := q
      simp only
      split
      · exact h
      · split
        · show (4 : Int) ≠ 0
          decide
        · show (3 : Int) ≠ 0
          decide
  | succ n ih =>
    intro s l h
    have := Fine.next l h
    unfold pManyS
    cases hr : nextW l with
    | error f => rw [hr] at this; exact this
    | ok q =>
      obtain ⟨x, r⟩ := q
      simp only
      split
      · exact h
      · have ht := Fine.take 40 l h
        cases hk : takeW 40 l with
        | error f => rw [hk] at ht; exact ht
        | ok q =>
          obtain ⟨y, l1⟩ := q
          rw [hk] at ht
          have hc := hrd s l1 ht
          simp only
          cases hp : rd s l1 with
          | error f => rw [hp] at hc; exact hc
          | ok q =>
            obtain ⟨⟨v, s1⟩, l2⟩ := q
            rw [hp] at hc
            have hi := ih s1 l2 hc
            simp only
            cases hq : pManyS k rd n s1 l2 with
            | error f => rw [hq] at hi; exact hi
            | ok q =>
              obtain ⟨vs, l3⟩ := q
              rw [hq] at hi
              exact hi
theorem Fine.ref : Fine pRef := (Fine.take 48).and fun _ => Fine.ret _
theorem Fine.act (s : ES) : Fine (pAct s) := (Fine.take 97).and fun x => by
  intro l h
  show FineR (if _ then _ else _)
  split
  · exact ((Fine.take 41).and fun _ => Fine.ret _) l h
  · split
    · exact (Fine.ref.and fun _ => (Fine.listE (Fine.expr 20) 6 s).and fun _ => Fine.ret _) l h
    · split
      · exact (Fine.ref.and fun _ => (Fine.take 41).and fun _ => Fine.ret _) l h
      · split
        · exact (Fine.cls.and fun _ => (Fine.listE (Fine.expr 20) 6 s).and fun _ => Fine.ret _) l h
        · show (3 : Int) ≠ 0
          decide
theorem Fine.rule : Fine pRule := (Fine.take 97).and fun x => by
  intro l h
  show FineR (if _ then _ else _)
  split
  · exact ((Fine.take 97).and fun _ => (Fine.take 48).and fun _ => (Fine.many 62 Fine.pat 6).and fun _ => (Fine.take 62).and fun _ => (Fine.manyS 41 Fine.act 8 _).and fun _ => (Fine.take 41).and fun _ => Fine.ret _) l h
  · show (3 : Int) ≠ 0
    decide
theorem Fine.rules : Fine pRules := Fine.many 0 Fine.rule 16
/-- What the rules' reading tells. -/
def prR (src : Bs) : Px (List Ru) := if 20000 < src.length then .error (4, 0) else pRules (wordsOf src)
theorem pr_code {src : Bs} {f : Flt} (h : prR src = .error f) : f.1 ≠ 0 := by
  unfold prR at h
  split at h
  · injection h with h
    rw [← h]
    show (4 : Int) ≠ 0
    decide
  · have := Fine.rules _ (words_good src)
    rw [h] at this
    exact this
end Go.Proofs.YtgkoiojelckblaaGreatDoor
