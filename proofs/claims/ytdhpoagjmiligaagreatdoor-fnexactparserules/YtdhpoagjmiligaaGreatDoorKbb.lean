/-
  OUR OWN TEXT. Mq7, Mq8, Px3, Pr3, Mr1, Sx23, Sx24, Sx25, one behind the other.
-/
import Derived.Test.YtdhpoagjmiligaaGreatDoorKaz
import Derived.Deep.CutBlock
import Derived.Deep.DeepCutAuto
import Derived.Test.YtdhpoagjmiligaaGreatDoorKaw
import Derived.Test.YtdhpoagjmiligaaGreatDoorKay
import Derived.Test.YtdhpoagjmiligaaGreatDoorKax
import Derived.Recover
import Derived.Defers
namespace Go.Proofs.YtdhpoagjmiligaaGreatDoor
open Go.RowKit
attribute [local go_sem ↓] Go.wp_at_zero Go.wp_at_succ

theorem MB.blocks {w w' : World} {pb g : Nat} {W : List Wd} {c : Nat} {s : Ps} {R : List Value} (h : MB w pb g W c s R) (h1 : w'.heap[pb]? = w.heap[pb]?) (h2 : w'.heap[g]? = w.heap[g]?) : MB w' pb g W c s R := by
  obtain ⟨k, cd, pos, hq, hk, hs⟩ := h.st
  exact ⟨⟨k, cd, pos, h1.trans hq, hk, hs⟩, h.wds.block h2, h.far, h.ok, h.ends, h.caps, h.len⟩
theorem World.drew_size' (w : World) : w.drew.heap.size = w.heap.size := rfl
end Go.Proofs.YtdhpoagjmiligaaGreatDoor

namespace Go.Proofs.YtdhpoagjmiligaaGreatDoor
open Go.RowKit
attribute [local go_sem ↓] Go.wp_at_zero Go.wp_at_succ

theorem look_twice (s : Ps) : lookK (lookS s) = lookK s ∧ lookS (lookS s) = lookS s := by
  cases s with
  | error f => exact ⟨rfl, rfl⟩
  | ok l =>
    cases hr : nextW l with
    | error f => rw [(look_err hr).2, (look_err hr).1]; exact ⟨rfl, rfl⟩
    | ok q =>
      obtain ⟨x, r⟩ := q
      rw [(look_ok hr).2]
      exact ⟨rfl, (look_ok hr).2⟩
theorem lift_set3 {P : World → Prop} {w : World} {b : Nat} {t : TypeId} {cs : Array Value} {v0 v1 v2 : Value} (hq : w.heap[b]? = some (.cells cs t (0, 0))) (hs : cs.size = 3) (h : ∀ wt, wt.heap[b]? = some (.cells [v0, v1, v2].toArray t (0, 0)) → Turned w wt b → P wt) : P ((((w.setCell ⟨b, 0, none⟩ v0).setCell ⟨b, 1, none⟩ v1).setCell ⟨b, 2, none⟩ v2).drew) := by
  have h1 := heap_setCells_splice hq (o := 0) [v0, v1, v2] (by simp; omega)
  have hd : cs.toList.drop (0 + [v0, v1, v2].length) = [] := List.drop_eq_nil_of_le (by simp; omega)
  rw [hd] at h1
  have ht := Turned.setCells [v0, v1, v2] 0 w b
  exact h _ (h1.trans (by simp)) ⟨ht.os, ht.tape, ht.output, ht.size, ht.block⟩
def csL (code : Int) (pos : Nat) (v : Value) : List Value := [.int .i64 code, .int .i64 (pos : Int), v]
theorem csL_one (code : Int) (pos : Nat) (a : Option Addr) (n c : Nat) : ∀ v ∈ csL code pos (.slice a n c), v.oneCell' = true := by
  intro v hv
  simp [csL] at hv
  rcases hv with rfl | rfl | rfl <;> rfl
/-- The words of a new parser. -/
theorem WdsAt.owns {w : World} {base c : Nat} {a : Option Addr} {W : List Wd} (h : w.ownsRow base 72 4 (.slice a W.length c) W.length (wdsV W)) (hW : W ≠ []) : ∃ g, a = some ⟨g, 0, none⟩ ∧ base ≤ g ∧ g < w.heap.size ∧ WdsAt w g W ∧ W.length ≤ c := by
  obtain ⟨_, ⟨h1, h2⟩ | ⟨g, cap, cur, h1, h2, h3, h4, h5, h6, h7⟩⟩ := h
  · exact absurd (List.eq_nil_of_length_eq_zero h2) hW
  · injection h1 with e1 e2 e3
    subst e3
    refine ⟨g, e1, h2, lt_of_block' h3, fun j x hx i v hv => ?_, h4⟩
    have hj : j < W.length := (List.getElem?_eq_some_iff.1 hx).1
    have hi : i < 4 := by
      have := (List.getElem?_eq_some_iff.1 hv).1
      simpa [wdV] using this
    have hg : (wdsV W)[j * 4 + i]? = some v := by
      have : ∀ (L : List Wd) (j : Nat), L[j]? = some x → (wdsV L)[j * 4 + i]? = some v := by
        intro L
        induction L with
        | nil => intro j hj; simp at hj
        | cons y L ih =>
          intro j hj
          cases j with
          | zero =>
            simp at hj
            subst hj
            simp only [wdsV, List.flatMap_cons, Nat.zero_mul, Nat.zero_add]
            rw [List.getElem?_append_left (by simpa [wdV] using hi)]
            exact hv
          | succ j =>
            simp at hj
            have := ih j hj
            simp only [wdsV, List.flatMap_cons]
            rw [List.getElem?_append_right (by simp [wdV]; omega)]
            rw [show (j + 1) * 4 + i - (wdV y).length = j * 4 + i by simp [wdV]; omega]
            exact this
      exact this W j hx
    rw [← h7, List.getElem?_take] at hg
    split at hg
    · simp [World.cell?, h3]
      simpa using hg
    · cases hg
theorem wordsGo_len : ∀ (n : Nat) (l : Bs) (k : Nat), l.length < n → (wordsGo n l k).length ≤ l.length + 1 := by
  intro n
  induction n with
  | zero => intro l k h; omega
  | succ n ih =>
    intro l k hn
    cases l with
    | nil => simp [wordsGo]
    | cons b r =>
      have hr : r.length < n := by simp at hn; omega
      have i1 := ih r (k + 1) hr
      unfold wordsGo
      by_cases h1 : blankB b = true
      · rw [if_pos h1]
        simp only [List.length_cons]
        omega
      rw [if_neg h1]
      by_cases h2 : b = 59
      · rw [if_pos h2]
        have hp : 1 ≤ runOf lineP (b :: r) := run_pos (by rw [h2]; exact line59)
        have hd : ((b :: r).drop (runOf lineP (b :: r))).length < n := by rw [List.length_drop]; simp only [List.length_cons] at *; omega
        have := ih _ (k + runOf lineP (b :: r)) hd
        rw [List.length_drop] at this
        simp only [List.length_cons] at *
        omega
      rw [if_neg h2]
      by_cases h3 : b = 40
      · rw [if_pos h3]
        simp only [List.length_cons]
        omega
      rw [if_neg h3]
      by_cases h4 : b = 41
      · rw [if_pos h4]
        simp only [List.length_cons]
        omega
      rw [if_neg h4]
      by_cases h5 : b.toNat < 33 ∨ 126 < b.toNat
      · rw [if_pos h5]
        simp only [List.length_cons]
        omega
      rw [if_neg h5]
      have hp : 1 ≤ runOf wordB (b :: r) := run_pos (wordB_of h2 h3 h4 h5)
      have hd : ((b :: r).drop (runOf wordB (b :: r))).length < n := by rw [List.length_drop]; simp only [List.length_cons] at *; omega
      have := ih _ (k + runOf wordB (b :: r)) hd
      rw [List.length_drop] at this
      simp only [List.length_cons] at *
      omega
theorem wordsOf_len (src : Bs) : (wordsOf src).length ≤ src.length + 1 := by
  unfold wordsOf wordsAt
  have := wordsGo_len (src.length + 1 - 0) (src.drop 0) 0 (by simp)
  simpa using this
theorem CO.base {w : World} {B B' : Nat} {a : Option Addr} {c : Nat} {M : List CdX} (h : CO w B a c M) (hb : B' ≤ B) : CO w B' a c M := ⟨owns_base h.row hb, fun x hx => by
  obtain ⟨la, lc, h1, h2⟩ := h.all x hx
  exact ⟨la, lc, h1, owns_base h2 hb⟩, h.pair⟩
theorem lookS_code {s : Ps} {l : List Wd} (h : lookS s = .ok l) : codeS (lookS s) = 0 := by rw [h]; rfl
end Go.Proofs.YtdhpoagjmiligaaGreatDoor

namespace Go.Proofs.YtdhpoagjmiligaaGreatDoor

/-- Words as a text has them. -/
def GoodL (l : List Wd) : Prop := WsOk l ∧ ∀ x ∈ l, WdOk x
def FineR {α : Type} (r : Px α) : Prop := match r with
  | .error f => f.1 ≠ 0
  | .ok (_, l) => GoodL l
/-- Faults bear a code, and what is left is right. -/
def Fine {α : Type} (p : List Wd → Px α) : Prop := ∀ l, GoodL l → FineR (p l)
theorem Fine.next : Fine nextW := fun l h => by
  cases l with
  | nil => exact absurd rfl h.1.ne
  | cons x r =>
    cases hr : nextW (x :: r) with
    | error f =>
      unfold nextW badW at hr
      by_cases h7 : x.kind = 7
      · simp [h7] at hr
        rw [← hr]
        show (1 : Int) ≠ 0
        decide
      · by_cases h8 : x.kind = 8
        · simp [h8] at hr
          rw [← hr]
          show (2 : Int) ≠ 0
          decide
        · simp [h7, h8] at hr
    | ok q =>
      obtain ⟨y, r'⟩ := q
      obtain ⟨rfl, rfl⟩ := nextW_head hr
      show GoodL _
      split
      · exact h
      · exact ⟨h.1.tail (by assumption), fun z hz => h.2 z (List.mem_cons_of_mem _ hz)⟩
theorem Fine.take (k : Int) : Fine (takeW k) := fun l h => by
  have := Fine.next l h
  unfold takeW
  cases hr : nextW l with
  | error f => rw [hr] at this; exact this
  | ok q =>
    obtain ⟨x, r⟩ := q
    rw [hr] at this
    simp only
    split
    · exact this
    · show (3 : Int) ≠ 0
      decide
theorem Fine.and {α β : Type} {p : List Wd → Px α} {k : α → List Wd → Px β} (hp : Fine p) (hk : ∀ x, Fine (k x)) : Fine (fun l => andP (p l) k) := fun l h => by
  have := hp l h
  show FineR (andP (p l) k)
  cases hr : p l with
  | error f => rw [hr] at this; exact this
  | ok q =>
    obtain ⟨x, r⟩ := q
    rw [hr] at this
    exact hk x r this
theorem Fine.ret {α : Type} (x : α) : Fine (fun l => (.ok (x, l) : Px α)) := fun _ h => h
theorem Fine.bad {α : Type} (c : Int) (p : Nat) (hc : c ≠ 0) : Fine (fun _ => (.error (c, p) : Px α)) := fun _ _ => hc
theorem Fine.cls : Fine pClass := fun l h => by
  have := Fine.take 97 l h
  unfold pClass
  cases hr : takeW 97 l with
  | error f => rw [hr] at this; exact this
  | ok q =>
    obtain ⟨x, r⟩ := q
    rw [hr] at this
    simp only
    split
    · show (3 : Int) ≠ 0
      decide
    · exact this
theorem Fine.val : Fine pVal := fun l h => by
  have := Fine.next l h
  unfold pVal
  cases hr : nextW l with
  | error f => rw [hr] at this; exact this
  | ok q =>
    obtain ⟨x, r⟩ := q
    rw [hr] at this
    simp only
    split
    · exact this
    · show (3 : Int) ≠ 0
      decide
theorem Fine.list {α : Type} {rd : List Wd → Px α} (hrd : Fine rd) : ∀ n, Fine (pList rd n) := by
  intro n
  induction n with
  | zero =>
    intro l h
    have := Fine.next l h
    unfold pList
    cases hr : nextW l with
    | error f => rw [hr] at this; exact this
    | ok q =>
      obtain ⟨x, r⟩ := q
      rw [hr] at this
      simp only
      split
      · exact this
      · split
        · show (3 : Int) ≠ 0
          decide
        · show (4 : Int) ≠ 0
          decide
  | succ n ih =>
    intro l h
    have := Fine.next l h
    unfold pList
    cases hr : nextW l with
    | error f => rw [hr] at this; exact this
    | ok q =>
      obtain ⟨x, r⟩ := q
      rw [hr] at this
      simp only
      split
      · exact this
      · have h2 := hrd l h
        cases hv : rd l with
        | error f => rw [hv] at h2; exact h2
        | ok q =>
          obtain ⟨v, l1⟩ := q
          rw [hv] at h2
          have h3 := ih l1 h2
          simp only
          cases hp : pList rd n l1 with
          | error f => rw [hp] at h3; exact h3
          | ok q =>
            obtain ⟨vs, l2⟩ := q
            rw [hp] at h3
            exact h3
theorem words_good (src : Bs) : GoodL (wordsOf src) := by
  obtain ⟨h1, h2⟩ := wordsAt_ok src 0 (Nat.zero_le _)
  exact ⟨h2, fun x hx => (h1 x hx).1⟩
end Go.Proofs.YtdhpoagjmiligaaGreatDoor

namespace Go.Proofs.YtdhpoagjmiligaaGreatDoor

theorem Fine.test : Fine pTest := (Fine.take 61).and fun o => Fine.next.and fun x => by
  intro l h
  show FineR (if _ then _ else _)
  split
  · exact ((Fine.take 41).and fun _ => Fine.ret _) l h
  · split
    · exact ((Fine.take 41).and fun _ => Fine.ret _) l h
    · show (3 : Int) ≠ 0
      decide
theorem Fine.term : Fine pTerm := Fine.next.and fun x => by
  intro l h
  show FineR (if _ then _ else _)
  split
  · exact h
  · split
    · exact h
    · split
      · exact h
      · split
        · exact Fine.test l h
        · show (3 : Int) ≠ 0
          decide
theorem Fine.pat : Fine pPat := (Fine.take 97).and fun x => by
  intro l h
  show FineR (if _ then _ else _)
  split
  · exact (Fine.cls.and fun c => (Fine.term.list 6).and fun _ => Fine.ret _) l h
  · exact ((Fine.term.list 6).and fun _ => Fine.ret _) l h
theorem Fine.bound (n m : Int) : Fine (boundW n m) := fun l h => by
  have := Fine.next l h
  unfold boundW
  cases hr : nextW l with
  | error f => rw [hr] at this; exact this
  | ok q =>
    obtain ⟨x, r⟩ := q
    simp only
    split
    · show (4 : Int) ≠ 0
      decide
    · exact h
theorem Fine.opE {f : Nat} (hf : ∀ s, Fine (pExpr f s)) (s : ES) : Fine (pOp f s) := (Fine.take 43).and fun _ => (hf s).and fun p => (hf p.2).and fun _ => (Fine.take 41).and fun _ => Fine.ret _
theorem Fine.expr : ∀ (f : Nat) (s : ES), Fine (pExpr f s) := by
  have key : ∀ (f : Nat), (∀ s, Fine (fun l => match f with | 0 => (.error (4, 0) : Px (Int × ES)) | g + 1 => pExpr g s l)) → ∀ s, Fine (pExpr f s) := by
    intro f hf s l h
    have h1 := Fine.bound (s.2 : Int) 60 l h
    have h2 := Fine.next l h
    cases hb : boundW (s.2 : Int) 60 l with
    | error e => rw [hb] at h1; rw [pExpr_bad hb]; exact h1
    | ok u =>
      cases hn : nextW l with
      | error e => rw [hn] at h2; rw [pExpr_next hb hn]; exact h2
      | ok q =>
        obtain ⟨x, l1⟩ := q
        rw [hn] at h2
        by_cases hk : pkW x = 48 ∨ pkW x = 97
        · rw [pExpr_const hb hn hk]; exact h2
        · by_cases h63 : pkW x = 63
          · rw [pExpr_var hb hn h63]; exact h2
          · by_cases h40 : pkW x = 40
            · cases f with
              | zero =>
                rw [pExpr_deep hb hn h40]
                show (4 : Int) ≠ 0
                decide
              | succ f =>
                rw [pExpr_op hb hn h40]
                exact ((Fine.opE hf _).and fun _ => Fine.ret _) l1 h2
            · rw [pExpr_else hb hn hk h63 h40]
              show (3 : Int) ≠ 0
              decide
  intro f
  induction f with
  | zero => exact key 0 (fun _ _ _ => show (4 : Int) ≠ 0 by decide)
  | succ f ih => exact key (f + 1) ih
theorem Fine.listE {σ α : Type} {rd : σ → List Wd → Px (α × σ)} (hrd : ∀ s, Fine (rd s)) : ∀ n s, Fine (pListE rd n s) := by
  intro n
  induction n with
  | zero =>
    intro s l h
    have := Fine.next l h
    unfold pListE
    cases hr : nextW l with
    | error f => rw [hr] at this; exact this
    | ok q =>
      obtain ⟨x, r⟩ := q
      rw [hr] at this
      simp only
      split
      · exact this
      · split
        · show (3 : Int) ≠ 0
          decide
        · show (4 : Int) ≠ 0
          decide
  | succ n ih =>
    intro s l h
    have := Fine.next l h
    unfold pListE
    cases hr : nextW l with
    | error f => rw [hr] at this; exact this
    | ok q =>
      obtain ⟨x, r⟩ := q
      rw [hr] at this
      simp only
      split
      · exact this
      · have h2 := hrd s l h
        cases hv : rd s l with
        | error f => rw [hv] at h2; exact h2
        | ok q =>
          obtain ⟨⟨v, s1⟩, l1⟩ := q
          rw [hv] at h2
          have h3 := ih s1 l1 h2
          simp only
          cases hp : pListE rd n s1 l1 with
          | error f => rw [hp] at h3; exact h3
          | ok q =>
            obtain ⟨vs, l2⟩ := q
            rw [hp] at h3
            exact h3
theorem Fine.many {α : Type} {rd : List Wd → Px α} (k : Int) (hrd : Fine rd) : ∀ n, Fine (pMany k rd n) := by
  intro n
  induction n with
  | zero =>
    intro l h
    have := Fine.next l h
    unfold pMany
    cases hr : nextW l with
    | error f => rw [hr] at this; exact this
    | ok q =>
      obtain ⟨x, r⟩ := q
      simp only
      split
      · exact h
      · split
        · show (4 : Int) ≠ 0
          decide
        · show (3 : Int) ≠ 0
          decide
  | succ n ih =>
    intro l h
    have := Fine.next l h
    unfold pMany
    cases hr : nextW l with
    | error f => rw [hr] at this; exact this
    | ok q =>
      obtain ⟨x, r⟩ := q
      simp only
      split
      · exact h
      · have ht := Fine.take 40 l h
        cases hk : takeW 40 l with
        | error f => rw [hk] at ht; exact ht
        | ok q =>
          obtain ⟨y, l1⟩ := q
          rw [hk] at ht
          have hc := hrd l1 ht
          simp only
          cases hp : rd l1 with
          | error f => rw [hp] at hc; exact hc
          | ok q =>
            obtain ⟨v, l2⟩ := q
            rw [hp] at hc
            have hi := ih l2 hc
            simp only
            cases hq : pMany k rd n l2 with
            | error f => rw [hq] at hi; exact hi
            | ok q =>
              obtain ⟨vs, l3⟩ := q
              rw [hq] at hi
              exact hi
theorem Fine.manyS {σ α : Type} {rd : σ → List Wd → Px (α × σ)} (k : Int) (hrd : ∀ s, Fine (rd s)) : ∀ n s, Fine (pManyS k rd n s) := by
  intro n
  induction n with
  | zero =>
    intro s l h
    have := Fine.next l h
    unfold pManyS
    cases hr : nextW l with
    | error f => rw [hr] at this; exact this
    | ok q =>
      obtain ⟨x, r⟩ := q
      simp only
      split
      · exact h
      · split
        · show (4 : Int) ≠ 0
          decide
        · show (3 : Int) ≠ 0
          decide
  | succ n ih =>
    intro s l h
    have := Fine.next l h
    unfold pManyS
    cases hr : nextW l with
    | error f => rw [hr] at this; exact this
    | ok q =>
      obtain ⟨x, r⟩ := q
      simp only
      split
      · exact h
      · have ht := Fine.take 40 l h
        cases hk : takeW 40 l with
        | error f => rw [hk] at ht; exact ht
        | ok q =>
          obtain ⟨y, l1⟩ := q
          rw [hk] at ht
          have hc := hrd s l1 ht
          simp only
          cases hp : rd s l1 with
          | error f => rw [hp] at hc; exact hc
          | ok q =>
            obtain ⟨⟨v, s1⟩, l2⟩ := q
            rw [hp] at hc
            have hi := ih s1 l2 hc
            simp only
            cases hq : pManyS k rd n s1 l2 with
            | error f => rw [hq] at hi; exact hi
            | ok q =>
              obtain ⟨vs, l3⟩ := q
              rw [hq] at hi
              exact hi
theorem Fine.ref : Fine pRef := (Fine.take 48).and fun _ => Fine.ret _
theorem Fine.act (s : ES) : Fine (pAct s) := (Fine.take 97).and fun x => by
  intro l h
  show FineR (if _ then _ else _)
  split
  · exact ((Fine.take 41).and fun _ => Fine.ret _) l h
  · split
    · exact (Fine.ref.and fun _ => (Fine.listE (Fine.expr 20) 6 s).and fun _ => Fine.ret _) l h
    · split
      · exact (Fine.ref.and fun _ => (Fine.take 41).and fun _ => Fine.ret _) l h
      · split
        · exact (Fine.cls.and fun _ => (Fine.listE (Fine.expr 20) 6 s).and fun _ => Fine.ret _) l h
        · show (3 : Int) ≠ 0
          decide
theorem Fine.rule : Fine pRule := (Fine.take 97).and fun x => by
  intro l h
  show FineR (if _ then _ else _)
  split
  · exact ((Fine.take 97).and fun _ => (Fine.take 48).and fun _ => (Fine.many 62 Fine.pat 6).and fun _ => (Fine.take 62).and fun _ => (Fine.manyS 41 Fine.act 8 _).and fun _ => (Fine.take 41).and fun _ => Fine.ret _) l h
  · show (3 : Int) ≠ 0
    decide
theorem Fine.rules : Fine pRules := Fine.many 0 Fine.rule 16
/-- What the rules' reading tells. -/
def prR (src : Bs) : Px (List Ru) := if 20000 < src.length then .error (4, 0) else pRules (wordsOf src)
theorem pr_code {src : Bs} {f : Flt} (h : prR src = .error f) : f.1 ≠ 0 := by
  unfold prR at h
  split at h
  · injection h with h
    rw [← h]
    show (4 : Int) ≠ 0
    decide
  · have := Fine.rules _ (words_good src)
    rw [h] at this
    exact this
end Go.Proofs.YtdhpoagjmiligaaGreatDoor

namespace Go.Proofs.YtdhpoagjmiligaaGreatDoor
open Go.RowKit
attribute [local go_sem ↓] Go.wp_at_zero Go.wp_at_succ

theorem tests_any (w : World) : Calls Tryz.prog 69 #[] w fun e w' => e = .returned (.slice (some ⟨w.heap.size, 0, none⟩) 6 6) ∧ w' = w.alloc (.cells #[.string ⟨#[61]⟩, .string ⟨#[33, 61]⟩, .string ⟨#[60]⟩, .string ⟨#[62]⟩, .string ⟨#[60, 61]⟩, .string ⟨#[62, 61]⟩] 9) := by
  go_enter Tryz.func69, Tryz.ntmps69
  go_wp2
  go_ret
  exact ⟨rfl, rfl⟩
theorem ars_any (w : World) : Calls Tryz.prog 70 #[] w fun e w' => e = .returned (.slice (some ⟨w.heap.size, 0, none⟩) 5 5) ∧ w' = w.alloc (.cells #[.string ⟨#[43]⟩, .string ⟨#[45]⟩, .string ⟨#[42]⟩, .string ⟨#[47]⟩, .string ⟨#[37]⟩] 9) := by
  go_enter Tryz.func70, Tryz.ntmps70
  go_wp2
  go_ret
  exact ⟨rfl, rfl⟩
theorem opTx_new (w : World) : TxAt (w.alloc (.cells #[.string ⟨#[61]⟩, .string ⟨#[33, 61]⟩, .string ⟨#[60]⟩, .string ⟨#[62]⟩, .string ⟨#[60, 61]⟩, .string ⟨#[62, 61]⟩] 9)) w.heap.size opTx := fun j t ht => by
  have hb := heap_alloc_new w (.cells #[.string ⟨#[61]⟩, .string ⟨#[33, 61]⟩, .string ⟨#[60]⟩, .string ⟨#[62]⟩, .string ⟨#[60, 61]⟩, .string ⟨#[62, 61]⟩] 9)
  refine cell_of (L := [_, _, _, _, _, _]) hb ?_
  match j, ht with
  | 0, ht => injection ht with ht; subst ht; rfl
  | 1, ht => injection ht with ht; subst ht; rfl
  | 2, ht => injection ht with ht; subst ht; rfl
  | 3, ht => injection ht with ht; subst ht; rfl
  | 4, ht => injection ht with ht; subst ht; rfl
  | 5, ht => injection ht with ht; subst ht; rfl
  | j + 6, ht => cases ht
theorem arTx_new (w : World) : TxAt (w.alloc (.cells #[.string ⟨#[43]⟩, .string ⟨#[45]⟩, .string ⟨#[42]⟩, .string ⟨#[47]⟩, .string ⟨#[37]⟩] 9)) w.heap.size arTx := fun j t ht => by
  have hb := heap_alloc_new w (.cells #[.string ⟨#[43]⟩, .string ⟨#[45]⟩, .string ⟨#[42]⟩, .string ⟨#[47]⟩, .string ⟨#[37]⟩] 9)
  refine cell_of (L := [_, _, _, _, _]) hb ?_
  match j, ht with
  | 0, ht => injection ht with ht; subst ht; rfl
  | 1, ht => injection ht with ht; subst ht; rfl
  | 2, ht => injection ht with ht; subst ht; rfl
  | 3, ht => injection ht with ht; subst ht; rfl
  | 4, ht => injection ht with ht; subst ht; rfl
  | j + 5, ht => cases ht
theorem rel63 : ∀ x, WdOk x → (x.kind = 4 ↔ pkW x = 63) := fun _ h => (pk_rel h).2.2.2.1
theorem test_in (t : Bs) : testIx t ≠ 0 ↔ t ∈ opTx := by
  constructor
  · intro h
    unfold testIx at h
    repeat' split at h
    all_goals first | (subst_vars; decide) | exact absurd rfl h
  · intro h
    simp only [opTx, List.mem_cons, List.not_mem_nil, or_false] at h
    rcases h with rfl | rfl | rfl | rfl | rfl | rfl <;> decide
theorem test_ar {t : Bs} (h : t ∈ arTx) : testIx t = 0 := by
  simp only [arTx, List.mem_cons, List.not_mem_nil, or_false] at h
  rcases h with rfl | rfl | rfl | rfl | rfl <;> rfl
/-- What kind the program gives to a word of an other kind. -/
theorem other_rel {x : Wd} (h : WdOk x) (hk : x.kind = 6) : pkW x = (if x.text ∈ opTx then 61 else if x.text ∈ arTx then 43 else if x.text = [95] then 95 else if x.text = [61, 62] then 62 else -1) ∧ ptW x = (if x.text ∈ opTx then x.text else if x.text ∈ arTx then x.text else []) := by
  rcases h with ⟨_, _, h | h | h | h⟩ | ⟨h, _⟩
  · omega
  · omega
  · omega
  · omega
  · have hm := hk
    rw [h] at hm
    unfold mkind at hm
    split at hm
    · exact absurd hm (by decide)
    · split at hm
      · exact absurd hm (by decide)
      · split at hm
        · exact absurd hm (by decide)
        · rename_i h1 h2 h3
          have q1 : pkW x = pkind x.text := by unfold pkW; rw [if_neg (by omega), if_neg (by omega), if_neg (by omega)]
          have q2 : ptW x = ptext x.text := by unfold ptW; rw [if_neg (by omega), if_neg (by omega), if_neg (by omega)]
          rw [q1, q2]
          unfold pkind ptext
          rw [if_neg h1, if_neg h3, if_neg h2, if_neg h1, if_neg h3, if_neg h2]
          by_cases ht : x.text ∈ opTx
          · rw [if_pos ((test_in _).2 ht), if_pos ((test_in _).2 ht), if_pos ht, if_pos ht]
            exact ⟨rfl, rfl⟩
          · rw [if_neg (fun e => ht ((test_in _).1 e)), if_neg (fun e => ht ((test_in _).1 e)), if_neg ht, if_neg ht]
            exact ⟨rfl, rfl⟩
theorem kind_other {x : Wd} (h : WdOk x) (hp : pkW x = 61 ∨ pkW x = 43 ∨ pkW x = 95 ∨ pkW x = 62) : x.kind = 6 := by
  rcases h with ⟨ht, _, hk | hk | hk | hk⟩ | ⟨hk, _⟩
  · simp [pkW, hk] at hp
  · simp [pkW, hk] at hp
  · simp [pkW, hk] at hp
  · have : pkW x = -1 := by simp [pkW, hk, ht, pkind_nil]
    omega
  · obtain ⟨m0, m1, m2, _⟩ := mkind_ne x.text
    have hq : pkW x = pkind x.text := by
      unfold pkW
      rw [hk, if_neg m0, if_neg m1, if_neg m2]
    rw [hq] at hp
    rw [hk]
    unfold pkind at hp
    unfold mkind
    by_cases h1 : (numOf x.text).isSome = true
    · rw [if_pos h1] at hp; omega
    · by_cases h2 : gSym x.text = true
      · rw [if_neg h1, if_pos h2] at hp; omega
      · by_cases h3 : isVarW x.text = true
        · rw [if_neg h1, if_neg h2, if_pos h3] at hp; omega
        · rw [if_neg h1, if_neg h2, if_neg h3] at hp
          rw [if_neg h1, if_neg h3, if_neg h2, if_pos]
          unfold isOtherW
          by_cases h4 : testIx x.text ≠ 0
          · simp [(test_in _).1 h4]
          · rw [if_neg h4] at hp
            by_cases h5 : x.text ∈ arTx
            · simp [h5]
            · rw [if_neg h5] at hp
              by_cases h6 : x.text = [95]
              · simp [h6]
              · rw [if_neg h6] at hp
                by_cases h7 : x.text = [61, 62]
                · simp [h7]
                · rw [if_neg h7] at hp
                  omega
theorem one_test {l : List Wd} (h : GoodL l) : oneM 6 opTx l = andP (takeW 61 l) fun o l1 => .ok (ptW o, l1) := by
  unfold oneM takeW
  cases hr : nextW l with
  | error f => rfl
  | ok q =>
    obtain ⟨x, r⟩ := q
    have hx : WdOk x := h.2 x (nextW_mem hr)
    simp only
    by_cases hp : pkW x = 61
    · have hk := kind_other hx (.inl hp)
      obtain ⟨e1, e2⟩ := other_rel hx hk
      by_cases hi : x.text ∈ opTx
      · rw [if_pos ⟨hk, hi⟩, if_pos hp, andP_ok, e2, if_pos hi]
      · rw [if_neg hi] at e1
        rw [e1] at hp
        repeat' split at hp
        all_goals exact absurd hp (by decide)
    · rw [if_neg hp, if_neg]
      · rfl
      · rintro ⟨hk, hi⟩
        have := (other_rel hx hk).1
        rw [if_pos hi] at this
        exact hp this
theorem one_ar {l : List Wd} (h : GoodL l) : oneM 6 arTx l = andP (takeW 43 l) fun o l1 => .ok (ptW o, l1) := by
  unfold oneM takeW
  cases hr : nextW l with
  | error f => rfl
  | ok q =>
    obtain ⟨x, r⟩ := q
    have hx : WdOk x := h.2 x (nextW_mem hr)
    simp only
    have hto : x.text ∈ arTx → x.text ∉ opTx := fun hi ho => (test_in _).2 ho (test_ar hi)
    by_cases hp : pkW x = 43
    · have hk := kind_other hx (.inr (.inl hp))
      obtain ⟨e1, e2⟩ := other_rel hx hk
      by_cases hi : x.text ∈ arTx
      · rw [if_pos ⟨hk, hi⟩, if_pos hp, andP_ok, e2, if_neg (hto hi), if_pos hi]
      · rw [hp] at e1
        rw [if_neg hi] at e1
        repeat' split at e1
        all_goals exact absurd e1 (by decide)
    · rw [if_neg hp, if_neg]
      · rfl
      · rintro ⟨hk, hi⟩
        have := (other_rel hx hk).1
        rw [if_neg (hto hi), if_pos hi] at this
        exact hp this
def toT : List Bs := [[61, 62]]
theorem one_to {l : List Wd} (h : GoodL l) : oneM 6 toT l = andP (takeW 62 l) fun _ l1 => .ok ([61, 62], l1) := by
  unfold oneM takeW
  cases hr : nextW l with
  | error f => rfl
  | ok q =>
    obtain ⟨x, r⟩ := q
    have hx : WdOk x := h.2 x (nextW_mem hr)
    simp only
    by_cases hp : pkW x = 62
    · have hk := kind_other hx (.inr (.inr (.inr hp)))
      obtain ⟨e1, _⟩ := other_rel hx hk
      rw [hp] at e1
      by_cases hi : x.text = [61, 62]
      · rw [if_pos ⟨hk, by rw [hi]; decide⟩, if_pos hp, andP_ok, hi]
      · rw [if_neg hi] at e1
        repeat' split at e1
        all_goals exact absurd e1 (by decide)
    · rw [if_neg hp, if_neg]
      · rfl
      · rintro ⟨hk, hi⟩
        have hi' : x.text = [61, 62] := by simpa [toT] using hi
        have := (other_rel hx hk).1
        rw [hi', if_neg (by decide), if_neg (by decide), if_neg (by decide), if_pos rfl] at this
        exact hp this
theorem und_rel {x : Wd} (h : WdOk x) : (x.kind = 6 ∧ x.text = [95]) ↔ pkW x = 95 := by
  constructor
  · rintro ⟨hk, hi⟩
    have := (other_rel h hk).1
    rw [hi, if_neg (by decide), if_neg (by decide), if_pos rfl] at this
    exact this
  · intro hp
    have hk := kind_other h (.inr (.inr (.inl hp)))
    refine ⟨hk, ?_⟩
    have e1 := (other_rel h hk).1
    rw [hp] at e1
    by_cases hi : x.text = [95]
    · exact hi
    · rw [if_neg hi] at e1
      repeat' split at e1
      all_goals exact absurd e1 (by decide)
theorem ptW_var {x : Wd} (h : WdOk x) (hk : x.kind = 4) : ptW x = x.text.tail := by
  rcases h with ⟨_, _, h | h | h | h⟩ | ⟨h, _⟩
  · omega
  · omega
  · omega
  · omega
  · rw [hk] at h
    unfold mkind at h
    split at h
    · exact absurd h (by decide)
    · split at h
      · rename_i h1 h2
        unfold ptW
        rw [if_neg (by omega), if_neg (by omega), if_neg (by omega)]
        unfold ptext
        rw [if_neg h1, if_neg (by rw [var_not_sym h2]; decide), if_pos h2]
      · repeat' split at h
        all_goals exact absurd h (by decide)
theorem testIx_at {k : Nat} (hk : k < 6) (t : Bs) : opTx.getD k [] = t ↔ testIx t = k + 1 := by
  constructor
  · intro h
    exact testIx_hit (by omega) (by omega) (by simpa using h)
  · intro h
    have ht : t ∈ opTx := (test_in t).1 (by omega)
    simp only [opTx, List.mem_cons, List.not_mem_nil, or_false] at ht
    rcases ht with rfl | rfl | rfl | rfl | rfl | rfl
    · obtain rfl : k = 0 := by have : testIx [61] = 1 := rfl; omega
      rfl
    · obtain rfl : k = 1 := by have : testIx [33, 61] = 2 := rfl; omega
      rfl
    · obtain rfl : k = 2 := by have : testIx [60] = 3 := rfl; omega
      rfl
    · obtain rfl : k = 3 := by have : testIx [62] = 4 := rfl; omega
      rfl
    · obtain rfl : k = 4 := by have : testIx [60, 61] = 5 := rfl; omega
      rfl
    · obtain rfl : k = 5 := by have : testIx [62, 61] = 6 := rfl; omega
      rfl
theorem MB.good {w : World} {pb g : Nat} {W : List Wd} {c : Nat} {l : List Wd} {R : List Value} (h : MB w pb g W c (.ok l) R) : GoodL l := by
  obtain ⟨k, cd, pos, hq, hk, hs⟩ := h.st
  obtain ⟨_, _, hd⟩ := hs
  rw [← hd]
  refine ⟨?_, fun x hx => (h.ok x (List.mem_of_mem_drop hx)).1⟩
  obtain ⟨pre, e, rfl, he, hp⟩ := h.ends
  have hkp : k ≤ pre.length := by simp at hk; omega
  exact ⟨pre.drop k, e, by rw [List.drop_append_of_le_length hkp], he, fun x hx => hp x (List.mem_of_mem_drop hx)⟩
/-- What stands behind a reading is right. -/
def GoodS (s : Ps) : Prop := match s with
  | .error _ => True
  | .ok l => GoodL l
theorem MB.gs {w : World} {pb g : Nat} {W : List Wd} {c : Nat} {s : Ps} {R : List Value} (h : MB w pb g W c s R) : GoodS s := by
  cases s with
  | error f => trivial
  | ok l => exact h.good
end Go.Proofs.YtdhpoagjmiligaaGreatDoor

namespace Go.Proofs.YtdhpoagjmiligaaGreatDoor
open Go.RowKit
attribute [local go_sem ↓] Go.wp_at_zero Go.wp_at_succ

/-- The error's type, as the library's variable has it. -/
def ErrT (w : World) : Prop := w.cell? ⟨0, 0, none⟩ = some (.iface 149 (.agg #[.pointer (some ⟨8, 87, none⟩)]))
theorem assert_nil (w : World) : (Instr.typeAssert .nilIface 20 87 true).run Tryz.prog w = .ok (.tuple #[.nilIface, .bool false]) w := by kernel_rfl
theorem assert_flt (v : Value) (w : World) : (Instr.typeAssert (.iface 55 v) 20 87 true).run Tryz.prog w = .ok (.tuple #[.iface 55 v, .bool true]) w := by kernel_rfl
set_option maxRecDepth 100000 in
set_option maxHeartbeats 400000 in
theorem ask_idle (tb : Nat) (w : World) :
    CallsD Tryz.prog 46 #[.pointer (some ⟨tb, 0, none⟩)] .returning w fun e u' w' => e = .returned (.tuple #[]) ∧ u' = .returning ∧ w' = w := by
  have ha := assert_nil w
  refine callsD_of_wpS Tryz.func46 rfl fun c₀ cs hu => ?_
  apply wpS_seq
  apply wpS_region
  simp [wpOpsS, go_sem, recoverD, hu, Tryz.ntmps46, Exit.thenS, ha, Array.replicate]
  refine wpS_of_wp ?_
  go_wp2_with fail
  cases c₀
  simp_all [bodyPostS, results, Tryz.results46]
end Go.Proofs.YtdhpoagjmiligaaGreatDoor

namespace Go.Proofs.YtdhpoagjmiligaaGreatDoor
open Go.RowKit
attribute [local go_sem ↓] Go.wp_at_zero Go.wp_at_succ

set_option maxRecDepth 100000 in
set_option maxHeartbeats 1600000 in
/-- The deferred question, behind a fault. -/
theorem ask_fault (f : Flt) (tb : Nat) (c : Array Value) (w : World) (hE : ErrT w) (hq : w.heap[tb]? = some (.cells c 55 (0, 0))) (hc : c.size = 2) (older : List PanicEntry) :
    CallsD Tryz.prog 46 #[.pointer (some ⟨tb, 0, none⟩)] (.panicking ({ v := .iface 55 (.agg #[.int .i64 f.1, .int .i64 (f.2 : Int)]), recovered := false } :: older)) w fun e u' w' =>
      e = .returned (.tuple #[]) ∧ u' = .panicking ({ v := .iface 55 (.agg #[.int .i64 f.1, .int .i64 (f.2 : Int)]), recovered := true } :: older) ∧ w'.heap[tb]? = some (.cells #[.int .i64 f.1, .int .i64 (f.2 : Int)] 55 (0, 0)) ∧ MkO (some tb) w w' := by
  have HA := hidX (as_hit f.1 f.2 tb c w hE hq hc)
  have ha := assert_flt (.agg #[.int .i64 f.1, .int .i64 (f.2 : Int)]) w
  clear hE hq hc
  refine callsD_of_wpS Tryz.func46 rfl fun c₀ cs hu => ?_
  apply wpS_seq
  apply wpS_region
  simp [wpOpsS, go_sem, recoverD, hu, Tryz.ntmps46, Exit.thenS, ha, Array.replicate]
  refine wpS_of_wp ?_
  go_wp2_with (first | (go_at_call 47; refine HA.out.mono ?_; rintro e w2 ⟨rfl, hq2, hm2⟩) | fail)
  simp [bodyPostS, results, Tryz.results46]
  exact ⟨hq2, hm2⟩
theorem ErrT.mko {w w' : World} {pb : Nat} (h : ErrT w) (hm : MkO (some pb) w w') (hp : 0 < pb) : ErrT w' :=
  (World.cell?_of_block (w := w) (hm.block 0 (lt_cellX h) (fun e => by injection e; omega))).trans h
/-- What the first fault tells. -/
def FfPost (w : World) (pb : Nat) (n : Nat) (r : Except Flt Unit) (Q : World → World → Prop) (e : Ending) (w' : World) : Prop := MkO (some pb) w w' ∧ match (if 20000 < n then .error (4, 0) else r : Except Flt Unit) with
  | .error f => e = .returned (.agg #[.int .i64 f.1, .int .i64 (f.2 : Int)])
  | .ok _ => e = .returned (.agg #[.int .i64 0, .int .i64 0]) ∧ ∃ u1 u2, Below w.heap.size w u1 ∧ w.heap.size < u1.heap.size ∧ Q u1 u2 ∧ (∃ cs, u2.heap[w.heap.size]? = some (.cells cs 55 (0, 0))) ∧ Turned u2 w' w.heap.size
theorem infoFlt : (Tryz.prog.info? 55).map (·.size) = some 2 := by kernel_rfl
end Go.Proofs.YtdhpoagjmiligaaGreatDoor

namespace Go.Proofs.YtdhpoagjmiligaaGreatDoor
open Go.RowKit
attribute [local go_sem ↓] Go.wp_at_zero Go.wp_at_succ

def unitR {α : Type} (r : Px α) : Except Flt Unit := match r with
  | .error f => .error f
  | .ok _ => .ok ()
theorem FnMap.below {w w' : World} {pb mb : Nat} {f : Bs → Option Nat} (h : FnMap w pb mb f) (hb : Below w.heap.size w w') : FnMap w' pb mb f := h.block (hb.block mb h.lt)
end Go.Proofs.YtdhpoagjmiligaaGreatDoor
