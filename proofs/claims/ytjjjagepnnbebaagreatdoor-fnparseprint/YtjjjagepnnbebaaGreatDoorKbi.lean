/-
  OUR OWN TEXT. Mq7, Mq8, Px3, Sx23, Sx24, Sx25, Pr3, one behind the other.
-/
import Derived.Test.YtjjjagepnnbebaaGreatDoorKbg
import Derived.Deep.CutBlock
import Derived.Deep.DeepCutAuto
import Derived.Test.YtjjjagepnnbebaaGreatDoorKbb
import Derived.Test.YtjjjagepnnbebaaGreatDoorKbe
import Derived.Recover
import Derived.Defers
import Derived.Test.YtjjjagepnnbebaaGreatDoorKbf
namespace Go.Proofs.YtjjjagepnnbebaaGreatDoor
open Go.RowKit
attribute [local go_sem ↓] Go.wp_at_zero Go.wp_at_succ

theorem MB.blocks {w w' : World} {pb g : Nat} {W : List Wd} {c : Nat} {s : Ps} {R : List Value} (h : MB w pb g W c s R) (h1 : w'.heap[pb]? = w.heap[pb]?) (h2 : w'.heap[g]? = w.heap[g]?) : MB w' pb g W c s R := by
  obtain ⟨k, cd, pos, hq, hk, hs⟩ := h.st
  exact ⟨⟨k, cd, pos, h1.trans hq, hk, hs⟩, h.wds.block h2, h.far, h.ok, h.ends, h.caps, h.len⟩
end Go.Proofs.YtjjjagepnnbebaaGreatDoor

namespace Go.Proofs.YtjjjagepnnbebaaGreatDoor
open Go.RowKit
attribute [local go_sem ↓] Go.wp_at_zero Go.wp_at_succ

def csL (code : Int) (pos : Nat) (v : Value) : List Value := [.int .i64 code, .int .i64 (pos : Int), v]
theorem csL_one (code : Int) (pos : Nat) (a : Option Addr) (n c : Nat) : ∀ v ∈ csL code pos (.slice a n c), v.oneCell' = true := by
  intro v hv
  simp [csL] at hv
  rcases hv with rfl | rfl | rfl <;> rfl
/-- The words of a new parser. -/
theorem WdsAt.owns {w : World} {base c : Nat} {a : Option Addr} {W : List Wd} (h : w.ownsRow base 102 4 (.slice a W.length c) W.length (wdsV W)) (hW : W ≠ []) : ∃ g, a = some ⟨g, 0, none⟩ ∧ base ≤ g ∧ g < w.heap.size ∧ WdsAt w g W ∧ W.length ≤ c := by
  obtain ⟨_, ⟨h1, h2⟩ | ⟨g, cap, cur, h1, h2, h3, h4, h5, h6, h7⟩⟩ := h
  · exact absurd (List.eq_nil_of_length_eq_zero h2) hW
  · injection h1 with e1 e2 e3
    subst e3
    refine ⟨g, e1, h2, lt_of_block' h3, fun j x hx i v hv => ?_, h4⟩
    have hj : j < W.length := (List.getElem?_eq_some_iff.1 hx).1
    have hi : i < 4 := by
      have := (List.getElem?_eq_some_iff.1 hv).1
      simpa [wdV] using this
    have hg : (wdsV W)[j * 4 + i]? = some v := by
      have : ∀ (L : List Wd) (j : Nat), L[j]? = some x → (wdsV L)[j * 4 + i]? = some v := by
        intro L
        induction L with
        | nil => intro j hj; simp at hj
        | cons y L ih =>
          intro j hj
          cases j with
          | zero =>
            simp at hj
            subst hj
            simp only [wdsV, List.flatMap_cons, Nat.zero_mul, Nat.zero_add]
            rw [List.getElem?_append_left (by simpa [wdV] using hi)]
            exact hv
          | succ j =>
            simp at hj
            have := ih j hj
            simp only [wdsV, List.flatMap_cons]
            rw [List.getElem?_append_right (by simp [wdV]; omega)]
            rw [show (j + 1) * 4 + i - (wdV y).length = j * 4 + i by simp [wdV]; omega]
            exact this
      exact this W j hx
    rw [← h7, List.getElem?_take] at hg
    split at hg
    · simp [World.cell?, h3]
      simpa using hg
    · cases hg
theorem CO.base {w : World} {B B' : Nat} {a : Option Addr} {c : Nat} {M : List CdX} (h : CO w B a c M) (hb : B' ≤ B) : CO w B' a c M := ⟨owns_base h.row hb, fun x hx => by
  obtain ⟨la, lc, h1, h2⟩ := h.all x hx
  exact ⟨la, lc, h1, owns_base h2 hb⟩, h.pair⟩
theorem CO.turned {w w' : World} {B b : Nat} {a : Option Addr} {c : Nat} {M : List CdX} {t : TypeId} {cs : Array Value} (h : CO w B a c M) (ht : Turned w w' b) (hb : w.heap[b]? = some (.cells cs t (0, 0))) (h1 : t ≠ 135) (h2 : t ≠ 93) : CO w' B a c M := ⟨own_turn h.row ht hb h1, fun x hx => by
  obtain ⟨la, lc, e1, e2⟩ := h.all x hx
  exact ⟨la, lc, e1, own_turn e2 ht hb h2⟩, h.pair⟩
end Go.Proofs.YtjjjagepnnbebaaGreatDoor

namespace Go.Proofs.YtjjjagepnnbebaaGreatDoor

/-- Words as a text has them. -/
def GoodL (l : List Wd) : Prop := WsOk l ∧ ∀ x ∈ l, WdOk x
def FineR {α : Type} (r : Px α) : Prop := match r with
  | .error f => f.1 ≠ 0
  | .ok (_, l) => GoodL l
/-- Faults bear a code, and what is left is right. -/
def Fine {α : Type} (p : List Wd → Px α) : Prop := ∀ l, GoodL l → FineR (p l)
theorem Fine.next : Fine nextW := fun l h => by
  cases l with
  | nil => exact absurd rfl h.1.ne
  | cons x r =>
    cases hr : nextW (x :: r) with
    | error f =>
      unfold nextW badW at hr
      by_cases h7 : x.kind = 7
      · simp [h7] at hr
        rw [← hr]
        show (1 : Int) ≠ 0
        decide
      · by_cases h8 : x.kind = 8
        · simp [h8] at hr
          rw [← hr]
          show (2 : Int) ≠ 0
          decide
        · simp [h7, h8] at hr
    | ok q =>
      obtain ⟨y, r'⟩ := q
      obtain ⟨rfl, rfl⟩ := nextW_head hr
      show GoodL _
      split
      · exact h
      · exact ⟨h.1.tail (by assumption), fun z hz => h.2 z (List.mem_cons_of_mem _ hz)⟩
theorem Fine.take (k : Int) : Fine (takeW k) := fun l h => by
  have := Fine.next l h
  unfold takeW
  cases hr : nextW l with
  | error f => rw [hr] at this; exact this
  | ok q =>
    obtain ⟨x, r⟩ := q
    rw [hr] at this
    simp only
    split
    · exact this
    · show (3 : Int) ≠ 0
      decide
theorem Fine.and {α β : Type} {p : List Wd → Px α} {k : α → List Wd → Px β} (hp : Fine p) (hk : ∀ x, Fine (k x)) : Fine (fun l => andP (p l) k) := fun l h => by
  have := hp l h
  show FineR (andP (p l) k)
  cases hr : p l with
  | error f => rw [hr] at this; exact this
  | ok q =>
    obtain ⟨x, r⟩ := q
    rw [hr] at this
    exact hk x r this
theorem Fine.ret {α : Type} (x : α) : Fine (fun l => (.ok (x, l) : Px α)) := fun _ h => h
theorem Fine.cls : Fine pClass := fun l h => by
  have := Fine.take 97 l h
  unfold pClass
  cases hr : takeW 97 l with
  | error f => rw [hr] at this; exact this
  | ok q =>
    obtain ⟨x, r⟩ := q
    rw [hr] at this
    simp only
    split
    · show (3 : Int) ≠ 0
      decide
    · exact this
theorem Fine.list {α : Type} {rd : List Wd → Px α} (hrd : Fine rd) : ∀ n, Fine (pList rd n) := by
  intro n
  induction n with
  | zero =>
    intro l h
    have := Fine.next l h
    unfold pList
    cases hr : nextW l with
    | error f => rw [hr] at this; exact this
    | ok q =>
      obtain ⟨x, r⟩ := q
      rw [hr] at this
      simp only
      split
      · exact this
      · split
        · show (3 : Int) ≠ 0
          decide
        · show (4 : Int) ≠ 0
          decide
  | succ n ih =>
    intro l h
    have := Fine.next l h
    unfold pList
    cases hr : nextW l with
    | error f => rw [hr] at this; exact this
    | ok q =>
      obtain ⟨x, r⟩ := q
      rw [hr] at this
      simp only
      split
      · exact this
      · have h2 := hrd l h
        cases hv : rd l with
        | error f => rw [hv] at h2; exact h2
        | ok q =>
          obtain ⟨v, l1⟩ := q
          rw [hv] at h2
          have h3 := ih l1 h2
          simp only
          cases hp : pList rd n l1 with
          | error f => rw [hp] at h3; exact h3
          | ok q =>
            obtain ⟨vs, l2⟩ := q
            rw [hp] at h3
            exact h3
theorem words_good (src : Bs) : GoodL (wordsOf src) := by
  obtain ⟨h1, h2⟩ := wordsAt_ok src 0 (Nat.zero_le _)
  exact ⟨h2, fun x hx => (h1 x hx).1⟩
end Go.Proofs.YtjjjagepnnbebaaGreatDoor

namespace Go.Proofs.YtjjjagepnnbebaaGreatDoor
open Go.RowKit
attribute [local go_sem ↓] Go.wp_at_zero Go.wp_at_succ

/-- The error's type, as the library's variable has it. -/
def ErrT (w : World) : Prop := w.cell? ⟨0, 0, none⟩ = some (.iface 183 (.agg #[.pointer (some ⟨8, 85, none⟩)]))
theorem assert_nil (w : World) : (Instr.typeAssert .nilIface 20 85 true).run Tryz.prog w = .ok (.tuple #[.nilIface, .bool false]) w := by kernel_rfl
theorem assert_flt (v : Value) (w : World) : (Instr.typeAssert (.iface 48 v) 20 85 true).run Tryz.prog w = .ok (.tuple #[.iface 48 v, .bool true]) w := by kernel_rfl
set_option maxRecDepth 100000 in
set_option maxHeartbeats 400000 in
theorem ask_idle (tb : Nat) (w : World) :
    CallsD Tryz.prog 44 #[.pointer (some ⟨tb, 0, none⟩)] .returning w fun e u' w' => e = .returned (.tuple #[]) ∧ u' = .returning ∧ w' = w := by
  have ha := assert_nil w
  refine callsD_of_wpS Tryz.func44 rfl fun c₀ cs hu => ?_
  apply wpS_seq
  apply wpS_region
  simp [wpOpsS, go_sem, recoverD, hu, Tryz.ntmps44, Exit.thenS, ha, Array.replicate]
  refine wpS_of_wp ?_
  go_wp2_with fail
  cases c₀
  simp_all [bodyPostS, results, Tryz.results44]
end Go.Proofs.YtjjjagepnnbebaaGreatDoor

namespace Go.Proofs.YtjjjagepnnbebaaGreatDoor
open Go.RowKit
attribute [local go_sem ↓] Go.wp_at_zero Go.wp_at_succ

set_option maxRecDepth 100000 in
set_option maxHeartbeats 1600000 in
/-- The deferred question, behind a fault. -/
theorem ask_fault (f : Flt) (tb : Nat) (c : Array Value) (w : World) (hE : ErrT w) (hq : w.heap[tb]? = some (.cells c 48 (0, 0))) (hc : c.size = 2) (older : List PanicEntry) :
    CallsD Tryz.prog 44 #[.pointer (some ⟨tb, 0, none⟩)] (.panicking ({ v := .iface 48 (.agg #[.int .i64 f.1, .int .i64 (f.2 : Int)]), recovered := false } :: older)) w fun e u' w' =>
      e = .returned (.tuple #[]) ∧ u' = .panicking ({ v := .iface 48 (.agg #[.int .i64 f.1, .int .i64 (f.2 : Int)]), recovered := true } :: older) ∧ w'.heap[tb]? = some (.cells #[.int .i64 f.1, .int .i64 (f.2 : Int)] 48 (0, 0)) ∧ MkO (some tb) w w' := by
  have HA := hidX (as_hit f.1 f.2 tb c w hE hq hc)
  have ha := assert_flt (.agg #[.int .i64 f.1, .int .i64 (f.2 : Int)]) w
  clear hE hq hc
  refine callsD_of_wpS Tryz.func44 rfl fun c₀ cs hu => ?_
  apply wpS_seq
  apply wpS_region
  simp [wpOpsS, go_sem, recoverD, hu, Tryz.ntmps44, Exit.thenS, ha, Array.replicate]
  refine wpS_of_wp ?_
  go_wp2_with (first | (go_at_call 45; refine HA.out.mono ?_; rintro e w2 ⟨rfl, hq2, hm2⟩) | fail)
  simp [bodyPostS, results, Tryz.results44]
  exact ⟨hq2, hm2⟩
theorem ErrT.mko {w w' : World} {pb : Nat} (h : ErrT w) (hm : MkO (some pb) w w') (hp : 0 < pb) : ErrT w' :=
  (World.cell?_of_block (w := w) (hm.block 0 (lt_cellX h) (fun e => by injection e; omega))).trans h
/-- What the first fault tells. -/
def FfPost (w : World) (pb : Nat) (n : Nat) (r : Except Flt Unit) (Q : World → World → Prop) (e : Ending) (w' : World) : Prop := MkO (some pb) w w' ∧ match (if 20000 < n then .error (4, 0) else r : Except Flt Unit) with
  | .error f => e = .returned (.agg #[.int .i64 f.1, .int .i64 (f.2 : Int)])
  | .ok _ => e = .returned (.agg #[.int .i64 0, .int .i64 0]) ∧ ∃ u1 u2, Below w.heap.size w u1 ∧ w.heap.size < u1.heap.size ∧ Q u1 u2 ∧ (∃ cs, u2.heap[w.heap.size]? = some (.cells cs 48 (0, 0))) ∧ Turned u2 w' w.heap.size
theorem infoFlt : (Tryz.prog.info? 48).map (·.size) = some 2 := by kernel_rfl
end Go.Proofs.YtjjjagepnnbebaaGreatDoor

namespace Go.Proofs.YtjjjagepnnbebaaGreatDoor
open Go.RowKit
attribute [local go_sem ↓] Go.wp_at_zero Go.wp_at_succ

def unitX {α : Type} (r : Px α) : Except Flt Unit := match r with
  | .error f => .error f
  | .ok _ => .ok ()
theorem FnMap.below {w w' : World} {pb mb : Nat} {f : Bs → Option Nat} (h : FnMap w pb mb f) (hb : Below w.heap.size w w') : FnMap w' pb mb f := h.block (hb.block mb h.lt)
end Go.Proofs.YtjjjagepnnbebaaGreatDoor

namespace Go.Proofs.YtjjjagepnnbebaaGreatDoor

theorem Fine.test : Fine pTest := (Fine.take 61).and fun o => Fine.next.and fun x => by
  intro l h
  show FineR (if _ then _ else _)
  split
  · exact ((Fine.take 41).and fun _ => Fine.ret _) l h
  · split
    · exact ((Fine.take 41).and fun _ => Fine.ret _) l h
    · show (3 : Int) ≠ 0
      decide
theorem Fine.term : Fine pTerm := Fine.next.and fun x => by
  intro l h
  show FineR (if _ then _ else _)
  split
  · exact h
  · split
    · exact h
    · split
      · exact h
      · split
        · exact Fine.test l h
        · show (3 : Int) ≠ 0
          decide
theorem Fine.pat : Fine pPat := (Fine.take 97).and fun x => by
  intro l h
  show FineR (if _ then _ else _)
  split
  · exact (Fine.cls.and fun c => (Fine.term.list 6).and fun _ => Fine.ret _) l h
  · exact ((Fine.term.list 6).and fun _ => Fine.ret _) l h
theorem Fine.bound (n m : Int) : Fine (boundW n m) := fun l h => by
  have := Fine.next l h
  unfold boundW
  cases hr : nextW l with
  | error f => rw [hr] at this; exact this
  | ok q =>
    obtain ⟨x, r⟩ := q
    simp only
    split
    · show (4 : Int) ≠ 0
      decide
    · exact h
theorem Fine.opE {f : Nat} (hf : ∀ s, Fine (pExpr f s)) (s : ES) : Fine (pOp f s) := (Fine.take 43).and fun _ => (hf s).and fun p => (hf p.2).and fun _ => (Fine.take 41).and fun _ => Fine.ret _
theorem Fine.expr : ∀ (f : Nat) (s : ES), Fine (pExpr f s) := by
  have key : ∀ (f : Nat), (∀ s, Fine (fun l => match f with | 0 => (.error (4, 0) : Px (Int × ES)) | g + 1 => pExpr g s l)) → ∀ s, Fine (pExpr f s) := by
    intro f hf s l h
    have h1 := Fine.bound (s.2 : Int) 60 l h
    have h2 := Fine.next l h
    cases hb : boundW (s.2 : Int) 60 l with
    | error e => rw [hb] at h1; rw [pExpr_bad hb]; exact h1
    | ok u =>
      cases hn : nextW l with
      | error e => rw [hn] at h2; rw [pExpr_next hb hn]; exact h2
      | ok q =>
        obtain ⟨x, l1⟩ := q
        rw [hn] at h2
        by_cases hk : pkW x = 48 ∨ pkW x = 97
        · rw [pExpr_const hb hn hk]; exact h2
        · by_cases h63 : pkW x = 63
          · rw [pExpr_var hb hn h63]; exact h2
          · by_cases h40 : pkW x = 40
            · cases f with
              | zero =>
                rw [pExpr_deep hb hn h40]
                show (4 : Int) ≠ 0
                decide
              | succ f =>
                rw [pExpr_op hb hn h40]
                exact ((Fine.opE hf _).and fun _ => Fine.ret _) l1 h2
            · rw [pExpr_else hb hn hk h63 h40]
              show (3 : Int) ≠ 0
              decide
  intro f
  induction f with
  | zero => exact key 0 (fun _ _ _ => show (4 : Int) ≠ 0 by decide)
  | succ f ih => exact key (f + 1) ih
theorem Fine.listE {σ α : Type} {rd : σ → List Wd → Px (α × σ)} (hrd : ∀ s, Fine (rd s)) : ∀ n s, Fine (pListE rd n s) := by
  intro n
  induction n with
  | zero =>
    intro s l h
    have := Fine.next l h
    unfold pListE
    cases hr : nextW l with
    | error f => rw [hr] at this; exact this
    | ok q =>
      obtain ⟨x, r⟩ := q
      rw [hr] at this
      simp only
      split
      · exact this
      · split
        · show (3 : Int) ≠ 0
          decide
        · show (4 : Int) ≠ 0
          decide
  | succ n ih =>
    intro s l h
    have := Fine.next l h
    unfold pListE
    cases hr : nextW l with
    | error f => rw [hr] at this; exact this
    | ok q =>
      obtain ⟨x, r⟩ := q
      rw [hr] at this
      simp only
      split
      · exact this
      · have h2 := hrd s l h
        cases hv : rd s l with
        | error f => rw [hv] at h2; exact h2
        | ok q =>
          obtain ⟨⟨v, s1⟩, l1⟩ := q
          rw [hv] at h2
          have h3 := ih s1 l1 h2
          simp only
          cases hp : pListE rd n s1 l1 with
          | error f => rw [hp] at h3; exact h3
          | ok q =>
            obtain ⟨vs, l2⟩ := q
            rw [hp] at h3
            exact h3
theorem Fine.many {α : Type} {rd : List Wd → Px α} (k : Int) (hrd : Fine rd) : ∀ n, Fine (pMany k rd n) := by
  intro n
  induction n with
  | zero =>
    intro l h
    have := Fine.next l h
    unfold pMany
    cases hr : nextW l with
    | error f => rw [hr] at this; exact this
    | ok q =>
      obtain ⟨x, r⟩ := q
      simp only
      split
      · exact h
      · split
        · show (4 : Int) ≠ 0
          decide
        · show (3 : Int) ≠ 0
          decide
  | succ n ih =>
    intro l h
    have := Fine.next l h
    unfold pMany
    cases hr : nextW l with
    | error f => rw [hr] at this; exact this
    | ok q =>
      obtain ⟨x, r⟩ := q
      simp only
      split
      · exact h
      · have ht := Fine.take 40 l h
        cases hk : takeW 40 l with
        | error f => rw [hk] at ht; exact ht
        | ok q =>
          obtain ⟨y, l1⟩ := q
          rw [hk] at ht
          have hc := hrd l1 ht
          simp only
          cases hp : rd l1 with
          | error f => rw [hp] at hc; exact hc
          | ok q =>
            obtain ⟨v, l2⟩ := q
            rw [hp] at hc
            have hi := ih l2 hc
            simp only
            cases hq : pMany k rd n l2 with
            | error f => rw [hq] at hi; exact hi
            | ok q =>
              obtain ⟨vs, l3⟩ := q
              rw [hq] at hi
              exact hi
theorem Fine.manyS {σ α : Type} {rd : σ → List Wd → Px (α × σ)} (k : Int) (hrd : ∀ s, Fine (rd s)) : ∀ n s, Fine (pManyS k rd n s) := by
  intro n
  induction n with
  | zero =>
    intro s l h
    have := Fine.next l h
    unfold pManyS
    cases hr : nextW l with
    | error f => rw [hr] at this; exact this
    | ok q =>
      obtain ⟨x, r⟩ := q
      simp only
      split
      · exact h
      · split
        · show (4 : Int) ≠ 0
          decide
        · show (3 : Int) ≠ 0
          decide
  | succ n ih =>
    intro s l h
    have := Fine.next l h
    unfold pManyS
    cases hr : nextW l with
    | error f => rw [hr] at this; exact this
    | ok q =>
      obtain ⟨x, r⟩ := q
      simp only
      split
      · exact h
      · have ht := Fine.take 40 l h
        cases hk : takeW 40 l with
        | error f => rw [hk] at ht; exact ht
        | ok q =>
          obtain ⟨y, l1⟩ := q
          rw [hk] at ht
          have hc := hrd s l1 ht
          simp only
          cases hp : rd s l1 with
          | error f => rw [hp] at hc; exact hc
          | ok q =>
            obtain ⟨⟨v, s1⟩, l2⟩ := q
            rw [hp] at hc
            have hi := ih s1 l2 hc
            simp only
            cases hq : pManyS k rd n s1 l2 with
            | error f => rw [hq] at hi; exact hi
            | ok q =>
              obtain ⟨vs, l3⟩ := q
              rw [hq] at hi
              exact hi
theorem Fine.ref : Fine pRef := (Fine.take 48).and fun _ => Fine.ret _
theorem Fine.act (s : ES) : Fine (pAct s) := (Fine.take 97).and fun x => by
  intro l h
  show FineR (if _ then _ else _)
  split
  · exact ((Fine.take 41).and fun _ => Fine.ret _) l h
  · split
    · exact (Fine.ref.and fun _ => (Fine.listE (Fine.expr 20) 6 s).and fun _ => Fine.ret _) l h
    · split
      · exact (Fine.ref.and fun _ => (Fine.take 41).and fun _ => Fine.ret _) l h
      · split
        · exact (Fine.cls.and fun _ => (Fine.listE (Fine.expr 20) 6 s).and fun _ => Fine.ret _) l h
        · show (3 : Int) ≠ 0
          decide
theorem Fine.rule : Fine pRule := (Fine.take 97).and fun x => by
  intro l h
  show FineR (if _ then _ else _)
  split
  · exact ((Fine.take 97).and fun _ => (Fine.take 48).and fun _ => (Fine.many 62 Fine.pat 6).and fun _ => (Fine.take 62).and fun _ => (Fine.manyS 41 Fine.act 8 _).and fun _ => (Fine.take 41).and fun _ => Fine.ret _) l h
  · show (3 : Int) ≠ 0
    decide
theorem Fine.rules : Fine pRules := Fine.many 0 Fine.rule 16
/-- What the rules' reading tells. -/
def prR (src : Bs) : Px (List Ru) := if 20000 < src.length then .error (4, 0) else pRules (wordsOf src)
theorem pr_code {src : Bs} {f : Flt} (h : prR src = .error f) : f.1 ≠ 0 := by
  unfold prR at h
  split at h
  · injection h with h
    rw [← h]
    show (4 : Int) ≠ 0
    decide
  · have := Fine.rules _ (words_good src)
    rw [h] at this
    exact this
end Go.Proofs.YtjjjagepnnbebaaGreatDoor
