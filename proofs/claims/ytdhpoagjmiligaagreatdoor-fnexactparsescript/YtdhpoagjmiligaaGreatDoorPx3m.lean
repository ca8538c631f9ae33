/-
  OUR OWN TEXT. Parsing as plain mathematics: faults have codes; the model's commands are the program's.
-/
import Derived.Test.YtdhpoagjmiligaaGreatDoorMq8m
namespace Go.Proofs.YtdhpoagjmiligaaGreatDoor

/-- Words as a text has them. -/
def GoodL (l : List Wd) : Prop := WsOk l ∧ ∀ x ∈ l, WdOk x
def FineR {α : Type} (r : Px α) : Prop := match r with
  | .error f => f.1 ≠ 0
  | .ok (_, l) => GoodL l
/-- Faults bear a code, and what is left is right. -/
def Fine {α : Type} (p : List Wd → Px α) : Prop := ∀ l, GoodL l → FineR (p l)
theorem Fine.next : Fine nextW := fun l h => by
  cases l with
  | nil => exact absurd rfl h.1.ne
  | cons x r =>
    cases hr : nextW (x :: r) with
    | error f =>
      unfold nextW badW at hr
      by_cases h7 : x.kind = 7
      · simp [h7] at hr
        rw [← hr]
        show (1 : Int) ≠ 0
        decide
      · by_cases h8 : x.kind = 8
        · simp [h8] at hr
          rw [← hr]
          show (2 : Int) ≠ 0
          decide
        · simp [h7, h8] at hr
    | ok q =>
      obtain ⟨y, r'⟩ := q
      obtain ⟨rfl, rfl⟩ := nextW_head hr
      show GoodL _
      split
      · exact h
      · exact ⟨h.1.tail (by assumption), fun z hz => h.2 z (List.mem_cons_of_mem _ hz)⟩
theorem Fine.take (k : Int) : Fine (takeW k) := fun l h => by
  have := Fine.next l h
  unfold takeW
  cases hr : nextW l with
  | error f => rw [hr] at this; exact this
  | ok q =>
    obtain ⟨x, r⟩ := q
    rw [hr] at this
    simp only
    split
    · exact this
    · show (3 : Int) ≠ 0
      decide
theorem Fine.and {α β : Type} {p : List Wd → Px α} {k : α → List Wd → Px β} (hp : Fine p) (hk : ∀ x, Fine (k x)) : Fine (fun l => andP (p l) k) := fun l h => by
  have := hp l h
  show FineR (andP (p l) k)
  cases hr : p l with
  | error f => rw [hr] at this; exact this
  | ok q =>
    obtain ⟨x, r⟩ := q
    rw [hr] at this
    exact hk x r this
theorem Fine.ret {α : Type} (x : α) : Fine (fun l => (.ok (x, l) : Px α)) := fun _ h => h
theorem Fine.bad {α : Type} (c : Int) (p : Nat) (hc : c ≠ 0) : Fine (fun _ => (.error (c, p) : Px α)) := fun _ _ => hc
theorem Fine.cls : Fine pClass := fun l h => by
  have := Fine.take 97 l h
  unfold pClass
  cases hr : takeW 97 l with
  | error f => rw [hr] at this; exact this
  | ok q =>
    obtain ⟨x, r⟩ := q
    rw [hr] at this
    simp only
    split
    · show (3 : Int) ≠ 0
      decide
    · exact this
theorem Fine.val : Fine pVal := fun l h => by
  have := Fine.next l h
  unfold pVal
  cases hr : nextW l with
  | error f => rw [hr] at this; exact this
  | ok q =>
    obtain ⟨x, r⟩ := q
    rw [hr] at this
    simp only
    split
    · exact this
    · show (3 : Int) ≠ 0
      decide
theorem Fine.list {α : Type} {rd : List Wd → Px α} (hrd : Fine rd) : ∀ n, Fine (pList rd n) := by
  intro n
  induction n with
  | zero =>
    intro l h
    have := Fine.next l h
    unfold pList
    cases hr : nextW l with
    | error f => rw [hr] at this; exact this
    | ok q =>
      obtain ⟨x, r⟩ := q
      rw [hr] at this
      simp only
      split
      · exact this
      · split
        · show (3 : Int) ≠ 0
          decide
        · show (4 : Int) ≠ 0
          decide
  | succ n ih =>
    intro l h
    have := Fine.next l h
    unfold pList
    cases hr : nextW l with
    | error f => rw [hr] at this; exact this
    | ok q =>
      obtain ⟨x, r⟩ := q
      rw [hr] at this
      simp only
      split
      · exact this
      · have h2 := hrd l h
        cases hv : rd l with
        | error f => rw [hv] at h2; exact h2
        | ok q =>
          obtain ⟨v, l1⟩ := q
          rw [hv] at h2
          have h3 := ih l1 h2
          simp only
          cases hp : pList rd n l1 with
          | error f => rw [hp] at h3; exact h3
          | ok q =>
            obtain ⟨vs, l2⟩ := q
            rw [hp] at h3
            exact h3
theorem Fine.cNum (k : Int) : Fine (cNum k) := (Fine.take 48).and fun _ => (Fine.take 41).and fun _ => Fine.ret _
theorem Fine.cAssert : Fine cAssert := Fine.cls.and fun _ => (Fine.val.list 6).and fun _ => Fine.ret _
theorem Fine.cModify : Fine cModify := (Fine.take 48).and fun _ => (Fine.val.list 6).and fun _ => Fine.ret _
theorem Fine.cmd : Fine pCmd := (Fine.take 97).and fun x => by
  intro l h
  show FineR (if _ then _ else _)
  split
  · exact Fine.cNum 4 l h
  · split
    · exact Fine.cModify l h
    · split
      · exact Fine.cNum 2 l h
      · split
        · exact Fine.cAssert l h
        · show (3 : Int) ≠ 0
          decide
/-- The model's command is the program's. -/
theorem cmd_in {l : List Wd} (h : GoodL l) : andP (headM l) tailM = pCmd l := by
  unfold headM pCmd oneM takeW
  cases hr : nextW l with
  | error f => rfl
  | ok q =>
    obtain ⟨x, r⟩ := q
    have hx : WdOk x := h.2 x (nextW_mem hr)
    simp only
    by_cases h5 : x.kind = 5
    · rw [if_pos ((rel97 x hx).1 h5), andP_ok, ptW_sym hx h5]
      by_cases hA : x.text = assertT
      · rw [if_pos ⟨h5, by rw [hA]; decide⟩, andP_ok, if_pos hA, hA, if_neg (by decide), if_neg (by decide), if_neg (by decide), if_pos rfl]
        unfold cAssert
        cases pClass r with
        | error f => rfl
        | ok q => rfl
      · by_cases hR : x.text = retractT
        · rw [if_pos ⟨h5, by rw [hR]; decide⟩, andP_ok, if_neg hA, if_pos hR, hR, if_neg (by decide), if_neg (by decide), if_pos rfl]
          unfold cNum takeW
          cases nextW r with
          | error f => rfl
          | ok q =>
            simp only
            split <;> rfl
        · by_cases hMo : x.text = modifyT
          · rw [if_pos ⟨h5, by rw [hMo]; decide⟩, andP_ok, if_neg hA, if_neg hR, if_pos hMo, hMo, if_neg (by decide), if_pos rfl]
            unfold cModify takeW
            cases nextW r with
            | error f => rfl
            | ok q =>
              simp only
              split <;> rfl
          · by_cases hU : x.text = runT
            · rw [if_pos ⟨h5, by rw [hU]; decide⟩, andP_ok, if_neg hA, if_neg hR, if_neg hMo, hU, if_pos rfl]
              unfold cNum takeW
              cases nextW r with
              | error f => rfl
              | ok q =>
                simp only
                split <;> rfl
            · rw [if_neg (fun e => by have := e.2; simp [cmdT, hA, hR, hMo, hU] at this), if_neg hU, if_neg hMo, if_neg hR, if_neg hA]
              rfl
    · rw [if_neg (fun e => h5 ((rel97 x hx).2 e)), if_neg (fun e => h5 e.1)]
      rfl
theorem cmds_same : ∀ (n : Nat) (l : List Wd), GoodL l → mCmds n l = pCmds n l := by
  intro n
  induction n with
  | zero =>
    intro l h
    unfold mCmds pCmds
    cases hr : nextW l with
    | error f => rfl
    | ok q =>
      obtain ⟨x, r⟩ := q
      have hx : WdOk x := h.2 x (nextW_mem hr)
      simp only [(pk_rel hx).2.2.2.2.2, (pk_rel hx).1]
  | succ n ih =>
    intro l h
    unfold mCmds pCmds
    cases hr : nextW l with
    | error f => rfl
    | ok q =>
      obtain ⟨x, r⟩ := q
      have hx : WdOk x := h.2 x (nextW_mem hr)
      simp only [(pk_rel hx).2.2.2.2.2]
      split
      · rfl
      · unfold cmdM
        have ht := Fine.take 40 l h
        cases hk : takeW 40 l with
        | error f => rfl
        | ok q =>
          obtain ⟨y, l1⟩ := q
          rw [hk] at ht
          rw [andP_ok]
          have hc := Fine.cmd l1 ht
          have e : (andP (headM l1) fun h l2 => tailM h l2) = pCmd l1 := cmd_in ht
          rw [e]
          simp only
          cases hp : pCmd l1 with
          | error f => rfl
          | ok q =>
            obtain ⟨v, l2⟩ := q
            rw [hp] at hc
            simp only
            rw [ih l2 hc]
            cases pCmds n l2 <;> rfl
theorem Fine.cmds : ∀ n, Fine (pCmds n) := by
  intro n
  induction n with
  | zero =>
    intro l h
    have := Fine.next l h
    unfold pCmds
    cases hr : nextW l with
    | error f => rw [hr] at this; exact this
    | ok q =>
      obtain ⟨x, r⟩ := q
      simp only
      split
      · exact h
      · split
        · show (4 : Int) ≠ 0
          decide
        · show (3 : Int) ≠ 0
          decide
  | succ n ih =>
    intro l h
    have := Fine.next l h
    unfold pCmds
    cases hr : nextW l with
    | error f => rw [hr] at this; exact this
    | ok q =>
      obtain ⟨x, r⟩ := q
      simp only
      split
      · exact h
      · have ht := Fine.take 40 l h
        cases hk : takeW 40 l with
        | error f => rw [hk] at ht; exact ht
        | ok q =>
          obtain ⟨y, l1⟩ := q
          rw [hk] at ht
          have hc := Fine.cmd l1 ht
          simp only
          cases hp : pCmd l1 with
          | error f => rw [hp] at hc; exact hc
          | ok q =>
            obtain ⟨v, l2⟩ := q
            rw [hp] at hc
            have hi := ih l2 hc
            simp only
            cases hq : pCmds n l2 with
            | error f => rw [hq] at hi; exact hi
            | ok q =>
              obtain ⟨vs, l3⟩ := q
              rw [hq] at hi
              exact hi
theorem words_good (src : Bs) : GoodL (wordsOf src) := by
  obtain ⟨h1, h2⟩ := wordsAt_ok src 0 (Nat.zero_le _)
  exact ⟨h2, fun x hx => (h1 x hx).1⟩
/-- What a script's reading tells, as the program reads it. -/
def pcsR (src : Bs) : Px (List Cd) := if 20000 < src.length then .error (4, 0) else pCmds 200 (wordsOf src)
theorem cs_same (src : Bs) : csR src = pcsR src := by
  unfold csR pcsR
  rw [cmds_same 200 _ (words_good src)]
theorem pcs_code {src : Bs} {f : Flt} (h : pcsR src = .error f) : f.1 ≠ 0 := by
  unfold pcsR at h
  split at h
  · injection h with h
    rw [← h]
    show (4 : Int) ≠ 0
    decide
  · have := Fine.cmds 200 _ (words_good src)
    rw [h] at this
    exact this
end Go.Proofs.YtdhpoagjmiligaaGreatDoor
