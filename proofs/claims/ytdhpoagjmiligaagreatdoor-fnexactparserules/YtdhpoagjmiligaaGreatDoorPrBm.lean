/-
  OUR OWN TEXT. How long what was parsed can be.
-/
import Derived.Test.YtdhpoagjmiligaaGreatDoorKbd
import Derived.Test.YtdhpoagjmiligaaGreatDoorKbb
namespace Go.Proofs.YtdhpoagjmiligaaGreatDoor
open Go.RowKit

theorem pList_leR {α : Type} {rd : List Wd → Px α} : ∀ {n : Nat} {l l2 : List Wd} {vs : List α}, pList rd n l = .ok (vs, l2) → vs.length ≤ n := by
  intro n
  induction n with
  | zero =>
    intro l l2 vs h
    unfold pList at h
    cases hr : nextW l with
    | error f => rw [hr] at h; cases h
    | ok q =>
      rw [hr] at h
      simp only at h
      split at h
      · injection h with h
        injection h with h _
        subst h
        simp
      · split at h <;> cases h
  | succ n ih =>
    intro l l2 vs h
    unfold pList at h
    cases hr : nextW l with
    | error f => rw [hr] at h; cases h
    | ok q =>
      rw [hr] at h
      simp only at h
      split at h
      · injection h with h
        injection h with h _
        subst h
        simp
      · cases hv : rd l with
        | error f => rw [hv] at h; cases h
        | ok q =>
          rw [hv] at h
          simp only at h
          cases hp : pList rd n q.2 with
          | error f => rw [hp] at h; cases h
          | ok p =>
            rw [hp] at h
            simp only at h
            injection h with h
            injection h with h _
            subst h
            have := ih hp
            simp
            omega
theorem pListE_le {σ α : Type} {rd : σ → List Wd → Px (α × σ)} : ∀ {n : Nat} {s s2 : σ} {l l2 : List Wd} {vs : List α}, pListE rd n s l = .ok ((vs, s2), l2) → vs.length ≤ n := by
  intro n
  induction n with
  | zero =>
    intro s s2 l l2 vs h
    unfold pListE at h
    cases hr : nextW l with
    | error f => rw [hr] at h; cases h
    | ok q =>
      rw [hr] at h
      simp only at h
      split at h
      · injection h with h
        injection h with h _
        injection h with h _
        subst h
        simp
      · split at h <;> cases h
  | succ n ih =>
    intro s s2 l l2 vs h
    unfold pListE at h
    cases hr : nextW l with
    | error f => rw [hr] at h; cases h
    | ok q =>
      rw [hr] at h
      simp only at h
      split at h
      · injection h with h
        injection h with h _
        injection h with h _
        subst h
        simp
      · cases hv : rd s l with
        | error f => rw [hv] at h; cases h
        | ok q =>
          obtain ⟨⟨v, s1⟩, l1⟩ := q
          rw [hv] at h
          simp only at h
          cases hp : pListE rd n s1 l1 with
          | error f => rw [hp] at h; cases h
          | ok p =>
            obtain ⟨⟨ws, s3⟩, l3⟩ := p
            rw [hp] at h
            simp only at h
            injection h with h
            injection h with h _
            injection h with h _
            subst h
            have := ih hp
            simp
            omega
theorem pMany_le {α : Type} {k : Int} {rd : List Wd → Px α} {Q : α → Prop} (hq : ∀ l v l2, rd l = .ok (v, l2) → Q v) : ∀ {n : Nat} {l l2 : List Wd} {vs : List α}, pMany k rd n l = .ok (vs, l2) → vs.length ≤ n ∧ ∀ v ∈ vs, Q v := by
  intro n
  induction n with
  | zero =>
    intro l l2 vs h
    unfold pMany at h
    cases hr : nextW l with
    | error f => rw [hr] at h; cases h
    | ok q =>
      rw [hr] at h
      simp only at h
      split at h
      · injection h with h
        injection h with h _
        subst h
        simp
      · split at h <;> cases h
  | succ n ih =>
    intro l l2 vs h
    unfold pMany at h
    cases hr : nextW l with
    | error f => rw [hr] at h; cases h
    | ok q =>
      rw [hr] at h
      simp only at h
      split at h
      · injection h with h
        injection h with h _
        subst h
        simp
      · cases ht : takeW 40 l with
        | error f => rw [ht] at h; cases h
        | ok q =>
          rw [ht] at h
          simp only at h
          cases hv : rd q.2 with
          | error f => rw [hv] at h; cases h
          | ok q =>
            obtain ⟨v, l1⟩ := q
            rw [hv] at h
            simp only at h
            cases hp : pMany k rd n l1 with
            | error f => rw [hp] at h; cases h
            | ok p =>
              obtain ⟨ws, l3⟩ := p
              rw [hp] at h
              simp only at h
              injection h with h
              injection h with h _
              subst h
              obtain ⟨h1, h2⟩ := ih hp
              refine ⟨by simp; omega, fun y hy => ?_⟩
              rcases List.mem_cons.1 hy with rfl | hy
              · exact hq _ _ _ hv
              · exact h2 y hy
theorem pManyS_le {σ α : Type} {k : Int} {rd : σ → List Wd → Px (α × σ)} {Q : α → Prop} {J : σ → Prop} (hq : ∀ s l v s2 l2, J s → rd s l = .ok ((v, s2), l2) → Q v ∧ J s2) : ∀ {n : Nat} {s s2 : σ} {l l2 : List Wd} {vs : List α}, J s → pManyS k rd n s l = .ok ((vs, s2), l2) → vs.length ≤ n ∧ (∀ v ∈ vs, Q v) ∧ J s2 := by
  intro n
  induction n with
  | zero =>
    intro s s2 l l2 vs hJ h
    unfold pManyS at h
    cases hr : nextW l with
    | error f => rw [hr] at h; cases h
    | ok q =>
      rw [hr] at h
      simp only at h
      split at h
      · injection h with h
        injection h with h _
        injection h with h hs
        subst h
        subst hs
        exact ⟨by simp, by simp, hJ⟩
      · split at h <;> cases h
  | succ n ih =>
    intro s s2 l l2 vs hJ h
    unfold pManyS at h
    cases hr : nextW l with
    | error f => rw [hr] at h; cases h
    | ok q =>
      rw [hr] at h
      simp only at h
      split at h
      · injection h with h
        injection h with h _
        injection h with h hs
        subst h
        subst hs
        exact ⟨by simp, by simp, hJ⟩
      · cases ht : takeW 40 l with
        | error f => rw [ht] at h; cases h
        | ok q =>
          rw [ht] at h
          simp only at h
          cases hv : rd s q.2 with
          | error f => rw [hv] at h; cases h
          | ok q =>
            obtain ⟨⟨v, s1⟩, l1⟩ := q
            rw [hv] at h
            simp only at h
            obtain ⟨q1, q2⟩ := hq _ _ _ _ _ hJ hv
            cases hp : pManyS k rd n s1 l1 with
            | error f => rw [hp] at h; cases h
            | ok p =>
              obtain ⟨⟨ws, s3⟩, l3⟩ := p
              rw [hp] at h
              simp only at h
              injection h with h
              injection h with h _
              injection h with h hs
              subst h
              subst hs
              obtain ⟨h1, h2, h3⟩ := ih q2 hp
              refine ⟨by simp; omega, fun y hy => ?_, h3⟩
              rcases List.mem_cons.1 hy with rfl | hy
              · exact q1
              · exact h2 y hy
theorem pPat_le (l : List Wd) (v : Pt) (l2 : List Wd) (h : pPat l = .ok (v, l2)) : v.terms.length ≤ 6 := by
  obtain ⟨x, l1, _, h⟩ := andP_invX h
  split at h
  · obtain ⟨y, l3, _, h⟩ := andP_invX h
    obtain ⟨z, l4, hz, h⟩ := andP_invX h
    injection h with h
    injection h with h _
    subst h
    exact pList_leR hz
  · obtain ⟨z, l4, hz, h⟩ := andP_invX h
    injection h with h
    injection h with h _
    subst h
    exact pList_leR hz
theorem pAct_le {s s' : ES} {l l' : List Wd} {v : Ac} (h : pAct s l = .ok ((v, s'), l')) : v.args.length ≤ 6 := by
  obtain ⟨x, l1, _, h⟩ := andP_invX h
  split at h
  · obtain ⟨y, l2, _, h⟩ := andP_invX h
    injection h with h
    injection h with h _
    injection h with h _
    subst h
    simp
  · split at h
    · obtain ⟨y, l2, _, h⟩ := andP_invX h
      obtain ⟨⟨vs, s1⟩, l3, hp, h⟩ := andP_invX h
      injection h with h
      injection h with h _
      injection h with h _
      subst h
      exact pListE_le hp
    · split at h
      · obtain ⟨y, l2, _, h⟩ := andP_invX h
        obtain ⟨z, l3, _, h⟩ := andP_invX h
        injection h with h
        injection h with h _
        injection h with h _
        subst h
        simp
      · split at h
        · obtain ⟨y, l2, _, h⟩ := andP_invX h
          obtain ⟨⟨vs, s1⟩, l3, hp, h⟩ := andP_invX h
          injection h with h
          injection h with h _
          injection h with h _
          subst h
          exact pListE_le hp
        · cases h
/-- A rule that was parsed keeps its bounds. -/
structure RuB (x : Ru) : Prop where
  p : x.pats.length ≤ 6
  pt : ∀ y ∈ x.pats, y.terms.length ≤ 6
  e : x.exprs.length ≤ 60
  a : x.acts.length ≤ 8
  ai : ∀ y ∈ x.acts, y.args.length ≤ 6
theorem pRule_le (l : List Wd) (v : Ru) (l2 : List Wd) (h : pRule l = .ok (v, l2)) : RuB v := by
  obtain ⟨x, l1, _, h⟩ := andP_invX h
  split at h
  · obtain ⟨nm, l3, _, h⟩ := andP_invX h
    obtain ⟨sl, l4, _, h⟩ := andP_invX h
    obtain ⟨ps, l5, hps, h⟩ := andP_invX h
    obtain ⟨_, l6, _, h⟩ := andP_invX h
    obtain ⟨⟨acs, es⟩, l7, has, h⟩ := andP_invX h
    obtain ⟨_, l8, _, h⟩ := andP_invX h
    injection h with h
    injection h with h _
    subst h
    obtain ⟨p1, p2⟩ := pMany_le (Q := fun v => v.terms.length ≤ 6) pPat_le hps
    obtain ⟨a1, a2, a3⟩ := pManyS_le (Q := fun v : Ac => v.args.length ≤ 6) (J := fun s : ES => s.1.length ≤ s.2 ∧ s.2 ≤ 60) (fun s l v s2 l2 hJ hp => ⟨pAct_le hp, pAct_inv hJ.1 hJ.2 hp⟩) ⟨by simp, by simp⟩ has
    exact ⟨p1, p2, Nat.le_trans a3.1 a3.2, a1, a2⟩
  · cases h
theorem prR_le {src : Bs} {vs : List Ru} {l : List Wd} (h : prR src = .ok (vs, l)) : vs.length ≤ 16 ∧ ∀ x ∈ vs, RuB x := by
  unfold prR at h
  split at h
  · cases h
  · exact pMany_le (Q := RuB) pRule_le h
end Go.Proofs.YtdhpoagjmiligaaGreatDoor
