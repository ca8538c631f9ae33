/-
  OUR OWN TEXT. Pq7, Pq8, Pq10, Pq11, one behind the other.
-/
import Derived.Test.YtognpkdgphebeaaGreatUg
import Derived.Test.YtognpkdgphebeaaGreatMs1m
import Derived.Test.YtognpkdgphebeaaGreatUb
namespace Go.Proofs.YtognpkdgphebeaaGreat

theorem memB_append (s : ByteArray) (l : List ByteArray) (x : ByteArray) : memB s (l ++ [x]) = (memB s l || decide (x = s)) := by simp [memB]
theorem asks_iff {t : Tm} : asks t = true ↔ t.kind = 3 ∧ t.var ≠ ⟨#[]⟩ := by
  unfold asks isE
  constructor
  · intro h
    simp only [Bool.and_eq_true, beq_iff_eq, Bool.not_eq_true'] at h
    exact ⟨h.1, fun e => by rw [isE_iff.2 e] at h; cases h.2⟩
  · rintro ⟨h1, h2⟩
    simp only [Bool.and_eq_true, beq_iff_eq, Bool.not_eq_true']
    refine ⟨h1, ?_⟩
    cases he : t.var.toList.isEmpty
    · rfl
    · exact absurd (isE_iff.1 he) h2
/-- Names that are known, beside the plan's variables and a pattern's terms. -/
def KnI (vs : List Vr) (ts : List Tm) (i : Nat) (here : List ByteArray) : Prop := ∀ name, memB name here = true ↔ (lookV vs name ≠ none ∨ earlier ts i name ≠ none)
theorem terms_known {vs : List Vr} {ts : List Tm} : ∀ (d i : Nat) (here h : List ByteArray), i + d = ts.length → KnI vs ts i here → termsGo (ts.drop i) here = some h →
    (∀ j t, i ≤ j → ts[j]? = some t → t.kind = 3 → t.var ≠ ⟨#[]⟩ → lookV vs t.var ≠ none ∨ earlier ts j t.var ≠ none) ∧ KnI vs ts ts.length h
  | 0, i, here, h, hi, hk, hg => by
    have : i = ts.length := by omega
    subst this
    rw [List.drop_eq_nil_of_le (Nat.le_refl _)] at hg
    simp only [termsGo] at hg
    injection hg with hg
    subst hg
    exact ⟨fun j t hj ht => by have := (List.getElem?_eq_some_iff.1 ht).1; omega, hk⟩
  | d + 1, i, here, h, hi, hk, hg => by
    obtain ⟨t, ht⟩ : ∃ t, ts[i]? = some t := ⟨ts[i], by simp⟩
    rw [drop_cons ht] at hg
    simp only [termsGo] at hg
    split at hg
    · cases hg
    · rename_i hno
      have hk' : KnI vs ts (i + 1) (if t.kind == 2 then here ++ [t.var] else here) := by
        intro name
        rw [earlier_succ ht]
        by_cases h2 : t.kind = 2
        · rw [if_pos (by simpa using h2), memB_append, Bool.or_eq_true, hk name]
          cases he : earlier ts i name with
          | some j => simp
          | none =>
            by_cases hv : t.var = name
            · rw [if_pos (isVar_iff.2 ⟨h2, hv⟩)]
              simp [hv]
            · rw [if_neg (fun e => hv (isVar_iff.1 e).2)]
              simp [hv]
        · rw [if_neg (by simpa using h2), hk name, if_neg (fun e => h2 (isVar_iff.1 e).1)]
          cases earlier ts i name <;> simp
      obtain ⟨r1, r2⟩ := terms_known d (i + 1) _ h (by omega) hk' hg
      refine ⟨fun j u hj hu h3 hv => ?_, r2⟩
      by_cases hji : j = i
      · subst hji
        rw [ht] at hu
        injection hu with hu
        subst hu
        have ha := asks_iff.2 ⟨h3, hv⟩
        rw [ha] at hno
        simp at hno
        exact (hk t.var).1 hno
      · exact r1 j u (by omega) hu h3 hv
theorem pats_known : ∀ (ps : List Pt) (vs : List Vr) (n : Nat) (known out : List ByteArray) (k : Nat), (∀ p ∈ ps, gPt p = true) → (∀ name, memB name known = true ↔ lookV vs name ≠ none) → patsGo ps known k = .inr out → KnR ps vs n
  | [], _, _, _, _, _, _, _, _ => trivial
  | p :: ps, vs, n, known, out, k, hg, hk, h => by
    simp only [patsGo] at h
    cases ht : termsGo p.terms known with
    | none => rw [ht] at h; cases h
    | some here =>
      rw [ht] at h
      simp only at h
      obtain ⟨r1, r2⟩ := terms_known (vs := vs) (ts := p.terms) p.terms.length 0 known here (by omega) (fun name => by rw [hk name]; simp [earlier, firstVar]) (by simpa using ht)
      refine ⟨hg p List.mem_cons_self, fun i t hi h3 hv => r1 i t (Nat.zero_le _) hi h3 hv, ?_⟩
      split
      · rename_i hneg
        rw [if_pos hneg] at h
        exact pats_known ps vs n known out (k + 1) (fun q hq => hg q (List.mem_cons_of_mem _ hq)) hk h
      · rename_i hneg
        rw [if_neg hneg] at h
        refine pats_known ps _ (n + 1) here out (k + 1) (fun q hq => hg q (List.mem_cons_of_mem _ hq)) (fun name => ?_) h
        rw [r2 name, Ne, Ne, Ne, lookV_bind name _ (Nat.le_refl _)]
        by_cases h1 : lookV vs name = none <;> simp [h1]
theorem chkGo_scope : ∀ (rs pre : List Ru) (k : Nat), (chkGo pre rs k).1 = 0 → ∀ r ∈ rs, scope r = none
  | [], _, _, _, r, hr => by simp at hr
  | x :: s, pre, k, h, r, hr => by
    simp only [chkGo] at h
    split at h
    · rename_i h0
      rcases List.mem_cons.1 hr with rfl | hr
      · unfold chk1 at h0
        split at h0
        · simp at h0
        · split at h0
          · simp at h0
          · split at h0
            · split at h0
              · simp at h0
              · assumption
            · simp at h0
      · exact chkGo_scope s _ _ h r hr
    · rename_i h0
      exact absurd h h0
/-- A checked rule's patterns. -/
theorem chk_known {rs : List Ru} (h : (chk rs).1 = 0) {r : Ru} (hr : r ∈ rs) : KnR r.pats [] 0 := by
  obtain ⟨h1, _⟩ := (chk_each h).2 r hr
  have hs : scope r = none := by
    unfold chk at h
    split at h
    · exact chkGo_scope rs [] 0 h r hr
    · simp at h
  unfold scope at hs
  cases hp : patsGo r.pats [] 1 with
  | inl i => rw [hp] at hs; cases hs
  | inr known => exact pats_known r.pats [] 0 [] known 1 (shape_pats h1).2 (fun name => by simp [memB, lookV]) hp
end Go.Proofs.YtognpkdgphebeaaGreat

namespace Go.Proofs.YtognpkdgphebeaaGreat

theorem lookV_mem {s : ByteArray} {v : Vr} : ∀ {vs : List Vr}, lookV vs s = some v → v ∈ vs
  | [], h => by simp [lookV] at h
  | x :: r, h => by
    rw [lookV_cons] at h
    by_cases hx : x.name = s
    · rw [if_pos hx] at h
      injection h with h
      subst h
      exact List.mem_cons_self
    · rw [if_neg hx] at h
      exact List.mem_cons_of_mem _ (lookV_mem h)
end Go.Proofs.YtognpkdgphebeaaGreat

namespace Go.Proofs.YtognpkdgphebeaaGreat

theorem jts_in {vs : List Vr} {ts : List Tm} : ∀ k, ∀ t ∈ jtsUpTo vs ts k, t.slot < k ∧ ∃ v ∈ vs, t.fact = v.fact ∧ t.at_ = v.slot
  | 0, t, ht => by simp [jtsUpTo] at ht
  | k + 1, t, ht => by
    simp only [jtsUpTo, List.mem_append] at ht
    rcases ht with ht | ht
    · obtain ⟨h1, h2⟩ := jts_in k t ht
      exact ⟨by omega, h2⟩
    · cases hk : ts[k]? with
      | none => rw [hk] at ht; simp at ht
      | some u =>
        rw [hk] at ht
        simp only [jtOf] at ht
        cases hl : lookV vs u.var with
        | none => rw [hl] at ht; simp at ht
        | some v =>
          rw [hl] at ht
          simp only at ht
          have hv : v ∈ vs := lookV_mem hl
          cases he : earlier ts k u.var with
          | some j => rw [he] at ht; simp at ht
          | none =>
            rw [he] at ht
            simp at ht
            subst ht
            exact ⟨by simp, v, hv, rfl, rfl⟩
theorem passes_terms {p : Pt} {f : F} (hg : gPt p = true) (h : passes (alphaOf p) f = true) : f.slots.length = p.terms.length := by
  rw [show alphaOf p = ⟨p.cls, (p.terms.length : Int), testsUpTo p.terms p.terms.length⟩ from if_pos hg] at h
  unfold passes at h
  simp only [Bool.and_eq_true, decide_eq_true_eq] at h
  omega
/-- The variables' places are there. -/
def VIn (U : List F) (vs : List Vr) : Prop := ∀ v ∈ vs, ∃ g, U[v.fact]? = some g ∧ v.slot < g.slots.length
theorem bind_in {U : List F} {vs : List Vr} {ts : List Tm} {n : Nat} {g : F} (h : VIn U vs) (hg : U[n]? = some g) (hl : g.slots.length = ts.length) : ∀ i, i ≤ ts.length → VIn U (bindUpTo vs ts n i)
  | 0, _ => h
  | i + 1, hi => by
    intro v hv
    obtain ⟨t, ht⟩ : ∃ t, ts[i]? = some t := ⟨ts[i], by simp⟩
    rw [bindUpTo_succ ht] at hv
    split at hv
    · rcases List.mem_append.1 hv with hv | hv
      · exact bind_in h hg hl i (by omega) v hv
      · simp at hv
        subst hv
        exact ⟨g, hg, by simp only; omega⟩
    · exact bind_in h hg hl i (by omega) v hv
theorem tests_fit {U : List F} {vs : List Vr} {p : Pt} {f : F} (h : VIn U vs) (hg : gPt p = true) (hp : passes (alphaOf p) f = true) : ∀ t ∈ jtsUpTo vs p.terms p.terms.length, t.fits U f := by
  intro t ht
  obtain ⟨h1, v, hv, e1, e2⟩ := jts_in _ t ht
  obtain ⟨g, hg1, hg2⟩ := h v hv
  exact ⟨by rw [passes_terms hg hp]; exact h1, g, by rw [e1]; exact hg1, by rw [e2]; exact hg2⟩
end Go.Proofs.YtognpkdgphebeaaGreat

namespace Go.Proofs.YtognpkdgphebeaaGreat

/-- A condition with its node is the one without, its facts those that pass. -/
def CnCp (fs : List F) (c : Cn) (d : Cp) : Prop := c.neg = d.neg ∧ c.at_ = d.at_ ∧ c.tests = d.tests ∧ c.alpha = d.alpha ∧ c.facts = fs.filter (passes d.alpha)
theorem any_filterP {α : Type} {p q : α → Bool} : ∀ l : List α, (l.filter p).any q = l.any (fun x => p x && q x)
  | [] => rfl
  | x :: r => by
    by_cases h : p x = true
    · rw [List.filter_cons_of_pos h, List.any_cons, List.any_cons, any_filterP r, h]; rfl
    · rw [List.filter_cons_of_neg h, List.any_cons, any_filterP r, show p x = false by simpa using h]; rfl
end Go.Proofs.YtognpkdgphebeaaGreat
