/-
  OUR OWN TEXT. Pq9, Pq12, one behind the other.
-/
import Derived.Test.YtognpkdgphebeaaGreatUh
import Derived.Test.YtognpkdgphebeaaGreatUo
import Derived.Test.YtognpkdgphebeaaGreatUn
namespace Go.Proofs.YtognpkdgphebeaaGreat

theorem any_tags {ps : List Pt} {fs : List F} {tags : List Int} (hk : KnR ps [] 0) : ((allM ps fs [⟨[], []⟩] 0).1.any (fun x => decide (x.tags = tags)) = true) ↔ ∃ U ∈ exts (planGo ps [] 0) fs [], U.map (·.tag) = tags := by
  have h := exts_eq fs ps [] [] 0 hk rfl (fun x hx => by simp at hx)
  have h' : (allM ps fs [⟨[], []⟩] 0).1.map (·.tags) = (exts (planGo ps [] 0) fs []).map (fun U => U.map (·.tag)) := h
  rw [List.any_eq_true]
  constructor
  · rintro ⟨x, hx, hd⟩
    have hm : x.tags ∈ (allM ps fs [⟨[], []⟩] 0).1.map (·.tags) := List.mem_map.2 ⟨x, hx, rfl⟩
    rw [h'] at hm
    obtain ⟨U, hU, he⟩ := List.mem_map.1 hm
    exact ⟨U, hU, he.trans (of_decide_eq_true hd)⟩
  · rintro ⟨U, hU, he⟩
    have hm : U.map (·.tag) ∈ (exts (planGo ps [] 0) fs []).map (fun U => U.map (·.tag)) := List.mem_map.2 ⟨U, hU, rfl⟩
    rw [← h'] at hm
    obtain ⟨x, hx, hx2⟩ := List.mem_map.1 hm
    exact ⟨x, hx, decide_eq_true (hx2.trans he)⟩
theorem exts_mem {ps : List Pt} {fs : List F} {U : List F} : U ∈ exts (planGo ps [] 0) fs [] ↔ (U.length = positives ps ∧ (∀ f ∈ U, f ∈ fs) ∧ (planGo ps [] 0).all (okP fs U) = true) := mem_exts fs ps [] [] U (fun x hx => by simp at hx)
theorem map_tag_inj {fs : List F} (hd : ∀ f ∈ fs, ∀ g ∈ fs, f.tag = g.tag → f = g) : ∀ (U W : List F), (∀ f ∈ U, f ∈ fs) → (∀ f ∈ W, f ∈ fs) → U.map (·.tag) = W.map (·.tag) → U = W
  | [], [], _, _, _ => rfl
  | [], _ :: _, _, _, h => by simp at h
  | _ :: _, [], _, _, h => by simp at h
  | a :: U, b :: W, hU, hW, h => by
    simp only [List.map_cons, List.cons.injEq] at h
    rw [hd a (hU a List.mem_cons_self) b (hW b List.mem_cons_self) h.1, map_tag_inj hd U W (fun f hf => hU f (List.mem_cons_of_mem _ hf)) (fun f hf => hW f (List.mem_cons_of_mem _ hf)) h.2]
/-- The tags of facts that are there. -/
theorem holds_found {r : Ru} {fs W : List F} (hr : ready [r] fs = true) (hd : ∀ f ∈ fs, ∀ g ∈ fs, f.tag = g.tag → f = g) (hW : ∀ f ∈ W, f ∈ fs) (hlen : W.length = positives r.pats) : holdsM r fs (W.map (·.tag)) = (planGo r.pats [] 0).all (okP fs W) := by
  have hk : KnR r.pats [] 0 := chk_known (ready_small hr).1 (List.mem_singleton.2 rfl)
  unfold holdsM
  rw [hr, Bool.true_and]
  have h1 := any_tags (fs := fs) (tags := W.map (·.tag)) hk
  cases ho : (planGo r.pats [] 0).all (okP fs W)
  · cases ha : (allM r.pats fs [⟨[], []⟩] 0).1.any (fun x => decide (x.tags = W.map (·.tag)))
    · rfl
    · obtain ⟨U, hU, he⟩ := h1.1 ha
      obtain ⟨u1, u2, u3⟩ := exts_mem.1 hU
      rw [map_tag_inj hd U W u2 hW he, ho] at u3
      cases u3
  · exact h1.2 ⟨W, exts_mem.2 ⟨hlen, hW, ho⟩, rfl⟩
/-- Another number of tags. -/
theorem holds_number {r : Ru} {fs : List F} {tags : List Int} (hlen : tags.length ≠ positives r.pats) : holdsM r fs tags = false := by
  unfold holdsM
  cases hr : ready [r] fs
  · rfl
  · rw [Bool.true_and]
    have hk : KnR r.pats [] 0 := chk_known (ready_small hr).1 (List.mem_singleton.2 rfl)
    cases ha : (allM r.pats fs [⟨[], []⟩] 0).1.any (fun x => decide (x.tags = tags))
    · rfl
    · obtain ⟨U, hU, he⟩ := (any_tags hk).1 ha
      obtain ⟨u1, _, _⟩ := exts_mem.1 hU
      exact absurd (by rw [← he, List.length_map, u1]) hlen
/-- A tag that no fact has. -/
theorem holds_lost {r : Ru} {fs : List F} {tags : List Int} {t : Int} (ht : t ∈ tags) (hno : ∀ f ∈ fs, f.tag ≠ t) : holdsM r fs tags = false := by
  unfold holdsM
  cases hr : ready [r] fs
  · rfl
  · rw [Bool.true_and]
    have hk : KnR r.pats [] 0 := chk_known (ready_small hr).1 (List.mem_singleton.2 rfl)
    cases ha : (allM r.pats fs [⟨[], []⟩] 0).1.any (fun x => decide (x.tags = tags))
    · rfl
    · obtain ⟨U, hU, he⟩ := (any_tags hk).1 ha
      obtain ⟨_, u2, _⟩ := exts_mem.1 hU
      rw [← he] at ht
      obtain ⟨f, hf, hf2⟩ := List.mem_map.1 ht
      exact absurd hf2 (hno f (u2 f hf))
end Go.Proofs.YtognpkdgphebeaaGreat

namespace Go.Proofs.YtognpkdgphebeaaGreat

theorem exts_pm (fs : List F) : ∀ (ps : List Pt) (T : List F) (vs : List Vr) (m : Nat), KnR ps vs T.length → lookV vs ⟨#[]⟩ = none → (∀ x ∈ vs, x.fact < T.length) →
    (allM ps fs [⟨T.map (·.tag), envB T vs⟩] m).1 = (exts (planGo ps vs T.length) fs T).map (fun U => (⟨U.map (·.tag), envB U (varsGo ps vs T.length)⟩ : Pm))
  | [], T, vs, m, _, _, _ => rfl
  | p :: ps, T, vs, m, hk, hE, hT => by
    obtain ⟨hg, hK, hrest⟩ := hk
    have hh := hits_eq hg hE hK hT ⟨p.neg, T.length, alphaOf p, jtsUpTo vs p.terms p.terms.length⟩ rfl rfl fs
    rw [varsGo_cons]
    simp only [allM, planGo, exts]
    have hn : nextM p fs [⟨T.map (·.tag), envB T vs⟩] = nextOf p fs ⟨T.map (·.tag), envB T vs⟩ := by simp [nextM]
    rw [hn]
    unfold nextOf
    by_cases hneg : p.neg = true
    · rw [if_pos hneg, if_pos hneg, if_pos hneg, if_pos hneg]
      rw [if_pos hneg] at hrest
      rw [hh]
      by_cases ha : fs.any (lets ⟨p.neg, T.length, alphaOf p, jtsUpTo vs p.terms p.terms.length⟩ T) = true
      · rw [if_pos ha, if_neg (by
          obtain ⟨f, hf, hf2⟩ := List.any_eq_true.1 ha
          have := List.length_pos_of_mem (List.mem_filter.2 ⟨hf, hf2⟩)
          rw [List.length_map]
          omega), allM_nil]
        rfl
      · rw [if_neg ha, if_pos (by
          rw [List.length_map, List.length_eq_zero_iff, List.filter_eq_nil_iff]
          intro f hf h2
          exact ha (List.any_eq_true.2 ⟨f, hf, h2⟩))]
        exact exts_pm fs ps T vs _ hrest hE hT
    · rw [if_neg hneg, if_neg hneg, if_neg hneg, if_neg hneg]
      rw [if_neg hneg] at hrest
      rw [hh, allM_flat, List.flatMap_map, List.map_flatMap]
      congr 1
      funext f
      have hE2 : lookV (bindUpTo vs p.terms T.length p.terms.length) ⟨#[]⟩ = none := (lookV_bind _ _ (Nat.le_refl _)).2 ⟨hE, earlier_empty (gPt_terms hg) _ (Nat.le_refl _)⟩
      have := exts_pm fs ps (T ++ [f]) (bindUpTo vs p.terms T.length p.terms.length) 0 (by simpa using hrest) hE2 (fun x hx => by simpa using bind_facts hT p.terms.length x hx)
      simpa using this
theorem all_pm {fs : List F} {ps : List Pt} (hk : KnR ps [] 0) : (allM ps fs [⟨[], []⟩] 0).1 = (exts (planGo ps [] 0) fs []).map (fun U => (⟨U.map (·.tag), envB U (varsGo ps [] 0)⟩ : Pm)) := exts_pm fs ps [] [] 0 hk rfl (fun x hx => by simp at hx)
theorem binds_found {r : Ru} {fs W : List F} (hr : ready [r] fs = true) (hd : ∀ f ∈ fs, ∀ g ∈ fs, f.tag = g.tag → f = g) (hW : ∀ f ∈ W, f ∈ fs) (hh : holdsM r fs (W.map (·.tag)) = true) : bindsM r fs (W.map (·.tag)) = envB W (varsGo r.pats [] 0) := by
  have hk : KnR r.pats [] 0 := chk_known (ready_small hr).1 (List.mem_singleton.2 rfl)
  unfold bindsM
  rw [if_pos hr]
  unfold holdsM at hh
  rw [hr, Bool.true_and] at hh
  cases hf : (allM r.pats fs [⟨[], []⟩] 0).1.find? (fun x => decide (x.tags = W.map (·.tag))) with
  | none =>
    have h1 := List.find?_eq_none.1 hf
    obtain ⟨x, hx, h2⟩ := List.any_eq_true.1 hh
    exact absurd h2 (h1 x hx)
  | some x =>
    have h1 := List.mem_of_find?_eq_some hf
    have h2 := List.find?_some hf
    rw [all_pm hk] at h1
    obtain ⟨U, hU, rfl⟩ := List.mem_map.1 h1
    obtain ⟨_, u2, _⟩ := exts_mem.1 hU
    have e := map_tag_inj hd U W u2 hW (of_decide_eq_true h2)
    rw [e]
    rfl
theorem vars_in (fs U : List F) : ∀ (ps : List Pt) (vs : List Vr) (n : Nat), KnR ps vs n → VIn U vs → n + positives ps ≤ U.length → (planGo ps vs n).all (okP fs U) = true → VIn U (varsGo ps vs n)
  | [], _, _, _, hV, _, _ => hV
  | p :: ps, vs, n, hk, hV, hn, hok => by
    obtain ⟨hg, _, hrest⟩ := hk
    rw [planGo_cons, List.all_cons, Bool.and_eq_true] at hok
    rw [varsGo_cons]
    by_cases hneg : p.neg = true
    · have hpos : positives (p :: ps) = positives ps := by simp [positives, pos1, hneg]
      rw [if_pos hneg] at hrest hok ⊢
      exact vars_in fs U ps vs n hrest hV (by omega) hok.2
    · have hpos : positives (p :: ps) = positives ps + 1 := by simp [positives, pos1, hneg]
      rw [if_neg hneg] at hrest hok ⊢
      obtain ⟨f, hf⟩ : ∃ f, U[n]? = some f := ⟨U[n], by simp⟩
      have hp : passes (alphaOf p) f = true := by
        have h0 := hok.1
        unfold okP at h0
        rw [if_neg hneg] at h0
        simp only [hf, lets, Bool.and_eq_true] at h0
        exact h0.1
      exact vars_in fs U ps _ (n + 1) hrest (bind_in hV hf (passes_terms hg hp) _ (Nat.le_refl _)) (by omega) hok.2
/-- The variables of a match are there. -/
theorem vars_match {r : Ru} {fs W : List F} (hr : ready [r] fs = true) (hd : ∀ f ∈ fs, ∀ g ∈ fs, f.tag = g.tag → f = g) (hW : ∀ f ∈ W, f ∈ fs) (hlen : W.length = positives r.pats) (hh : holdsM r fs (W.map (·.tag)) = true) : VIn W (varsGo r.pats [] 0) := by
  have hk : KnR r.pats [] 0 := chk_known (ready_small hr).1 (List.mem_singleton.2 rfl)
  rw [holds_found hr hd hW hlen] at hh
  exact vars_in fs W r.pats [] 0 hk (fun v hv => by simp at hv) (by omega) hh
theorem varsGo_len : ∀ (ps : List Pt) (vs : List Vr) (n : Nat), (∀ p ∈ ps, p.terms.length ≤ 6) → (varsGo ps vs n).length ≤ vs.length + 6 * ps.length
  | [], _, _, _ => Nat.le_refl _
  | p :: ps, vs, n, h => by
    have hr : ∀ q ∈ ps, q.terms.length ≤ 6 := fun q hq => h q (by simp [hq])
    have h6 := h p (by simp)
    rw [varsGo_cons]
    split
    · have := varsGo_len ps vs n hr
      simp
      omega
    · have h1 := varsGo_len ps (bindUpTo vs p.terms n p.terms.length) (n + 1) hr
      have h2 := bindUpTo_len vs p.terms n p.terms.length
      simp
      omega
theorem binds_lost {r : Ru} {fs : List F} {tags : List Int} (hh : holdsM r fs tags = false) : bindsM r fs tags = [] := by
  unfold bindsM
  by_cases hr : ready [r] fs = true
  · rw [if_pos hr]
    unfold holdsM at hh
    rw [hr, Bool.true_and] at hh
    rw [List.find?_eq_none.2 (fun x hx h => by
      have h2 : (allM r.pats fs [⟨[], []⟩] 0).1.any (fun x => decide (x.tags = tags)) = true := List.any_eq_true.2 ⟨x, hx, h⟩
      rw [hh] at h2
      cases h2)]
    rfl
  · rw [if_neg hr]
end Go.Proofs.YtognpkdgphebeaaGreat
