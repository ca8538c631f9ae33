/-
  OUR OWN TEXT. Mm6, Pq9, Mm7, Pq12, one behind the other.
-/
import Derived.Test.YtognpkdgphebeaaGreatOb
import Derived.Test.YtognpkdgphebeaaGreatUh
import Derived.Test.YtognpkdgphebeaaGreatUn
namespace Go.Proofs.YtognpkdgphebeaaGreat
open Go.RowKit
attribute [local go_sem ↓] Go.wp_at_zero Go.wp_at_succ

theorem cells5M {w : World} {b : Nat} {ty : TypeId} {x0 x1 x2 x3 x4 : Value} (h : w.heap[b]? = some (.cells #[x0, x1, x2, x3, x4] ty (0, 0))) : w.cell? ⟨b, 0, none⟩ = some x0 ∧ w.cell? ⟨b, 1, none⟩ = some x1 ∧ w.cell? ⟨b, 2, none⟩ = some x2 ∧ w.cell? ⟨b, 3, none⟩ = some x3 ∧ w.cell? ⟨b, 4, none⟩ = some x4 := by
  refine ⟨?_, ?_, ?_, ?_, ?_⟩ <;> simp [World.cell?, h]
end Go.Proofs.YtognpkdgphebeaaGreat

namespace Go.Proofs.YtognpkdgphebeaaGreat

end Go.Proofs.YtognpkdgphebeaaGreat

namespace Go.Proofs.YtognpkdgphebeaaGreat
open Go.RowKit
attribute [local go_sem ↓] Go.wp_at_zero Go.wp_at_succ

/-- What the model's Bindings leaves. -/
def BnPost (bs : List Bd) (w : World) (e : Ending) (w' : World) : Prop := (∃ a c, e = .returned (.slice a bs.length c) ∧ w'.ownsRow w.heap.size 106 4 (.slice a bs.length c) bs.length (bs.flatMap bdCells)) ∧ Below w.heap.size w w'
theorem BnPost.nil {bs : List Bd} {w w' : World} (h1 : bs = []) (h3 : Below w.heap.size w w') : BnPost bs w (.returned (.slice none 0 0)) w' := by
  subst h1
  exact ⟨⟨none, 0, rfl, World.ownsRow_nil _ _ _ _⟩, h3⟩
end Go.Proofs.YtognpkdgphebeaaGreat

namespace Go.Proofs.YtognpkdgphebeaaGreat

theorem exts_pm (fs : List F) : ∀ (ps : List Pt) (T : List F) (vs : List Vr) (m : Nat), KnR ps vs T.length → lookV vs ⟨#[]⟩ = none → (∀ x ∈ vs, x.fact < T.length) →
    (allM ps fs [⟨T.map (·.tag), envB T vs⟩] m).1 = (exts (planGo ps vs T.length) fs T).map (fun U => (⟨U.map (·.tag), envB U (varsGo ps vs T.length)⟩ : Pm))
  | [], T, vs, m, _, _, _ => rfl
  | p :: ps, T, vs, m, hk, hE, hT => by
    obtain ⟨hg, hK, hrest⟩ := hk
    have hh := hits_eq hg hE hK hT ⟨p.neg, T.length, alphaOf p, jtsUpTo vs p.terms p.terms.length⟩ rfl rfl fs
    rw [varsGo_cons]
    simp only [allM, planGo, exts]
    have hn : nextM p fs [⟨T.map (·.tag), envB T vs⟩] = nextOf p fs ⟨T.map (·.tag), envB T vs⟩ := by simp [nextM]
    rw [hn]
    unfold nextOf
    by_cases hneg : p.neg = true
    · rw [if_pos hneg, if_pos hneg, if_pos hneg, if_pos hneg]
      rw [if_pos hneg] at hrest
      rw [hh]
      by_cases ha : fs.any (lets ⟨p.neg, T.length, alphaOf p, jtsUpTo vs p.terms p.terms.length⟩ T) = true
      · rw [if_pos ha, if_neg (by
          obtain ⟨f, hf, hf2⟩ := List.any_eq_true.1 ha
          have := List.length_pos_of_mem (List.mem_filter.2 ⟨hf, hf2⟩)
          rw [List.length_map]
          omega), allM_nil]
        rfl
      · rw [if_neg ha, if_pos (by
          rw [List.length_map, List.length_eq_zero_iff, List.filter_eq_nil_iff]
          intro f hf h2
          exact ha (List.any_eq_true.2 ⟨f, hf, h2⟩))]
        exact exts_pm fs ps T vs _ hrest hE hT
    · rw [if_neg hneg, if_neg hneg, if_neg hneg, if_neg hneg]
      rw [if_neg hneg] at hrest
      rw [hh, allM_flat, List.flatMap_map, List.map_flatMap]
      congr 1
      funext f
      have hE2 : lookV (bindUpTo vs p.terms T.length p.terms.length) ⟨#[]⟩ = none := (lookV_bind _ _ (Nat.le_refl _)).2 ⟨hE, earlier_empty (gPt_terms hg) _ (Nat.le_refl _)⟩
      have := exts_pm fs ps (T ++ [f]) (bindUpTo vs p.terms T.length p.terms.length) 0 (by simpa using hrest) hE2 (fun x hx => by simpa using bind_facts hT p.terms.length x hx)
      simpa using this
theorem all_pm {fs : List F} {ps : List Pt} (hk : KnR ps [] 0) : (allM ps fs [⟨[], []⟩] 0).1 = (exts (planGo ps [] 0) fs []).map (fun U => (⟨U.map (·.tag), envB U (varsGo ps [] 0)⟩ : Pm)) := exts_pm fs ps [] [] 0 hk rfl (fun x hx => by simp at hx)
end Go.Proofs.YtognpkdgphebeaaGreat
