/-
  OUR OWN TEXT. Pg7, Pg8, Tk1, one behind the other.
-/
import Derived.Test.YtognpkdgphebeaaGreatUb
import Derived.Test.YtognpkdgphebeaaGreatUc
import Derived.Test.YtognpkdgphebeaaGreatUh
namespace Go.Proofs.YtognpkdgphebeaaGreat
open Go.RowKit
attribute [local go_sem ↓] Go.wp_at_zero Go.wp_at_succ

/-- A token's pointers with one written. -/
def setP (i : Nat) (x p0 p1 p2 : Value) : Array Value := #[if i = 0 then x else p0, if i = 1 then x else p1, if i = 2 then x else p2]
set_option maxHeartbeats 3200000 in
theorem tokWith_any (p0 p1 p2 : Option Addr) (x : Option Addr) (i : Nat) (w : World) (hi : i < 3) :
    Calls Tryz.prog 97 #[.agg #[.pointer p0, .pointer p1, .pointer p2], .int .i64 (i : Int), .pointer x] w fun e w' => e = .returned (.agg (setP i (.pointer x) (.pointer p0) (.pointer p1) (.pointer p2))) ∧ Below w.heap.size w w' := by
  go_enter Tryz.func97, Tryz.ntmps97
  go_upto_region 1 with fail
  refine lift2P ?_
  intro w0 hW0 hq0 hq1
  have f0 : ∀ j, w0.frozen? ⟨w.heap.size, j, none⟩ = false := fun j => by simp [World.frozen?, hq0]
  have g0 : ∀ j, w0.frozen? ⟨w.heap.size + 1, j, none⟩ = false := fun j => by simp [World.frozen?, hq1]
  obtain ⟨a0, a1, a2⟩ := cells3P hq0
  obtain ⟨b0, b1, b2⟩ := cells3P hq1
  have x0 := f0 0
  have x1 := f0 1
  have x2 := f0 2
  have y0 := g0 0
  have y1 := g0 1
  have y2 := g0 2
  have B0 := hidP hW0
  have hl : w.heap.size + 1 < w0.heap.size := lt_of_block' hq1
  clear hW0 hq0 hq1 f0 g0
  rcases i with _ | _ | _ | i
  · go_wp2_with fail
    refine bodyPost_ret (v := .agg (setP 0 (.pointer x) (.pointer p0) (.pointer p1) (.pointer p2))) (by simp [results, Tryz.results97, go_sem, setP, *]) rfl ⟨rfl, ?_⟩
    exact (((B0.out.setCell (by simp) _).setCell (by simp) _).setCell (by simp) _).setCell (by simp) _
  · go_wp2_with fail
    refine bodyPost_ret (v := .agg (setP 1 (.pointer x) (.pointer p0) (.pointer p1) (.pointer p2))) (by simp [results, Tryz.results97, go_sem, setP, *]) rfl ⟨rfl, ?_⟩
    exact (((B0.out.setCell (by simp) _).setCell (by simp) _).setCell (by simp) _).setCell (by simp) _
  · go_wp2_with fail
    refine bodyPost_ret (v := .agg (setP 2 (.pointer x) (.pointer p0) (.pointer p1) (.pointer p2))) (by simp [results, Tryz.results97, go_sem, setP, *]) rfl ⟨rfl, ?_⟩
    exact (((B0.out.setCell (by simp) _).setCell (by simp) _).setCell (by simp) _).setCell (by simp) _
  · omega
end Go.Proofs.YtognpkdgphebeaaGreat

namespace Go.Proofs.YtognpkdgphebeaaGreat
open Go.RowKit
attribute [local go_sem ↓] Go.wp_at_zero Go.wp_at_succ

theorem cells2P' {w : World} {b : Nat} {ty : TypeId} {x0 x1 : Value} (h : w.heap[b]? = some (.cells #[x0, x1] ty (0, 0))) : w.cell? ⟨b, 0, none⟩ = some x0 ∧ w.cell? ⟨b, 1, none⟩ = some x1 := by
  refine ⟨?_, ?_⟩ <;> simp [World.cell?, h]
set_option maxHeartbeats 1600000 in
theorem choice_any (k nb : Nat) (ng ct ts : Value) (fa : Option Addr) (n fc : Nat) (w : World) (hn : w.cell? ⟨nb, 4, none⟩ = some (.slice fa n fc)) :
    Calls Tryz.prog 95 #[.agg #[.int .i64 (-1), .pointer none], .int .i64 (k : Int), .agg #[ng, ct, .pointer (some ⟨nb, 0, none⟩), ts]] w fun e w' => e = .returned (.slice fa n fc) ∧ Below w.heap.size w w' := by
  have e1 : ((k : Int) == -1) = false := by simp
  go_enter Tryz.func95, Tryz.ntmps95
  go_upto_region 1 with fail
  refine lift2P ?_
  intro w0 hW0 hq0 hq1
  obtain ⟨a0, a1⟩ := cells2P' hq0
  obtain ⟨_, _, c2, _⟩ := cells4P hq1
  have n4 := cell_below hW0 hn
  have B0 := hidP hW0
  clear hW0 hq0 hq1 hn
  go_wp2_with fail
  go_ret
  exact ⟨rfl, B0.out⟩
set_option maxHeartbeats 1600000 in
theorem misses_any (k : Nat) (ng ct nd ts p0 p1 p2 : Value) (w : World) :
    Calls Tryz.prog 93 #[.agg #[.int .i64 (-1), .pointer none], .int .i64 (k : Int), .agg #[ng, ct, nd, ts], .agg #[p0, p1, p2]] w fun e w' => e = .returned (.bool false) ∧ Below w.heap.size w w' := by
  have e1 : ((k : Int) == -1) = false := by simp
  go_enter Tryz.func93, Tryz.ntmps93
  go_upto_region 1 with fail
  refine lift3P ?_
  intro w0 hW0 hq0 hq1 hq2
  obtain ⟨a0, a1⟩ := cells2P' hq0
  have B0 := hidP hW0
  clear hW0 hq0 hq1 hq2
  go_wp2_with fail
  go_ret
  exact ⟨rfl, B0.out⟩
end Go.Proofs.YtognpkdgphebeaaGreat

namespace Go.Proofs.YtognpkdgphebeaaGreat

/-- The tokens that conditions let through, each with the facts of its node. -/
def extsC : List Cn → List F → List (List F)
  | [], T => [T]
  | c :: cs, T => if c.neg = true then (if c.facts.any (fun f => c.tests.all (jHolds T f)) = true then [] else extsC cs T) else c.facts.flatMap (fun f => if c.tests.all (jHolds T f) = true then extsC cs (T ++ [f]) else [])
theorem extsC_neg {c : Cn} {cs : List Cn} {T : List F} (h : c.neg = true) : extsC (c :: cs) T = if c.facts.any (fun f => c.tests.all (jHolds T f)) = true then [] else extsC cs T := by
  simp only [extsC]
  rw [if_pos h]
theorem extsC_pos {c : Cn} {cs : List Cn} {T : List F} (h : c.neg = false) : extsC (c :: cs) T = c.facts.flatMap (fun f => if c.tests.all (jHolds T f) = true then extsC cs (T ++ [f]) else []) := by
  simp only [extsC]
  rw [if_neg (by rw [h]; simp)]
theorem flat_filter {α β : Type} (p q : α → Bool) (g : α → List β) : ∀ l : List α, (l.filter p).flatMap (fun x => if q x = true then g x else []) = (l.filter (fun x => p x && q x)).flatMap g
  | [] => rfl
  | x :: r => by
    by_cases hp : p x = true
    · by_cases hq : q x = true
      · rw [List.filter_cons_of_pos hp, List.filter_cons_of_pos (by simp [hp, hq]), List.flatMap_cons, List.flatMap_cons, if_pos hq, flat_filter p q g r]
      · rw [List.filter_cons_of_pos hp, List.filter_cons_of_neg (by simp [hq]), List.flatMap_cons, if_neg hq, flat_filter p q g r]
        rfl
    · rw [List.filter_cons_of_neg hp, List.filter_cons_of_neg (by simp [hp]), flat_filter p q g r]
theorem extsC_eq {fs : List F} : ∀ (cs : List Cn) (ds : List Cp), cs.length = ds.length → (∀ (k : Nat) (c : Cn) (d : Cp), cs[k]? = some c → ds[k]? = some d → CnCp fs c d) → ∀ T, extsC cs T = exts ds fs T
  | [], [], _, _, _ => rfl
  | [], _ :: _, h, _, _ => by simp at h
  | _ :: _, [], h, _, _ => by simp at h
  | c :: cs, d :: ds, hl, he, T => by
    obtain ⟨h1, h2, h3, h4, h5⟩ := he 0 c d rfl rfl
    have ih := extsC_eq cs ds (by simpa using hl) (fun k c' d' hc hd => he (k + 1) c' d' (by simpa using hc) (by simpa using hd))
    simp only [extsC, exts]
    rw [h1, h3, h5, any_filterP, flat_filter]
    simp only [ih]
    rfl
/-- What a search may ask, condition by condition. -/
def SrOk : List Cn → List F → Prop
  | [], _ => True
  | c :: cs, T => c.at_ = T.length ∧ (c.neg = false → T.length < 3) ∧ (∀ f ∈ c.facts, ∀ t ∈ c.tests, t.fits T f) ∧ (if c.neg = true then SrOk cs T else ∀ f ∈ c.facts, c.tests.all (jHolds T f) = true → SrOk cs (T ++ [f]))
theorem VIn.snoc {T : List F} {vs : List Vr} {f : F} (h : VIn T vs) : VIn (T ++ [f]) vs := fun v hv => by
  obtain ⟨g, h1, h2⟩ := h v hv
  exact ⟨g, by rw [List.getElem?_append_left (List.getElem?_eq_some_iff.1 h1).1]; exact h1, h2⟩
theorem srOk_plan {fs : List F} : ∀ (ps : List Pt) (vs : List Vr) (T : List F) (cs : List Cn), KnR ps vs T.length → VIn T vs → T.length + positives ps ≤ 3 → cs.length = (planGo ps vs T.length).length → (∀ (k : Nat) (c : Cn) (d : Cp), cs[k]? = some c → (planGo ps vs T.length)[k]? = some d → CnCp fs c d) → SrOk cs T
  | [], _, _, [], _, _, _, _, _ => trivial
  | [], _, _, _ :: _, _, _, _, h, _ => by simp [planGo] at h
  | _ :: _, _, _, [], _, _, _, h, _ => by simp [planGo] at h
  | p :: ps, vs, T, c :: cs, hk, hV, hn, hl, he => by
    obtain ⟨hg, _, hrest⟩ := hk
    simp only [planGo] at hl he
    obtain ⟨h1, h2, h3, h4, h5⟩ := he 0 c _ rfl rfl
    simp only at h1 h2 h3 h4 h5
    have hfit : ∀ f ∈ c.facts, ∀ t ∈ c.tests, t.fits T f := fun f hf => by
      rw [h5] at hf
      rw [h3]
      exact tests_fit hV hg (List.mem_filter.1 hf).2
    have he' : ∀ (k : Nat) (c' : Cn) (d' : Cp), cs[k]? = some c' → (if p.neg = true then planGo ps vs T.length else planGo ps (bindUpTo vs p.terms T.length p.terms.length) (T.length + 1))[k]? = some d' → CnCp fs c' d' := fun k c' d' hc hd => he (k + 1) c' d' (by simpa using hc) (by simpa using hd)
    have hl' : cs.length = (if p.neg = true then planGo ps vs T.length else planGo ps (bindUpTo vs p.terms T.length p.terms.length) (T.length + 1)).length := by simpa using hl
    by_cases hneg : p.neg = true
    · have hpos : positives (p :: ps) = positives ps := by simp [positives, pos1, hneg]
      rw [if_pos hneg] at hrest hl' he'
      refine ⟨h2, fun hc => ?_, hfit, ?_⟩
      · rw [h1, hneg] at hc
        cases hc
      · rw [if_pos (by rw [h1]; exact hneg)]
        exact srOk_plan ps vs T cs hrest hV (by omega) hl' he'
    · have hpos : positives (p :: ps) = positives ps + 1 := by simp [positives, pos1, hneg]
      rw [if_neg hneg] at hrest hl' he'
      refine ⟨h2, fun _ => by omega, hfit, ?_⟩
      rw [if_neg (by rw [h1]; exact hneg)]
      intro f hf _
      rw [h5] at hf
      have hp := (List.mem_filter.1 hf).2
      have hlen : (T ++ [f]).length = T.length + 1 := by simp
      refine srOk_plan ps _ (T ++ [f]) cs (by rw [hlen]; exact hrest) (bind_in hV.snoc (g := f) (by simp) (passes_terms hg hp) _ (Nat.le_refl _)) (by rw [hlen]; omega) (by rw [hlen]; exact hl') (by rw [hlen]; exact he')
end Go.Proofs.YtognpkdgphebeaaGreat
