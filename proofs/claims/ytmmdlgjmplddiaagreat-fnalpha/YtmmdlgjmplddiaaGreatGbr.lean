/-
  OUR OWN TEXT. Mm6, Pq9, Mm7, Pq10, Pq11, Pq12, In1, Fa1, An8, one behind the other.
-/
import Derived.Test.YtmmdlgjmplddiaaGreatGbo
import Derived.Test.YtmmdlgjmplddiaaGreatGbq
import Derived.Test.YtmmdlgjmplddiaaGreatGbl
import Derived.Test.YtmmdlgjmplddiaaGreatGbk
import Derived.Test.YtmmdlgjmplddiaaGreatGbh
namespace Go.Proofs.YtmmdlgjmplddiaaGreat
open Go.RowKit
attribute [local go_sem ↓] Go.wp_at_zero Go.wp_at_succ

theorem cells5M {w : World} {b : Nat} {ty : TypeId} {x0 x1 x2 x3 x4 : Value} (h : w.heap[b]? = some (.cells #[x0, x1, x2, x3, x4] ty (0, 0))) : w.cell? ⟨b, 0, none⟩ = some x0 ∧ w.cell? ⟨b, 1, none⟩ = some x1 ∧ w.cell? ⟨b, 2, none⟩ = some x2 ∧ w.cell? ⟨b, 3, none⟩ = some x3 ∧ w.cell? ⟨b, 4, none⟩ = some x4 := by
  refine ⟨?_, ?_, ?_, ?_, ?_⟩ <;> simp [World.cell?, h]
end Go.Proofs.YtmmdlgjmplddiaaGreat

namespace Go.Proofs.YtmmdlgjmplddiaaGreat

end Go.Proofs.YtmmdlgjmplddiaaGreat

namespace Go.Proofs.YtmmdlgjmplddiaaGreat
open Go.RowKit
attribute [local go_sem ↓] Go.wp_at_zero Go.wp_at_succ

/-- What the model's Bindings leaves. -/
def BnPost (bs : List Bd) (w : World) (e : Ending) (w' : World) : Prop := (∃ a c, e = .returned (.slice a bs.length c) ∧ w'.ownsRow w.heap.size 220 4 (.slice a bs.length c) bs.length (bs.flatMap bdCells)) ∧ Below w.heap.size w w'
theorem BnPost.nil {bs : List Bd} {w w' : World} (h1 : bs = []) (h3 : Below w.heap.size w w') : BnPost bs w (.returned (.slice none 0 0)) w' := by
  subst h1
  exact ⟨⟨none, 0, rfl, World.ownsRow_nil _ _ _ _⟩, h3⟩
end Go.Proofs.YtmmdlgjmplddiaaGreat

namespace Go.Proofs.YtmmdlgjmplddiaaGreat

end Go.Proofs.YtmmdlgjmplddiaaGreat

namespace Go.Proofs.YtmmdlgjmplddiaaGreat

theorem okF_tag {last : Int} {f : F} (h : okF last f = true) : last < f.tag := by
  unfold okF at h
  simp only [Bool.and_eq_true, decide_eq_true_eq] at h
  omega
theorem gFrom_lt : ∀ {fs : List F} {last : Int}, gFrom last fs = true → ∀ f ∈ fs, last < f.tag
  | [], _, _, f, hf => by simp at hf
  | g :: r, last, h, f, hf => by
    simp only [gFrom, Bool.and_eq_true] at h
    have h1 := okF_tag h.1
    rcases List.mem_cons.1 hf with rfl | hf
    · exact h1
    · have := gFrom_lt h.2 f hf
      omega
theorem gFrom_inj : ∀ {fs : List F} {last : Int}, gFrom last fs = true → ∀ f ∈ fs, ∀ g ∈ fs, f.tag = g.tag → f = g
  | [], _, _, f, hf, _, _, _ => by simp at hf
  | x :: r, last, h, f, hf, g, hg, he => by
    simp only [gFrom, Bool.and_eq_true] at h
    rcases List.mem_cons.1 hf with e1 | hf'
    · rcases List.mem_cons.1 hg with e2 | hg'
      · rw [e1, e2]
      · have := gFrom_lt h.2 g hg'
        rw [e1] at he
        omega
    · rcases List.mem_cons.1 hg with e2 | hg'
      · have := gFrom_lt h.2 f hf'
        rw [e2] at he
        omega
      · exact gFrom_inj h.2 f hf' g hg' he
end Go.Proofs.YtmmdlgjmplddiaaGreat

namespace Go.Proofs.YtmmdlgjmplddiaaGreat

theorem exts_pm (fs : List F) : ∀ (ps : List Pt) (T : List F) (vs : List Vr) (m : Nat), KnR ps vs T.length → lookV vs ⟨#[]⟩ = none → (∀ x ∈ vs, x.fact < T.length) →
    (allM ps fs [⟨T.map (·.tag), envB T vs⟩] m).1 = (exts (planGo ps vs T.length) fs T).map (fun U => (⟨U.map (·.tag), envB U (varsGo ps vs T.length)⟩ : Pm))
  | [], T, vs, m, _, _, _ => rfl
  | p :: ps, T, vs, m, hk, hE, hT => by
    obtain ⟨hg, hK, hrest⟩ := hk
    have hh := hits_eq hg hE hK hT ⟨p.neg, T.length, alphaOf p, jtsUpTo vs p.terms p.terms.length⟩ rfl rfl fs
    rw [varsGo_cons]
    simp only [allM, planGo, exts]
    have hn : nextM p fs [⟨T.map (·.tag), envB T vs⟩] = nextOf p fs ⟨T.map (·.tag), envB T vs⟩ := by simp [nextM]
    rw [hn]
    unfold nextOf
    by_cases hneg : p.neg = true
    · rw [if_pos hneg, if_pos hneg, if_pos hneg, if_pos hneg]
      rw [if_pos hneg] at hrest
      rw [hh]
      by_cases ha : fs.any (lets ⟨p.neg, T.length, alphaOf p, jtsUpTo vs p.terms p.terms.length⟩ T) = true
      · rw [if_pos ha, if_neg (by
          obtain ⟨f, hf, hf2⟩ := List.any_eq_true.1 ha
          have := List.length_pos_of_mem (List.mem_filter.2 ⟨hf, hf2⟩)
          rw [List.length_map]
          omega), allM_nil]
        rfl
      · rw [if_neg ha, if_pos (by
          rw [List.length_map, List.length_eq_zero_iff, List.filter_eq_nil_iff]
          intro f hf h2
          exact ha (List.any_eq_true.2 ⟨f, hf, h2⟩))]
        exact exts_pm fs ps T vs _ hrest hE hT
    · rw [if_neg hneg, if_neg hneg, if_neg hneg, if_neg hneg]
      rw [if_neg hneg] at hrest
      rw [hh, allM_flat, List.flatMap_map, List.map_flatMap]
      congr 1
      funext f
      have hE2 : lookV (bindUpTo vs p.terms T.length p.terms.length) ⟨#[]⟩ = none := (lookV_bind _ _ (Nat.le_refl _)).2 ⟨hE, earlier_empty (gPt_terms hg) _ (Nat.le_refl _)⟩
      have := exts_pm fs ps (T ++ [f]) (bindUpTo vs p.terms T.length p.terms.length) 0 (by simpa using hrest) hE2 (fun x hx => by simpa using bind_facts hT p.terms.length x hx)
      simpa using this
theorem all_pm {fs : List F} {ps : List Pt} (hk : KnR ps [] 0) : (allM ps fs [⟨[], []⟩] 0).1 = (exts (planGo ps [] 0) fs []).map (fun U => (⟨U.map (·.tag), envB U (varsGo ps [] 0)⟩ : Pm)) := exts_pm fs ps [] [] 0 hk rfl (fun x hx => by simp at hx)
end Go.Proofs.YtmmdlgjmplddiaaGreat

namespace Go.Proofs.YtmmdlgjmplddiaaGreat
open Go.RowKit

/-- The instantiations of rules, the first one's number being i. -/
def confGo (fs : List F) : Nat → List Ru → List It
  | _, [] => []
  | i, r :: rs => (allM r.pats fs [⟨[], []⟩] 0).1.map (fun x => (⟨(i : Int), x.tags⟩ : It)) ++ confGo fs (i + 1) rs
def confM (rs : List Ru) (fs : List F) : List It := if ready rs fs = true then confGo fs 0 rs else []
theorem confGo_snoc (fs : List F) (r : Ru) : ∀ (rs : List Ru) (i : Nat), confGo fs i (rs ++ [r]) = confGo fs i rs ++ (allM r.pats fs [⟨[], []⟩] 0).1.map (fun x => (⟨((i + rs.length : Nat) : Int), x.tags⟩ : It))
  | [], i => by simp [confGo]
  | s :: rs, i => by
    simp only [List.cons_append, confGo]
    rw [confGo_snoc fs r rs (i + 1), List.append_assoc, List.length_cons, show i + 1 + rs.length = i + (rs.length + 1) by omega]
theorem conf_take (fs : List F) {rs : List Ru} {k : Nat} {r : Ru} (h : rs[k]? = some r) : confGo fs 0 (rs.take (k + 1)) = confGo fs 0 (rs.take k) ++ (allM r.pats fs [⟨[], []⟩] 0).1.map (fun x => (⟨(k : Int), x.tags⟩ : It)) := by
  have hk : k < rs.length := (List.getElem?_eq_some_iff.1 h).1
  rw [List.take_add_one, h]
  simp only [Option.toList]
  rw [confGo_snoc, List.length_take, Nat.min_eq_left (by omega), Nat.zero_add]
theorem nextOf_len2 (p : Pt) (fs : List F) (hf : fs.length ≤ 40) (x : Pm) : (nextOf p fs x).length ≤ 40 ^ (positives [p]) := by
  have := hits_len p x fs
  unfold nextOf positives
  by_cases hn : p.neg = true
  · rw [if_pos hn]
    simp [pos1, hn]
    split <;> simp
  · rw [if_neg hn]
    simp [pos1, hn]
    omega
theorem nextM_len2 (p : Pt) (fs : List F) (hf : fs.length ≤ 40) : ∀ X : List Pm, (nextM p fs X).length ≤ X.length * 40 ^ (positives [p])
  | [] => by simp [nextM]
  | x :: r => by
    have h1 := nextM_len2 p fs hf r
    have h2 := nextOf_len2 p fs hf x
    have h3 : nextM p fs (x :: r) = nextOf p fs x ++ nextM p fs r := by unfold nextM; rw [List.flatMap_cons]
    rw [h3, List.length_append, List.length_cons, Nat.add_mul]
    omega
theorem allM_len2 (fs : List F) (hf : fs.length ≤ 40) : ∀ (ps : List Pt) (xs : List Pm) (n : Nat), (allM ps fs xs n).1.length ≤ xs.length * 40 ^ positives ps
  | [], xs, n => by simp [allM, positives]
  | r :: ps, xs, n => by
    have h1 := allM_len2 fs hf ps (nextM r fs xs) (n + (nextM r fs xs).length)
    have h2 := nextM_len2 r fs hf xs
    have h3 : positives (r :: ps) = positives [r] + positives ps := by
      unfold positives
      rw [← List.countP_append]
      rfl
    simp only [allM]
    rw [h3, Nat.pow_add, ← Nat.mul_assoc]
    exact Nat.le_trans h1 (Nat.mul_le_mul_right _ h2)
theorem all_bound {rs : List Ru} {fs : List F} (h : ready rs fs = true) {r : Ru} (hr : r ∈ rs) : (allM r.pats fs [⟨[], []⟩] 0).1.length ≤ 64000 ∧ ∀ x ∈ (allM r.pats fs [⟨[], []⟩] 0).1, x.tags.length ≤ 6 := by
  obtain ⟨hck, _, hf⟩ := ready_small h
  obtain ⟨h6, ht6, h3⟩ := chk_small hck hr
  have h1 := allM_len2 fs hf r.pats [⟨[], []⟩] 0
  have h2 : 40 ^ positives r.pats ≤ 40 ^ 3 := Nat.pow_le_pow_right (by omega) h3
  rw [List.length_singleton, Nat.one_mul] at h1
  refine ⟨by simp at h2; omega, fun x hx => ?_⟩
  have := (allM_small fs r.pats [⟨[], []⟩] 0 0 0 (by intro y hy; simp at hy; subst hy; simp) ht6 x hx).1
  omega
theorem chk_len {rs : List Ru} (h : (chk rs).1 = 0) : rs.length ≤ 16 := by
  unfold chk at h
  split at h
  · assumption
  · simp at h
theorem confGo_bound {fs : List F} : ∀ (rs : List Ru) (i : Nat), (∀ r ∈ rs, (allM r.pats fs [⟨[], []⟩] 0).1.length ≤ 64000 ∧ ∀ x ∈ (allM r.pats fs [⟨[], []⟩] 0).1, x.tags.length ≤ 6) → (confGo fs i rs).length ≤ rs.length * 64000 ∧ ∀ y ∈ confGo fs i rs, y.tags.length ≤ 6
  | [], i, _ => by simp [confGo]
  | r :: rs, i, h => by
    obtain ⟨h1, h2⟩ := confGo_bound rs (i + 1) (fun x hx => h x (List.mem_cons_of_mem _ hx))
    obtain ⟨h3, h4⟩ := h r List.mem_cons_self
    simp only [confGo]
    refine ⟨by rw [List.length_append, List.length_map, List.length_cons]; omega, fun y hy => ?_⟩
    rcases List.mem_append.1 hy with hy | hy
    · obtain ⟨x, hx, rfl⟩ := List.mem_map.1 hy
      exact h4 x hx
    · exact h2 y hy
theorem conf_take_bound {rs : List Ru} {fs : List F} (h : ready rs fs = true) (k : Nat) : (confGo fs 0 (rs.take k)).length ≤ 1024000 ∧ ∀ y ∈ confGo fs 0 (rs.take k), y.tags.length ≤ 6 := by
  have h1 := chk_len (ready_small h).1
  obtain ⟨h2, h3⟩ := confGo_bound (fs := fs) (rs.take k) 0 (fun r hr => all_bound h (List.mem_of_mem_take hr))
  refine ⟨?_, h3⟩
  rw [List.length_take] at h2
  omega
theorem conf_bound (rs : List Ru) (fs : List F) : (confM rs fs).length ≤ 1024000 ∧ ∀ y ∈ confM rs fs, y.tags.length ≤ 6 := by
  unfold confM
  split
  · rename_i h
    have := conf_take_bound h rs.length
    rwa [List.take_length] at this
  · simp
/-- What the model's Conflict leaves. -/
def CmPost (L : List It) (w : World) (e : Ending) (w' : World) : Prop := (∃ a c M, e = .returned (.slice a (List.length M) c) ∧ Iw w' w.heap.size w.heap.size a c M ∧ M.map Prod.fst = L) ∧ Below w.heap.size w w'
theorem CmPost.nil {L : List It} {w w' : World} (hL : L = []) (hb : Below w.heap.size w w') : CmPost L w (.returned (.slice none 0 0)) w' := by
  subst hL
  exact ⟨⟨none, 0, [], rfl, Iw.nil _ _ _, rfl⟩, hb⟩
theorem CmPost.mk {L : List It} {w w' : World} {a : Option Addr} {c : Nat} {M : List ItX} (hL : L = M.map Prod.fst) (h : Iw w' w.heap.size w.heap.size a c M) (hb : Below w.heap.size w w') : CmPost L w (.returned (.slice a M.length c)) w' := by
  subst hL
  exact ⟨⟨a, c, M, rfl, h, rfl⟩, hb⟩
end Go.Proofs.YtmmdlgjmplddiaaGreat

namespace Go.Proofs.YtmmdlgjmplddiaaGreat

theorem addA_pre {A : List Al} {x y : Al} {a : Nat} (h : A[a]? = some x) : (addA A y)[a]? = some x := by
  unfold addA
  split
  · exact h
  · rw [List.getElem?_append_left (List.getElem?_eq_some_iff.1 h).1]
    exact h
theorem addA_seek (A : List Al) (x : Al) : (addA A x)[seekA x A]? = some x := by
  unfold addA
  split
  · rename_i h
    exact seekA_at h
  · rename_i h
    rw [seekA_new h]
    simp
theorem rowA_pre : ∀ (l : List Pt) {A : List Al} {x : Al} {a : Nat}, A[a]? = some x → (rowA A l).1[a]? = some x
  | [], _, _, _, h => h
  | _ :: r, _, _, _, h => rowA_pre r (addA_pre h)
theorem netA_pre : ∀ (l : List Ru) {A : List Al} {x : Al} {a : Nat}, A[a]? = some x → (netA A l).1[a]? = some x
  | [], _, _, _, h => h
  | r :: s, _, _, _, h => netA_pre s (rowA_pre r.pats h)
theorem rowA_at : ∀ (l : List Pt) (A : List Al) (j : Nat) (p : Pt), l[j]? = some p → ∃ a : Nat, (rowA A l).2[j]? = some (a : Int) ∧ (rowA A l).1[a]? = some (alphaOf p)
  | [], _, j, p, h => by simp at h
  | q :: r, A, 0, p, h => by
    simp at h
    subst h
    exact ⟨seekA (alphaOf q) A, rfl, rowA_pre r (addA_seek A (alphaOf q))⟩
  | q :: r, A, j + 1, p, h => by
    obtain ⟨a, h1, h2⟩ := rowA_at r (addA A (alphaOf q)) j p (by simpa using h)
    exact ⟨a, by simpa [rowA] using h1, h2⟩
theorem netA_at : ∀ (l : List Ru) (A : List Al) (i : Nat) (r : Ru), l[i]? = some r → ∃ row, (netA A l).2[i]? = some row ∧ row.length = r.pats.length ∧ ∀ (j : Nat) (p : Pt), r.pats[j]? = some p → ∃ a : Nat, row[j]? = some (a : Int) ∧ (netA A l).1[a]? = some (alphaOf p)
  | [], _, i, r, h => by simp at h
  | q :: s, A, 0, r, h => by
    simp at h
    subst h
    refine ⟨(rowA A q.pats).2, rfl, rowA_len _ _, fun j p hp => ?_⟩
    obtain ⟨a, h1, h2⟩ := rowA_at q.pats A j p hp
    exact ⟨a, h1, netA_pre s h2⟩
  | q :: s, A, i + 1, r, h => by
    obtain ⟨row, h1, h2⟩ := netA_at s (rowA A q.pats).1 i r (by simpa using h)
    exact ⟨row, by simpa [netA] using h1, h2⟩
theorem netOf_at {rs : List Ru} (hk : (chk rs).1 = 0) {i : Nat} {r : Ru} (h : rs[i]? = some r) : ∃ row, (netOf rs).of[i]? = some row ∧ row.length = r.pats.length ∧ ∀ (j : Nat) (p : Pt), r.pats[j]? = some p → ∃ a : Nat, row[j]? = some (a : Int) ∧ (netOf rs).als[a]? = some (alphaOf p) := by
  have e : netOf rs = ⟨(netA [] rs).1, (netA [] rs).2⟩ := if_pos hk
  rw [e]
  exact netA_at rs [] i r h
theorem netOf_len {rs : List Ru} (hk : (chk rs).1 = 0) : (netOf rs).of.length = rs.length := by
  have e : netOf rs = ⟨(netA [] rs).1, (netA [] rs).2⟩ := if_pos hk
  rw [e]
  exact netA_len rs []
theorem mems_len {xs : List Al} {fs : List F} (hg : gFacts fs = true) : (mems xs fs).length = xs.length := by simp [mems, hg]
theorem mems_at {xs : List Al} {fs : List F} (hg : gFacts fs = true) {a : Nat} {x : Al} (h : xs[a]? = some x) : (mems xs fs)[a]? = some (memOf x fs) := by simp [mems, hg, h]
def hasT (tag : Int) (l : List Int) : Bool := l.any (fun t => t == tag)
theorem hasT_snoc {tag t : Int} {l : List Int} {k : Nat} (h : l[k]? = some t) : hasT tag (l.take (k + 1)) = (hasT tag (l.take k) || t == tag) := by
  unfold hasT
  rw [List.take_add_one, h, List.any_append]
  simp
theorem hasT_mem {fs : List F} (hg : gFacts fs = true) {f : F} (hf : f ∈ fs) (x : Al) : hasT f.tag (memOf x fs) = passes x f := by
  simp only [gFacts, Bool.and_eq_true] at hg
  cases hp : passes x f
  · cases hh : hasT f.tag (memOf x fs)
    · rfl
    · exfalso
      unfold hasT memOf at hh
      obtain ⟨t, ht, e⟩ := List.any_eq_true.1 hh
      obtain ⟨g, hgm, rfl⟩ := List.mem_map.1 ht
      obtain ⟨hgf, hgp⟩ := List.mem_filter.1 hgm
      have : g = f := gFrom_inj hg.2 g hgf f hf (by simpa using e)
      rw [this, hp] at hgp
      cases hgp
  · exact List.any_eq_true.2 ⟨f.tag, List.mem_map.2 ⟨f, List.mem_filter.2 ⟨hf, hp⟩, rfl⟩, by simp⟩
theorem exts_alpha {fs : List F} : ∀ (ps : List Pt) (vs : List Vr) (n : Nat) (T U : List F), U ∈ exts (planGo ps vs n) fs T → ∃ S, U = T ++ S ∧ S.length = positives ps ∧ ∀ (j : Nat) (p : Pt), ps[j]? = some p → p.neg = false → ∃ f, S[positives (ps.take j)]? = some f ∧ f ∈ fs ∧ passes (alphaOf p) f = true
  | [], vs, n, T, U, h => by
    simp [planGo, exts] at h
    exact ⟨[], by simp [h], rfl, fun j p hp => by simp at hp⟩
  | p :: ps, vs, n, T, U, h => by
    simp only [planGo, exts] at h
    cases hn : p.neg
    · rw [hn] at h
      simp only [Bool.false_eq_true, if_false] at h
      obtain ⟨f, hf, hU⟩ := List.mem_flatMap.1 h
      obtain ⟨hff, hfp⟩ := List.mem_filter.1 hf
      obtain ⟨S, rfl, hl, hS⟩ := exts_alpha ps _ _ _ U hU
      have h1 : positives (p :: ps) = positives ps + 1 := by simp [positives, pos1, hn]
      refine ⟨f :: S, by simp, by rw [h1, ← hl]; rfl, fun j q hq hqn => ?_⟩
      cases j with
      | zero =>
        simp at hq
        subst hq
        simp only [lets, Bool.and_eq_true] at hfp
        exact ⟨f, rfl, hff, hfp.1⟩
      | succ j =>
        obtain ⟨g, hg1, hg2⟩ := hS j q (by simpa using hq) hqn
        refine ⟨g, ?_, hg2⟩
        have : positives ((p :: ps).take (j + 1)) = positives (ps.take j) + 1 := by simp [positives, pos1, hn]
        rw [this]
        simpa using hg1
    · rw [hn] at h
      simp only [if_true] at h
      split at h
      · simp at h
      · obtain ⟨S, rfl, hl, hS⟩ := exts_alpha ps _ _ _ U h
        have h1 : positives (p :: ps) = positives ps := by simp [positives, pos1, hn]
        refine ⟨S, rfl, by rw [h1, hl], fun j q hq hqn => ?_⟩
        cases j with
        | zero =>
          simp at hq
          subst hq
          rw [hn] at hqn
          cases hqn
        | succ j =>
          obtain ⟨g, hg1, hg2⟩ := hS j q (by simpa using hq) hqn
          refine ⟨g, ?_, hg2⟩
          have : positives ((p :: ps).take (j + 1)) = positives (ps.take j) := by simp [positives, pos1, hn]
          rw [this]
          exact hg1
theorem confGo_mem {fs : List F} {x : It} : ∀ {rs : List Ru} {i : Nat}, x ∈ confGo fs i rs → ∃ k r, rs[k]? = some r ∧ x.rule = ((i + k : Nat) : Int) ∧ ∃ m ∈ (allM r.pats fs [⟨[], []⟩] 0).1, x.tags = m.tags
  | [], i, h => by simp [confGo] at h
  | r :: rs, i, h => by
    simp only [confGo] at h
    rcases List.mem_append.1 h with h | h
    · obtain ⟨m, hm, rfl⟩ := List.mem_map.1 h
      exact ⟨0, r, rfl, rfl, m, hm, rfl⟩
    · obtain ⟨k, r', h1, h2, h3⟩ := confGo_mem h
      exact ⟨k + 1, r', by simpa using h1, by rw [h2]; congr 1; omega, h3⟩
/-- Of an instantiation: its rule, and each positive pattern's fact is in the memory of its Alpha. -/
theorem conf_mem {rs : List Ru} {fs : List F} {x : It} (hk : (chk rs).1 = 0) (h : x ∈ confM rs fs) : ∃ (k : Nat) (r : Ru), rs[k]? = some r ∧ x.rule = (k : Int) ∧ x.tags.length = positives r.pats ∧ ∀ (j : Nat) (p : Pt), r.pats[j]? = some p → p.neg = false → ∃ t, x.tags[positives (r.pats.take j)]? = some t ∧ hasT t (memOf (alphaOf p) fs) = true := by
  unfold confM at h
  split at h
  · obtain ⟨k, r, h1, h2, m, hm, h3⟩ := confGo_mem h
    have hr : r ∈ rs := List.mem_of_getElem? h1
    rw [all_pm (chk_known hk hr)] at hm
    obtain ⟨U, hU, rfl⟩ := List.mem_map.1 hm
    obtain ⟨S, hUS, hl, hS⟩ := exts_alpha r.pats [] 0 [] U hU
    rw [List.nil_append] at hUS
    subst hUS
    refine ⟨k, r, h1, by rw [h2]; simp, by rw [h3]; simpa using hl, fun j p hp hn => ?_⟩
    obtain ⟨f, hf1, hf2, hf3⟩ := hS j p hp hn
    refine ⟨f.tag, by rw [h3]; simp [hf1], ?_⟩
    exact List.any_eq_true.2 ⟨f.tag, List.mem_map.2 ⟨f, List.mem_filter.2 ⟨hf2, hf3⟩, rfl⟩, by simp⟩
  · simp at h
end Go.Proofs.YtmmdlgjmplddiaaGreat

namespace Go.Proofs.YtmmdlgjmplddiaaGreat
open Go.RowKit Go.Maps
attribute [local go_sem ↓] Go.wp_at_zero Go.wp_at_succ

theorem NS.turned {kl : Al → Lit} {w w' : World} {base gb mb : Nat} {la : Option Addr} {lc : Nat} {L : List AlX} {bs : List Nat} {D : DataW Unit} {b : Nat} {v0 v1 : Value} (h : NS kl w base gb mb la lc L bs D) (hb : NB w b v0 v1) (ht : Turned w w' b) : NS kl w' base gb mb la lc L bs D :=
  h.keptB fun k hk hty => ht.block k (fun e => by
    subst e
    have := hty _ _ _ hb
    rcases this with e | e | e | e <;> exact absurd e (by decide))
theorem OLL.fr3 {kl : Al → Lit} {w w' : World} {base gb mb base' : Nat} {la : Option Addr} {lc : Nat} {L : List AlX} {bs : List Nat} {D : DataW Unit} {v : Value} {n : Nat} {xss : List (List Int)} {vs : List Value} (h : OLL w base' v n xss vs) (hf : Fr3 gb mb (Value.slice la L.length lc).ownBlock w w') (hN : NS kl w base gb mb la lc L bs D) : OLL w' base' v n xss vs :=
  h.kept fun g hg => by
    rcases h.inType hg with ⟨c, hc⟩ | ⟨c, hc⟩
    · rw [hf.box hc hN (by decide) (by decide), hc]
    · rw [hf.box hc hN (by decide) (by decide), hc]
/-- What the program's AlphaNet leaves. -/
def INet (rs : List Ru) (w : World) (e : Ending) (w' : World) : Prop := (∃ aa ac oa oc L vs, e = .returned (.agg #[.slice aa (netOf rs).als.length ac, .slice oa (netOf rs).of.length oc]) ∧ L.map Prod.fst = (netOf rs).als ∧ AO w' w.heap.size aa ac L ∧ (L.map Prod.snd).Pairwise Apart ∧ OLL w' w.heap.size (.slice oa (netOf rs).of.length oc) (netOf rs).of.length (netOf rs).of vs) ∧ Below w.heap.size w w'
set_option maxRecDepth 100000 in
set_option maxHeartbeats 12800000 in
theorem iAlphaNet_any (rs : List Ru) (a : Option Addr) (c : Nat) {q : Option Nat} (w : World) (hv : RusAt q w a rs) (hc : rs.length ≤ c) (hle : ListLe Ru.le 1048576 rs) (ho : ∀ x ∈ rs, OpsOk x.exprs) (hvo : ∀ r ∈ rs, ∀ p ∈ r.pats, ∀ t ∈ p.terms, VOk t.val) :
    Calls Tryz.prog 11 #[.slice a rs.length c] w (INet rs w) := by
  obtain ⟨kl, K⟩ := KLA.exist
  have HV := hidN1 hv
  have HLE := hidN1 hle
  have HOP := hidN1 ho
  have HVO := hidN1 hvo
  have HA := hidN1 (fun o => (Below.refl _ _).alloc (Nat.le_refl _) o : ∀ o, Below w.heap.size w (w.alloc o))
  clear hv hle ho hvo
  by_cases hck : (chk rs).1 = 0
  rotate_left
  · have HN : Hid (netOf rs = ⟨[], []⟩) := if_neg hck
    have HC := hidN1 (fun w' hb => iCheckRules_any a c rs w' (HV.out.below hb) hc HLE.out HOP.out)
    unfold ckV at HC
    have hcn : ((chk rs).1 != 0) = true := by simpa using hck
    have hcb : ((chk rs).1 == 0) = false := by simpa using hck
    generalize (chk rs).1 = p0 at HC hck hcn hcb
    generalize (chk rs).2.1 = p1 at HC
    generalize (chk rs).2.2 = p2 at HC
    clear hck
    have hfd : ∀ w : World, (Instr.field 93 (.agg #[.int .i64 p0, .int .i64 p1, .int .i64 p2]) 0).run Tryz.prog w = .ok (.int .i64 p0) w := fun _ => by kernel_rfl
    go_enter Tryz.func11, Tryz.ntmps11
    go_wp2_with fail
    refine (HC.out _ (HA.out _)).mono ?_
    rintro e w1 ⟨rfl, hb1⟩
    have T1 := hidN1 (NB.bel (show NB (w.alloc _) w.heap.size (.slice none 0 0) (.slice none 0 0) from heap_alloc_new _ _) hb1)
    have B1 := hidN1 ((HA.out _).trans (hb1.mono (HA.out _).size))
    obtain ⟨⟨t0, t1⟩, z, _⟩ := T1.out.facts
    have z0 := z 0
    have z1 := z 1
    clear z hb1
    go_wp2_with fail
    refine bodyPost_ret (v := .agg #[.slice none 0 0, .slice none 0 0]) (by simp [results, Tryz.results11, go_sem, t0, t1]) rfl ⟨⟨none, 0, none, 0, [], [], by rw [HN.out]; rfl, by rw [HN.out]; rfl, AO.nil _ _, List.Pairwise.nil, by rw [HN.out]; exact OLL.nil _ _⟩, ?_⟩
    exact (B1.out.setCell (Nat.le_refl _) _).setCell (Nat.le_refl _) _
  have HN : Hid (netOf rs = ⟨(netA [] rs).1, (netA [] rs).2⟩) := if_pos hck
  have h16 := (chk_each hck).1
  have HSM := hidN1 (fun r (hr : r ∈ rs) => chk_small hck hr)
  have HC := hidN1 (fun w' hb => iCheckRules_any a c rs w' (HV.out.below hb) hc HLE.out HOP.out)
  unfold ckV at HC
  have hcn : ((chk rs).1 != 0) = false := by simpa using hck
  have hcb : ((chk rs).1 == 0) = true := by simpa using hck
  generalize (chk rs).1 = p0 at HC hck hcn hcb
  generalize (chk rs).2.1 = p1 at HC
  generalize (chk rs).2.2 = p2 at HC
  clear hck
  have hfd : ∀ w : World, (Instr.field 93 (.agg #[.int .i64 p0, .int .i64 p1, .int .i64 p2]) 0).run Tryz.prog w = .ok (.int .i64 p0) w := fun _ => by kernel_rfl
  go_enter Tryz.func11, Tryz.ntmps11
  go_wp2_with fail
  refine (HC.out _ (HA.out _)).mono ?_
  rintro e w1 ⟨rfl, hb1⟩
  have T1 := hidN1 (NB.bel (show NB (w.alloc _) w.heap.size (.slice none 0 0) (.slice none 0 0) from heap_alloc_new _ _) hb1)
  have B1 := hidN1 ((HA.out _).trans (hb1.mono (HA.out _).size))
  have hs1 : w.heap.size < w1.heap.size := T1.out.facts.2.2
  clear hb1 HA HC HOP
  go_upto_region 4 with fail
  refine lift_alloc ?_
  intro w2 hW2 hq2
  obtain ⟨nb, hnb⟩ : ∃ nb, nb = w1.heap.size := ⟨_, rfl⟩
  rw [← hnb] at hq2 ⊢
  have N2 := hidN1 (show NB w2 nb (.slice none 0 0) (.slice none 0 0) from hq2)
  have T2 := hidN1 (T1.out.bel hW2)
  have B2 := hidN1 (B1.out.trans (hW2.mono B1.out.size))
  have hnbw : w.heap.size < nb := by omega
  have hnb2 : nb < w2.heap.size := N2.out.facts.2.2
  clear hW2 hq2 hnb T1 B1 hs1 hcn hcb hfd
  go_wp2_with fail
  refine (newNodes_any kl w2).mono ?_
  rintro e w3 ⟨rfl, hns3, hb3⟩
  have G3 := hidN1 hns3
  have N3 := hidN1 (N2.out.bel hb3)
  have T3 := hidN1 (T2.out.bel hb3)
  have B3 := hidN1 (B2.out.trans (hb3.mono B2.out.size))
  have hs3 := hb3.size
  clear hns3 hb3 N2 T2 B2
  obtain ⟨gb, hgb⟩ : ∃ gb, gb = w2.heap.size + 1 := ⟨_, rfl⟩
  rw [← hgb] at G3 ⊢
  have hgb2 : w2.heap.size < gb := by omega
  clear hgb
  go_wp2_with fail
  go_loopw [20] (fun iv wr => ∃ (k : Nat) (la : Option Addr) (lc : Nat) (L : List AlX) (bs : List Nat) (D : DataW Unit) (oa : Option Addr) (oc : Nat) (vs : List Value), iv = .int .i64 (k : Int) ∧ k ≤ rs.length ∧ L.map Prod.fst = (netA [] (rs.take k)).1 ∧ NS kl wr w2.heap.size gb w2.heap.size la lc L bs D ∧ NB wr nb (.slice none 0 0) (.slice oa k oc) ∧ OLL wr w2.heap.size (.slice oa k oc) k (netA [] (rs.take k)).2 vs ∧ NB wr w.heap.size (.slice none 0 0) (.slice none 0 0) ∧ Below w.heap.size w wr ∧ w2.heap.size ≤ wr.heap.size) (fun iv _ => rs.length - (intOf iv).toNat)
  case atStart => exact ⟨0, none, 0, [], [], _, none, 0, [], rfl, Nat.zero_le _, rfl, G3.out, N3.out, OLL.nil _ _, T3.out, B3.out, hs3⟩
  case round =>
    obtain ⟨k, la, lc, L, bs, D, oa, oc, vs, rfl, hkl, hL, hNS, hN, hOL, hT, hB, hwr⟩ := hrel
    have HL := hidN1 hL
    have G := hidN1 hNS
    have N := hidN1 hN
    have OL := hidN1 hOL
    have T := hidN1 hT
    have B := hidN1 hB
    have hLb : L.length ≤ 96 := by
      have h1 := netA_grow (rs.take k) [] (fun r hr => (HSM.out r (List.mem_of_mem_take hr)).1)
      have h2 := congrArg List.length hL
      simp at h1 h2
      omega
    clear hL hNS hN hOL hT hB G3 N3 T3 B3
    by_cases hk : k < rs.length
    · obtain ⟨r, hr⟩ : ∃ r, rs[k]? = some r := ⟨rs[k], by simp [hk]⟩
      obtain ⟨b, o, a_p, c_p, a_e, c_e, a_c, c_c, rfl, _, c0, c1, c2, c3, c4, h_p, _, _, _⟩ := HV.out.get hr
      have d0 := cell_below B.out c0
      have d1 := cell_below B.out c1
      have d2 := cell_below B.out c2
      have d3 := cell_below B.out c3
      have d4 := cell_below B.out c4
      obtain ⟨hp6, ht6, _⟩ := HSM.out r (List.mem_of_getElem? hr)
      have HT6 := hidN1 ht6
      have HP := hidN1 h_p
      have HRL := hidN1 (HLE.out.2 r (List.mem_of_getElem? hr))
      have HRV := hidN1 (HVO.out r (List.mem_of_getElem? hr))
      have HNS := hidN1 (show netA [] (rs.take (k + 1)) = ((rowA (netA [] (rs.take k)).1 r.pats).1, (netA [] (rs.take k)).2 ++ [(rowA (netA [] (rs.take k)).1 r.pats).2]) by rw [List.take_add_one, hr]; exact netA_snoc r _ [])
      have z0 : (0 : Int) ≤ (k : Int) := by omega
      have z1 : (k : Int) < (rs.length : Int) := by omega
      generalize (netA [] (rs.take k)).1 = A at HL OL HNS
      generalize (netA [] (rs.take k)).2 = XS at OL HNS
      clear c0 c1 c2 c3 c4 h_p ht6 hr
      go_upto_region 8 with fail
      refine lift_alloc ?_
      intro w4 hW4 hq4
      have f2 : w4.cell? ⟨wr.heap.size, 2, none⟩ = some (.slice a_p r.pats.length c_p) := by simp [World.cell?, hq4]
      have G4 := hidN1 (G.out.bel hW4)
      have N4 := hidN1 (N.out.bel hW4)
      have O4 := hidN1 (OL.out.below hW4)
      have T4 := hidN1 (T.out.bel hW4)
      have B4 := hidN1 (B.out.trans (hW4.mono B.out.size))
      have hs4 := hW4.size
      have LOW := hidN1 (fun g (hg : InLL (.slice oa k oc) vs g) => (O4.out.range hg).2)
      clear hW4 hq4 d0 d1 d2 d3 d4 G N OL T B
      go_wp2_with fail
      clear f2
      go_loopw [27, 7] (fun jv ov wq => ∃ (j : Nat) (fa : Option Addr) (fc : Nat) (la2 : Option Addr) (lc2 : Nat) (L2 : List AlX) (bs2 : List Nat) (D2 : DataW Unit), jv = .int .i64 (j : Int) ∧ j ≤ r.pats.length ∧ ov = .slice fa j fc ∧ L2.map Prod.fst = (rowA A (r.pats.take j)).1 ∧ wq.ownsRow w4.heap.size 3 1 (.slice fa j fc) j (icells (rowA A (r.pats.take j)).2) ∧ NS kl wq w2.heap.size gb w2.heap.size la2 lc2 L2 bs2 D2 ∧ NB wq nb (.slice none 0 0) (.slice oa k oc) ∧ OLL wq w2.heap.size (.slice oa k oc) k XS vs ∧ NB wq w.heap.size (.slice none 0 0) (.slice none 0 0) ∧ Below w.heap.size w wq ∧ w4.heap.size ≤ wq.heap.size) (fun jv _ _ => r.pats.length - (intOf jv).toNat)
      case atStart => exact ⟨0, none, 0, la, lc, L, bs, D, rfl, Nat.zero_le _, rfl, HL.out, World.ownsRow_nil _ _ _ _, G4.out, N4.out, O4.out, T4.out, B4.out, Nat.le_refl _⟩
      case round =>
        obtain ⟨j, fa, fc, la2, lc2, L2, bs2, D2, rfl, hjl, rfl, hL2, hF, hNS, hN, hOL, hT, hB, hwq⟩ := hrel
        obtain ⟨wq, rfl⟩ : ∃ v, v = wr := ⟨wr, rfl⟩
        have HL2 := hidN1 hL2
        have Fq := hidN1 hF
        have Gq := hidN1 hNS
        have Nq := hidN1 hN
        have Oq := hidN1 hOL
        have Tq := hidN1 hT
        have Bq := hidN1 hB
        have hL2b : L2.length ≤ 102 := by
          have h1 := rowA_grow (r.pats.take j) A
          have h2 := congrArg List.length hL2
          have h3 := congrArg List.length HL.out
          simp at h1 h2 h3
          omega
        clear hL2 hF hNS hN hOL hT hB G4 N4 O4 T4 B4
        by_cases hj : j < r.pats.length
        · obtain ⟨p, hp⟩ : ∃ p, r.pats[j]? = some p := ⟨r.pats[j], by simp [hj]⟩
          obtain ⟨pb, po, a_t, c_t, rfl, _, d0, d1, d2, h_t, hct⟩ := HP.out.getC hp
          have e0 := cell_below Bq.out d0
          have e1 := cell_below Bq.out d1
          have e2 := cell_below Bq.out d2
          have HTM := hidN1 h_t
          have hpm := List.mem_of_getElem? hp
          have HPL := hidN1 (HRL.out.2.1.2 p hpm)
          have HPV := hidN1 (HRV.out p hpm)
          have HRS := hidN1 (show rowA A (r.pats.take (j + 1)) = (addA (rowA A (r.pats.take j)).1 (alphaOf p), (rowA A (r.pats.take j)).2 ++ [((seekA (alphaOf p) (rowA A (r.pats.take j)).1 : Nat) : Int)]) by rw [List.take_add_one, hp]; exact rowA_snoc p _ A)
          have z0 : (0 : Int) ≤ (j : Int) := by omega
          have z1 : (j : Int) < (r.pats.length : Int) := by omega
          rw [← HL2.out] at HRS
          generalize (rowA A (r.pats.take j)).2 = FSo at Fq HRS
          clear d0 d1 d2 h_t hp hpm HL2
          go_upto_region 12 with fail
          refine lift_alloc ?_
          intro w5 hW5 hq5
          obtain ⟨f0, f1, f2⟩ := cells3N hq5
          have G5 := hidN1 (Gq.out.bel hW5)
          have N5 := hidN1 (Nq.out.bel hW5)
          have O5 := hidN1 (Oq.out.below hW5)
          have T5 := hidN1 (Tq.out.bel hW5)
          have F5 := hidN1 (own_bel Fq.out hW5)
          have B5 := hidN1 (Bq.out.trans (hW5.mono Bq.out.size))
          have hs5 := hW5.size
          clear hW5 hq5 e0 e1 e2 Gq Nq Oq Tq Fq Bq
          go_wp2_with fail
          refine (of_any kl K p a_t c_t w2.heap.size gb w2.heap.size la2 lc2 L2 bs2 D2 w5 G5.out (HTM.out.below B5.out) (Nat.le_trans HPL.out.1 (by decide)) ⟨Nat.le_trans HPL.out.2.1 (by decide), fun t ht => ⟨Nat.le_trans (HPL.out.2.2 t ht).1 (by decide), Nat.le_trans (HPL.out.2.2 t ht).2 (by decide)⟩⟩ HPL.out.2.1 hct HPV.out (by omega) (by omega)).mono ?_
          rintro e w6 ⟨la3, lc3, L3, bs3, D3, nk, rfl, hns6, hL3, hnk, hf6, _, _⟩
          have G6 := hidN1 hns6
          have N6 := hidN1 (show NB w6 nb (.slice none 0 0) (.slice oa k oc) from hf6.box N5.out G5.out (by decide) (by decide))
          have O6 := hidN1 (O5.out.fr3 hf6 G5.out)
          have T6 := hidN1 (show NB w6 w.heap.size (.slice none 0 0) (.slice none 0 0) from hf6.box T5.out G5.out (by decide) (by decide))
          have F6 := hidN1 (hf6.own F5.out G5.out (by decide) (by decide))
          have B6 := hidN1 (B5.out.trans (hf6.below (by omega) (by omega) (by omega) (fun g hg => by have := (G5.out.row.lt g hg).1; omega)))
          have hs6 := hf6.rest.size
          obtain ⟨sk, hsk⟩ : ∃ sk, sk = seekA (alphaOf p) (L2.map Prod.fst) := ⟨_, rfl⟩
          have HR := hidN1 (show rowA A (r.pats.take (j + 1)) = (L3.map Prod.fst, FSo ++ [(sk : Int)]) by rw [HRS.out, hL3, hsk])
          rw [← hsk] at hnk
          have hskl : sk < L3.length := by
            have h1 := (List.getElem?_eq_some_iff.1 hnk).1
            have h2 := hns6.inv.len
            simp at h2
            omega
          obtain ⟨y, hy⟩ : ∃ y, L3[sk]? = some y := ⟨L3[sk], by simp [hskl]⟩
          have hnd := (hns6.node sk y nk hy hnk).1
          have n3 : w6.cell? ⟨nk, 3, none⟩ = some (.int .i64 (sk : Int)) := by unfold NodeAt at hnd; simp [World.cell?, hnd]
          have hL3b : L3.length ≤ 103 := by
            have h1 := congrArg List.length hL3
            have h2 := addA_len (L2.map Prod.fst) (alphaOf p)
            simp at h1 h2
            omega
          have HW := hidN1 (fun o => (Below.refl _ _).alloc (Nat.le_refl _) o : ∀ o, Below w6.heap.size w6 (w6.alloc o))
          have TY := hidN1 (fun o k hk => own_type (own_bel F6.out (HW.out o)) (k := k) hk)
          clear hns6 hL3 hnk hf6 hsk hy hnd f0 f1 f2 G5 N5 O5 T5 F5 B5 HRS HTM HPL HPV
          go_wp2_with (first | (at_builtin; refine wpList_append_any (by rfl) (.tmp 31) (.tmp 38) 39 (by rfl) w4.heap.size 3 _ 1 8 Tryz.underlying39 infoIF (by rfl) (by omega) _ j _ (by rfl) (own_bel F6.out (HW.out _)) (some ⟨_, 0, none⟩) 1 1 (by rfl) [.int .i64 (sk : Int)] (by rfl) (fun e => by cases e) (news_new _ _ _ _ (by simp)) (by intro u hu; simp at hu; subst hu; rfl) (by unfold maxLen; omega) (by omega) (by simp; omega) ?_; intro a8 c8 w8 ho8 hg8 hl8) | fail)
          have hs8 := hg8.out.size
          simp at hs8
          go_roundw
          case rel =>
            refine ⟨j + 1, a8, c8, la3, lc3, L3, bs3, D3, by go_num, by omega, rfl, by rw [HR.out], by rw [HR.out, icells_snoc]; exact ho8.out, (G6.out.bel (HW.out _)).grown hg8.out (TY.out _) (by unfold NTy; decide), (N6.out.bel (HW.out _)).grown hg8.out (TY.out _) (by decide), (O6.out.below (HW.out _)).grownHi hg8.out (fun k hk => (F6.out.lt k hk).1) LOW.out, (T6.out.bel (HW.out _)).grown hg8.out (TY.out _) (by decide), (B6.out.trans ((HW.out _).mono B6.out.size)).grown hg8.out (by simp; omega) (fun k hk => by have := (F6.out.lt k hk).1; omega), by omega⟩
          case measure => (simp [intOf]; omega)
        · have hje : j = r.pats.length := by omega
          subst hje
          have HW := hidN1 (fun o => (Below.refl _ _).alloc (Nat.le_refl _) o : ∀ o, Below wq.heap.size wq (wq.alloc o))
          have TY := hidN1 (fun o k hk => own_type (own_bel Oq.out.own (HW.out o)) (k := k) hk)
          have hy1 : ¬ (r.pats.length : Int) < (r.pats.length : Int) := by omega
          obtain ⟨⟨n0, n1⟩, _, _⟩ := Nq.out.facts
          go_upto_region 15 with (first | (at_builtin; refine wpList_append_any (by rfl) (.tmp 42) (.tmp 44) 49 (by rfl) w2.heap.size 39 _ 1 24 Tryz.underlying49 infoILF (by rfl) (by omega) _ k _ (by rfl) (own_bel Oq.out.own (HW.out _)) (some ⟨_, 0, none⟩) 1 1 (by rfl) [.slice fa r.pats.length fc] (by rfl) (fun e => by cases e) (news_new _ _ _ _ (by simp)) (by intro u hu; simp at hu; subst hu; rfl) (by unfold maxLen; omega) (by omega) (by simp; omega) ?_; intro a8 c8 w8 ho8 hg8 hl8; have N8 := hidN1 ((Nq.out.bel (HW.out _)).grown hg8.out (TY.out _) (by decide)); obtain ⟨⟨n0', n1'⟩, z', _⟩ := N8.out.facts; have z1' := z' 1; clear z') | fail)
          refine lift_nb1 N8.out ?_
          intro w9 hN9 ht9
          have N9 := hidN1 hN9
          have O8 := hidN1 (OLL.snoc (x := .slice fa r.pats.length fc) (xs := (rowA A (r.pats.take r.pats.length)).2) (Oq.out.below (HW.out _)) ⟨⟨fa, fc, by rw [rowA_len, List.length_take, Nat.min_self]⟩, owns_base (own_bel (show wq.ownsRow w4.heap.size 3 1 (.slice fa r.pats.length fc) (rowA A (r.pats.take r.pats.length)).2.length (icells (rowA A (r.pats.take r.pats.length)).2) by rw [rowA_len, List.length_take, Nat.min_self]; exact Fq.out) (HW.out _)) (show w2.heap.size ≤ w4.heap.size by omega)⟩ (fun g hg hgx => by have h1 := LOW.out g (.inl hg); have h2 := (Fq.out.lt g hgx).1; omega) (fun y hy g hg hgx => by have h1 := LOW.out g (.inr ⟨y, hy, hg⟩); have h2 := (Fq.out.lt g hgx).1; omega) ho8.out hg8.out hl8.out)
          have T8 := hidN1 ((Tq.out.bel (HW.out _)).grown hg8.out (TY.out _) (by decide))
          have G8 := hidN1 ((Gq.out.bel (HW.out _)).grown hg8.out (TY.out _) (by unfold NTy; decide))
          have B8 := hidN1 ((Bq.out.trans ((HW.out _).mono Bq.out.size)).grown hg8.out (by simp; omega) (fun g hg => by have := (Oq.out.range (.inl hg)).1; omega))
          have hs8 := hg8.out.size
          simp at hs8
          have G9 := hidN1 (G8.out.turned N8.out ht9)
          have O9 := hidN1 (O8.out.turned N8.out ht9)
          have T9 := hidN1 (T8.out.turned ht9 (by omega))
          have B9 := hidN1 (B8.out.trans (ht9.below (by omega)))
          have hs9 : w8.heap.size ≤ w9.heap.size := Nat.le_of_eq ht9.size.symm
          clear n0 n1 n0' n1' z1' hN9 ht9 N8 O8 G8 T8 B8
          go_wp2_with fail
          go_roundw
          case rel =>
            refine ⟨k + 1, la2, lc2, L2, bs2, D2, a8, c8, vs ++ [.slice fa r.pats.length fc], by go_num, by omega, ?_, G9.out, N9.out, ?_, T9.out, B9.out, by omega⟩
            · rw [HNS.out, HL2.out, List.take_of_length_le (Nat.le_refl _)]
            · rw [HNS.out]
              have := O9.out
              rw [List.take_of_length_le (Nat.le_refl _)] at this
              exact this
          case measure => (simp [intOf]; omega)
    · have hke : k = rs.length := by omega
      subst hke
      have hy1 : ¬ (rs.length : Int) < (rs.length : Int) := by omega
      have HL' := hidN1 (show L.map Prod.fst = (netA [] rs).1 by rw [HL.out, List.take_of_length_le (Nat.le_refl _)])
      have OL' := hidN1 (show OLL wr w2.heap.size (.slice oa rs.length oc) rs.length (netA [] rs).2 vs by have := OL.out; rw [List.take_of_length_le (Nat.le_refl _)] at this; exact this)
      obtain ⟨⟨m0, m1⟩, _, _⟩ := G.out.box.facts
      clear HL OL
      go_wp2_with fail
      clear m0 m1
      go_loopw [53] (fun iv wq => ∃ (i : Nat) (aa : Option Addr) (ac : Nat) (M : List AlX), iv = .int .i64 (i : Int) ∧ i ≤ L.length ∧ M = L.take i ∧ NB wq nb (.slice aa M.length ac) (.slice oa rs.length oc) ∧ AO wq w2.heap.size aa ac M ∧ NS kl wq w2.heap.size gb w2.heap.size la lc L bs D ∧ OLL wq w2.heap.size (.slice oa rs.length oc) rs.length (netA [] rs).2 vs ∧ NB wq w.heap.size (.slice none 0 0) (.slice none 0 0) ∧ Below w.heap.size w wq ∧ w2.heap.size ≤ wq.heap.size) (fun iv _ => L.length - (intOf iv).toNat)
      case atStart => exact ⟨0, none, 0, [], rfl, Nat.zero_le _, rfl, N.out, AO.nil _ _, G.out, OL'.out, T.out, B.out, hwr⟩
      case round =>
        obtain ⟨i, aa, ac, M, rfl, hil, hM, hN, hAO, hNS, hOL, hT, hB, hwq⟩ := hrel
        obtain ⟨wq, rfl⟩ : ∃ v, v = wr := ⟨wr, rfl⟩
        have HM := hidN1 hM
        have HML := hidN1 (show M.length = i by rw [hM, List.length_take]; omega)
        have Nq := hidN1 hN
        have Aq := hidN1 hAO
        have Gq := hidN1 hNS
        have Oq := hidN1 hOL
        have Tq := hidN1 hT
        have Bq := hidN1 hB
        have hMb : M.length ≤ 96 := by have := HML.out; omega
        clear hM hN hAO hNS hOL hT hB N G OL' T B
        by_cases hi : i < L.length
        · obtain ⟨x, hx⟩ : ∃ x, L[i]? = some x := ⟨L[i], by simp [hi]⟩
          obtain ⟨nk, hnk⟩ : ∃ nk, bs[i]? = some nk := ⟨bs[i]'(by have := Gq.out.inv.len; simp at this; omega), by simp⟩
          obtain ⟨⟨xa, xc, hxs⟩, hxo⟩ := Gq.out.als x (List.mem_of_getElem? hx)
          have hnd := (Gq.out.node i x nk hx hnk).1
          have ND := hidN1 hnd
          rw [hxs] at hxo
          have XP := hidN1 (show AlP wq w2.heap.size (x.1, .slice xa x.1.tests.length xc) from ⟨⟨xa, xc, rfl⟩, hxo⟩)
          have hxe : x = (x.1, .slice xa x.1.tests.length xc) := by rw [← hxs]
          have HXE := hidN1 hxe
          have HMS := hidN1 (show L.take (i + 1) = M ++ [(x.1, .slice xa x.1.tests.length xc)] by rw [List.take_add_one, hx, HM.out, ← hxe]; rfl)
          obtain ⟨lk, rfl, _, p0, _⟩ := owns_cell Gq.out.row (show (ptrs bs)[i]? = some (.pointer (some ⟨nk, 0, none⟩)) by simp [ptrs, hnk])
          have ND' := hidN1 (show NodeAt wq nk (x.1, .slice xa x.1.tests.length xc) i by rw [← hxe]; exact hnd)
          have y0 : wq.drew.cell? ⟨nk, 0, none⟩ = some (.string x.1.cls) := by show wq.cell? _ = _; have := ND'.out; unfold NodeAt at this; simp [World.cell?, this]
          have y1 : wq.drew.cell? ⟨nk, 1, none⟩ = some (.int .i64 x.1.arity) := by show wq.cell? _ = _; have := ND'.out; unfold NodeAt at this; simp [World.cell?, this]
          have y2 : wq.drew.cell? ⟨nk, 2, none⟩ = some (.slice xa x.1.tests.length xc) := by show wq.cell? _ = _; have := ND'.out; unfold NodeAt at this; simp [World.cell?, this]
          have HW := hidN1 (fun o => (Below.refl _ _).alloc (Nat.le_refl _) o : ∀ o, Below wq.heap.size wq (wq.alloc o))
          have ya0 : ∀ o, (wq.alloc o).drew.cell? ⟨nk, 0, none⟩ = some (.string x.1.cls) := fun o => cell_below (HW.out o).drew y0
          have ya1 : ∀ o, (wq.alloc o).drew.cell? ⟨nk, 1, none⟩ = some (.int .i64 x.1.arity) := fun o => cell_below (HW.out o).drew y1
          have ya2 : ∀ o, (wq.alloc o).drew.cell? ⟨nk, 2, none⟩ = some (.slice xa x.1.tests.length xc) := fun o => cell_below (HW.out o).drew y2
          obtain ⟨⟨n0, _⟩, _, _⟩ := Nq.out.facts
          have nd0 : wq.drew.cell? ⟨nb, 0, none⟩ = some (.slice aa M.length ac) := n0
          have na0 : ∀ o, (wq.alloc o).drew.cell? ⟨nb, 0, none⟩ = some (.slice aa M.length ac) := fun o => cell_below (HW.out o).drew n0
          have AOW := hidN1 (fun o => own_bel Aq.out.1 (HW.out o).drew)
          have TY := hidN1 (fun o k hk => own_type (AOW.out o) (k := k) hk)
          have z0 : (0 : Int) ≤ (i : Int) := by omega
          have z1 : (i : Int) < (L.length : Int) := by omega
          clear hx hnk hxs hxo hnd hxe HXE ND
          go_wp2_with fail
          clear p0
          refine wp_region_noPanic ?_
          refine wp_region_held_drew (S := (fun w' => w'.cell? ⟨nk, 0, none⟩ = some (.string x.1.cls) ∧ w'.cell? ⟨nk, 1, none⟩ = some (.int .i64 x.1.arity) ∧ w'.cell? ⟨nk, 2, none⟩ = some (.slice xa x.1.tests.length xc))) (by kernel_rfl) ?_ (fun hHeld => ?_)
          · (try dsimp only)
            exact ⟨y0, y1, y2⟩
          refine wpAnyH_take (i := 0) (oi := ?oi1) (v := ?v1) ?hi1 (by kernel_rfl) (by kernel_rfl) (by kernel_rfl) (fun _ _ _ h => h) (Or.inl ⟨?wd1, ?hy1⟩) hHeld ?rest1
          case hi1 => (simp only [List.getElem?_toArray, List.getElem?_cons_zero]; rfl)
          case wd1 => rfl
          case hy1 => (intro w hSw; (try dsimp only at hSw); go_simp; try with_reducible rfl)
          (try simp only [Act.put, List.setIfInBounds_toArray, List.set_cons_zero, List.set_cons_succ])
          refine wpAnyH_take (i := 2) (oi := ?oi2) (v := ?v2) ?hi2 (by kernel_rfl) (by kernel_rfl) (by kernel_rfl) (fun _ _ _ h => h) (Or.inl ⟨?wd2, ?hy2⟩) hHeld ?rest2
          case hi2 => (simp only [List.getElem?_toArray, List.getElem?_cons_succ, List.getElem?_cons_zero]; rfl)
          case wd2 => rfl
          case hy2 => (intro w hSw; (try dsimp only at hSw); go_simp; try with_reducible rfl)
          (try simp only [Act.put, List.setIfInBounds_toArray, List.set_cons_zero, List.set_cons_succ])
          refine wpAnyH_take (i := 3) (oi := ?oi3) (v := ?v3) ?hi3 (by kernel_rfl) (by kernel_rfl) (by kernel_rfl) (fun _ _ _ h => h) (Or.inl ⟨?wd3, ?hy3⟩) hHeld ?rest3
          case hi3 => (simp only [List.getElem?_toArray, List.getElem?_cons_succ, List.getElem?_cons_zero]; rfl)
          case wd3 => rfl
          case hy3 => (intro w hSw; (try dsimp only at hSw); go_simp; try with_reducible rfl)
          (try simp only [Act.put, List.setIfInBounds_toArray, List.set_cons_zero, List.set_cons_succ])
          refine wpAnyH_take (i := 4) (oi := ?oi4) (v := ?v4) ?hi4 (by kernel_rfl) (by kernel_rfl) (by kernel_rfl) (fun _ _ _ h => h) (Or.inl ⟨?wd4, ?hy4⟩) hHeld ?rest4
          case hi4 => (simp only [List.getElem?_toArray, List.getElem?_cons_succ, List.getElem?_cons_zero]; rfl)
          case wd4 => rfl
          case hy4 => (intro w hSw; (try dsimp only at hSw); go_simp; try with_reducible rfl)
          (try simp only [Act.put, List.setIfInBounds_toArray, List.set_cons_zero, List.set_cons_succ])
          refine wpAnyH_take (i := 5) (oi := ?oi5) (v := ?v5) ?hi5 (by kernel_rfl) (by kernel_rfl) (by kernel_rfl) (fun _ _ _ h => h) (Or.inl ⟨?wd5, ?hy5⟩) hHeld ?rest5
          case hi5 => (simp only [List.getElem?_toArray, List.getElem?_cons_succ, List.getElem?_cons_zero]; rfl)
          case wd5 => rfl
          case hy5 => (intro w hSw; (try dsimp only at hSw); go_simp; try with_reducible rfl)
          (try simp only [Act.put, List.setIfInBounds_toArray, List.set_cons_zero, List.set_cons_succ])
          refine wpAnyH_ready (rs := [1, 6]) (by kernel_rfl) (by simp) ?_
          refine AllReadyH.cons (o := ?o6) ?ho6 (fun K hK => ?step6) (AllReadyH.cons (o := ?o7) ?ho7 (fun K hK => ?step7) AllReadyH.nil)
          case ho6 => (simp only [List.getElem?_toArray, List.getElem?_cons_succ, List.getElem?_cons_zero]; rfl)
          case ho7 => (simp only [List.getElem?_toArray, List.getElem?_cons_succ, List.getElem?_cons_zero]; rfl)
          case step6 =>
            go_simp
            refine hK.out _ _ ?hS8 (fun hHeld' => ?rest8)
            case hS8 => ((try dsimp only); with_reducible exact ⟨y0, y1, y2⟩)
            clear hK K
            (try simp only [Act.put, List.setIfInBounds_toArray, List.set_cons_zero, List.set_cons_succ])
            clear hHeld
            have hHeld := hHeld'
            clear hHeld'
            refine wpAnyH_ready (rs := [6]) (by kernel_rfl) (by simp) ?_
            refine AllReadyH.cons (o := ?o9) ?ho9 (fun K hK => ?step9) AllReadyH.nil
            case ho9 => (simp only [List.getElem?_toArray, List.getElem?_cons_succ, List.getElem?_cons_zero]; rfl)
            go_simp
            refine hK.out _ _ ?hS10 (fun hHeld' => ?rest10)
            case hS10 => ((try dsimp only); with_reducible exact ⟨ya0 _, ya1 _, ya2 _⟩)
            clear hK K
            (try simp only [Act.put, List.setIfInBounds_toArray, List.set_cons_zero, List.set_cons_succ])
            clear hHeld
            have hHeld := hHeld'
            clear hHeld'
            refine wpAnyH_ready (rs := [7]) (by kernel_rfl) (by simp) ?_
            refine AllReadyH.cons (o := ?o11) ?ho11 (fun K hK => ?step11) AllReadyH.nil
            case ho11 => (simp only [List.getElem?_toArray, List.getElem?_cons_succ, List.getElem?_cons_zero]; rfl)
            (refine step_append_any (by rfl) (.tmp 58) (.tmp 63) 48 (by rfl) w2.heap.size 57 _ 3 48 Tryz.underlying48 infoAlF (by rfl) (by omega) _ M.length _ (by rfl) (AOW.out _) (some ⟨_, 0, none⟩) 1 1 (by rfl) (alCells (x.1, .slice xa x.1.tests.length xc)) (by rfl) (fun e => by cases e) (news_new wq _ _ _ (by simp)) (alCells_one _ ⟨_, _, _, rfl⟩) (by unfold maxLen; omega) (by omega) (by simp; omega) ?_; intro a8 c8 w8 ho8 hg8 hl8; have N8 := hidN1 (NB.grown (NB.bel Nq.out (HW.out _).drew) hg8.out (TY.out _) (by decide)); have ND8 := hidN1 (show NodeAt w8 nk (x.1, .slice xa x.1.tests.length xc) i from box_grown (((HW.out _).drew.block nk (lt_of_block' ND'.out)).trans ND'.out) hg8.out (TY.out _) (by decide)); obtain ⟨⟨k0, k1⟩, zz, _⟩ := N8.out.facts; have zz0 := zz 0; have yb0 : w8.cell? ⟨nk, 0, none⟩ = some (.string x.1.cls) := (by have := ND8.out; unfold NodeAt at this; simp [World.cell?, this]); have yb1 : w8.cell? ⟨nk, 1, none⟩ = some (.int .i64 x.1.arity) := (by have := ND8.out; unfold NodeAt at this; simp [World.cell?, this]); have yb2 : w8.cell? ⟨nk, 2, none⟩ = some (.slice xa x.1.tests.length xc) := (by have := ND8.out; unfold NodeAt at this; simp [World.cell?, this]); have hnkb : nk ≠ nb := (fun e => by have h1 := ND8.out; have h2 := N8.out; unfold NodeAt at h1; unfold NB at h2; rw [e] at h1; exact own_far h1 h2 (by decide)))
            refine hK.out _ _ ?hS12 (fun hHeld' => ?rest12)
            case hS12 => ((try dsimp only); with_reducible exact ⟨yb0, yb1, yb2⟩)
            clear hK K
            (try simp only [Act.put, List.setIfInBounds_toArray, List.set_cons_zero, List.set_cons_succ])
            clear hHeld
            have hHeld := hHeld'
            clear hHeld'
            refine wpAnyH_take (i := 8) (oi := ?oi13) (v := ?v13) ?hi13 (by kernel_rfl) (by kernel_rfl) (by kernel_rfl) (fun _ _ _ h => h) (Or.inl ⟨?wd13, ?hy13⟩) hHeld ?rest13
            case hi13 => (simp only [List.getElem?_toArray, List.getElem?_cons_succ, List.getElem?_cons_zero]; rfl)
            case wd13 => rfl
            case hy13 => (intro w hSw; (try dsimp only at hSw); go_simp; try with_reducible rfl)
            (try simp only [Act.put, List.setIfInBounds_toArray, List.set_cons_zero, List.set_cons_succ])
            refine wpAnyH_ready (rs := [9]) (by kernel_rfl) (by simp) ?_
            refine AllReadyH.cons (o := ?o14) ?ho14 (fun K hK => ?step14) AllReadyH.nil
            case ho14 => (simp only [List.getElem?_toArray, List.getElem?_cons_succ, List.getElem?_cons_zero]; rfl)
            go_simp
            refine hK.out _ _ ?hS15 (fun hHeld' => ?rest15)
            case hS15 => ((try dsimp only); with_reducible exact ⟨cell_far yb0 hnkb, cell_far yb1 hnkb, cell_far yb2 hnkb⟩)
            clear hK K
            (try simp only [Act.put, List.setIfInBounds_toArray, List.set_cons_zero, List.set_cons_succ])
            clear hHeld
            have hHeld := hHeld'
            clear hHeld'
            refine wpAnyH_done (by kernel_rfl) ?_ _
            refine NoPanic.normal ?_
            go_upto_region 20 with fail
            refine lift_nb0 N8.out ?_
            intro w9 hN9 ht9
            have N9 := hidN1 (show NB w9 nb (.slice a8 (M ++ [((x.1, .slice xa x.1.tests.length xc) : AlX)]).length c8) (.slice oa rs.length oc) by simpa using hN9)
            have A9 := hidN1 (AO.turned (AO.snoc (x := (x.1, .slice xa x.1.tests.length xc)) (Aq.out.bel (HW.out _).drew) (XP.out.bel (HW.out _).drew) ho8.out hg8.out) N8.out ht9)
            have G9 := hidN1 (((Gq.out.bel (HW.out _).drew).grown hg8.out (TY.out _) (by unfold NTy; decide)).turned N8.out ht9)
            have O9 := hidN1 (((Oq.out.below (HW.out _).drew).grownT hg8.out (TY.out _) (by decide) (by decide)).turned N8.out ht9)
            have T9 := hidN1 (((Tq.out.bel (HW.out _).drew).grown hg8.out (TY.out _) (by decide)).turned ht9 (by omega))
            have B9 := hidN1 (((Bq.out.trans ((HW.out _).drew.mono Bq.out.size)).grown hg8.out (by simp; omega) (fun k hk => by have := (Aq.out.1.lt k hk).1; omega)).trans (ht9.below (by omega)))
            have hs8 := hg8.out.size
            simp at hs8
            have hs9 : w8.heap.size ≤ w9.heap.size := Nat.le_of_eq ht9.size.symm
            clear hN9 ht9 k0 k1 zz zz0 yb0 yb1 yb2 y0 y1 y2 ya0 ya1 ya2 n0 nd0 na0 hHeld
            go_wp2_with fail
            go_roundw
            case rel => exact ⟨i + 1, a8, c8, M ++ [(x.1, .slice xa x.1.tests.length xc)], by go_num, by omega, HMS.out.symm, N9.out, A9.out, G9.out, O9.out, T9.out, B9.out, by omega⟩
            case measure => (simp [intOf]; omega)
          case step7 =>
            go_simp
            refine hK.out _ _ ?hS16 (fun hHeld' => ?rest16)
            case hS16 => ((try dsimp only); with_reducible exact ⟨ya0 _, ya1 _, ya2 _⟩)
            clear hK K
            (try simp only [Act.put, List.setIfInBounds_toArray, List.set_cons_zero, List.set_cons_succ])
            clear hHeld
            have hHeld := hHeld'
            clear hHeld'
            refine wpAnyH_ready (rs := [1]) (by kernel_rfl) (by simp) ?_
            refine AllReadyH.cons (o := ?o17) ?ho17 (fun K hK => ?step17) AllReadyH.nil
            case ho17 => (simp only [List.getElem?_toArray, List.getElem?_cons_succ, List.getElem?_cons_zero]; rfl)
            go_simp
            refine hK.out _ _ ?hS18 (fun hHeld' => ?rest18)
            case hS18 => ((try dsimp only); with_reducible exact ⟨ya0 _, ya1 _, ya2 _⟩)
            clear hK K
            (try simp only [Act.put, List.setIfInBounds_toArray, List.set_cons_zero, List.set_cons_succ])
            clear hHeld
            have hHeld := hHeld'
            clear hHeld'
            refine wpAnyH_ready (rs := [7]) (by kernel_rfl) (by simp) ?_
            refine AllReadyH.cons (o := ?o19) ?ho19 (fun K hK => ?step19) AllReadyH.nil
            case ho19 => (simp only [List.getElem?_toArray, List.getElem?_cons_succ, List.getElem?_cons_zero]; rfl)
            (refine step_append_any (by rfl) (.tmp 58) (.tmp 63) 48 (by rfl) w2.heap.size 57 _ 3 48 Tryz.underlying48 infoAlF (by rfl) (by omega) _ M.length _ (by rfl) (AOW.out _) (some ⟨_, 0, none⟩) 1 1 (by rfl) (alCells (x.1, .slice xa x.1.tests.length xc)) (by rfl) (fun e => by cases e) (news_new wq _ _ _ (by simp)) (alCells_one _ ⟨_, _, _, rfl⟩) (by unfold maxLen; omega) (by omega) (by simp; omega) ?_; intro a8 c8 w8 ho8 hg8 hl8; have N8 := hidN1 (NB.grown (NB.bel Nq.out (HW.out _).drew) hg8.out (TY.out _) (by decide)); have ND8 := hidN1 (show NodeAt w8 nk (x.1, .slice xa x.1.tests.length xc) i from box_grown (((HW.out _).drew.block nk (lt_of_block' ND'.out)).trans ND'.out) hg8.out (TY.out _) (by decide)); obtain ⟨⟨k0, k1⟩, zz, _⟩ := N8.out.facts; have zz0 := zz 0; have yb0 : w8.cell? ⟨nk, 0, none⟩ = some (.string x.1.cls) := (by have := ND8.out; unfold NodeAt at this; simp [World.cell?, this]); have yb1 : w8.cell? ⟨nk, 1, none⟩ = some (.int .i64 x.1.arity) := (by have := ND8.out; unfold NodeAt at this; simp [World.cell?, this]); have yb2 : w8.cell? ⟨nk, 2, none⟩ = some (.slice xa x.1.tests.length xc) := (by have := ND8.out; unfold NodeAt at this; simp [World.cell?, this]); have hnkb : nk ≠ nb := (fun e => by have h1 := ND8.out; have h2 := N8.out; unfold NodeAt at h1; unfold NB at h2; rw [e] at h1; exact own_far h1 h2 (by decide)))
            refine hK.out _ _ ?hS20 (fun hHeld' => ?rest20)
            case hS20 => ((try dsimp only); with_reducible exact ⟨yb0, yb1, yb2⟩)
            clear hK K
            (try simp only [Act.put, List.setIfInBounds_toArray, List.set_cons_zero, List.set_cons_succ])
            clear hHeld
            have hHeld := hHeld'
            clear hHeld'
            refine wpAnyH_take (i := 8) (oi := ?oi21) (v := ?v21) ?hi21 (by kernel_rfl) (by kernel_rfl) (by kernel_rfl) (fun _ _ _ h => h) (Or.inl ⟨?wd21, ?hy21⟩) hHeld ?rest21
            case hi21 => (simp only [List.getElem?_toArray, List.getElem?_cons_succ, List.getElem?_cons_zero]; rfl)
            case wd21 => rfl
            case hy21 => (intro w hSw; (try dsimp only at hSw); go_simp; try with_reducible rfl)
            (try simp only [Act.put, List.setIfInBounds_toArray, List.set_cons_zero, List.set_cons_succ])
            refine wpAnyH_ready (rs := [9]) (by kernel_rfl) (by simp) ?_
            refine AllReadyH.cons (o := ?o22) ?ho22 (fun K hK => ?step22) AllReadyH.nil
            case ho22 => (simp only [List.getElem?_toArray, List.getElem?_cons_succ, List.getElem?_cons_zero]; rfl)
            go_simp
            refine hK.out _ _ ?hS23 (fun hHeld' => ?rest23)
            case hS23 => ((try dsimp only); with_reducible exact ⟨cell_far yb0 hnkb, cell_far yb1 hnkb, cell_far yb2 hnkb⟩)
            clear hK K
            (try simp only [Act.put, List.setIfInBounds_toArray, List.set_cons_zero, List.set_cons_succ])
            clear hHeld
            have hHeld := hHeld'
            clear hHeld'
            refine wpAnyH_done (by kernel_rfl) ?_ _
            refine NoPanic.normal ?_
            go_upto_region 20 with fail
            refine lift_nb0 N8.out ?_
            intro w9 hN9 ht9
            have N9 := hidN1 (show NB w9 nb (.slice a8 (M ++ [((x.1, .slice xa x.1.tests.length xc) : AlX)]).length c8) (.slice oa rs.length oc) by simpa using hN9)
            have A9 := hidN1 (AO.turned (AO.snoc (x := (x.1, .slice xa x.1.tests.length xc)) (Aq.out.bel (HW.out _).drew) (XP.out.bel (HW.out _).drew) ho8.out hg8.out) N8.out ht9)
            have G9 := hidN1 (((Gq.out.bel (HW.out _).drew).grown hg8.out (TY.out _) (by unfold NTy; decide)).turned N8.out ht9)
            have O9 := hidN1 (((Oq.out.below (HW.out _).drew).grownT hg8.out (TY.out _) (by decide) (by decide)).turned N8.out ht9)
            have T9 := hidN1 (((Tq.out.bel (HW.out _).drew).grown hg8.out (TY.out _) (by decide)).turned ht9 (by omega))
            have B9 := hidN1 (((Bq.out.trans ((HW.out _).drew.mono Bq.out.size)).grown hg8.out (by simp; omega) (fun k hk => by have := (Aq.out.1.lt k hk).1; omega)).trans (ht9.below (by omega)))
            have hs8 := hg8.out.size
            simp at hs8
            have hs9 : w8.heap.size ≤ w9.heap.size := Nat.le_of_eq ht9.size.symm
            clear hN9 ht9 k0 k1 zz zz0 yb0 yb1 yb2 y0 y1 y2 ya0 ya1 ya2 n0 nd0 na0 hHeld
            go_wp2_with fail
            go_roundw
            case rel => exact ⟨i + 1, a8, c8, M ++ [(x.1, .slice xa x.1.tests.length xc)], by go_num, by omega, HMS.out.symm, N9.out, A9.out, G9.out, O9.out, T9.out, B9.out, by omega⟩
            case measure => (simp [intOf]; omega)
        · have hie : i = L.length := by omega
          subst hie
          have hq1 : ¬ (L.length : Int) < (L.length : Int) := by omega
          have hML := hidN1 (show M = L by rw [HM.out, List.take_of_length_le (Nat.le_refl _)])
          obtain ⟨⟨n0, n1⟩, _, _⟩ := Nq.out.facts
          obtain ⟨⟨t0, t1⟩, z, _⟩ := Tq.out.facts
          have z0 := z 0
          have z1 := z 1
          clear z
          go_wp2_with fail
          refine bodyPost_ret (v := .agg #[.slice aa M.length ac, .slice oa rs.length oc]) (by simp [results, Tryz.results11, go_sem, t0, t1]) rfl ⟨⟨aa, ac, oa, oc, M, vs, ?_, ?_, ?_, ?_, ?_⟩, ?_⟩
          · rw [HN.out]
            have h1 := congrArg List.length HL'.out
            simp at h1
            rw [hML.out]
            simp [h1, netA_len]
          · rw [HN.out, hML.out]
            exact HL'.out
          · have h1 := (Aq.out.set Tq.out (v := .slice aa M.length ac) (o := 0) (by decide) (by decide)).set (Tq.out.set0 _) (v := .slice oa rs.length oc) (o := 1) (by decide) (by decide)
            exact ⟨owns_base h1.1 (by omega), fun y hy => (h1.2 y hy).lower (by omega)⟩
          · rw [hML.out]
            exact Gq.out.pair
          · rw [HN.out]
            have h1 := ((Oq.out.setT Tq.out (x := .slice aa M.length ac) (o := 0) (by decide) (by decide)).setT (Tq.out.set0 _) (x := .slice oa rs.length oc) (o := 1) (by decide) (by decide)).lower (show w.heap.size ≤ w2.heap.size by omega)
            have hlen : (netA [] rs).2.length = rs.length := netA_len rs []
            show OLL _ w.heap.size (.slice oa (netA [] rs).2.length oc) (netA [] rs).2.length (netA [] rs).2 vs
            rw [hlen]
            exact h1
          · exact (Bq.out.setCell (Nat.le_refl _) _).setCell (Nat.le_refl _) _
end Go.Proofs.YtmmdlgjmplddiaaGreat
