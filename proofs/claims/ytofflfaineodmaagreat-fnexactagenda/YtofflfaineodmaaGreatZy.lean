/-
  OUR OWN TEXT. Ag11, Ag12, one behind the other.
-/
import Derived.Test.YtofflfaineodmaaGreatZs
import Derived.Test.YtofflfaineodmaaGreatZw
import Derived.Deep.DeepCutAuto
import Derived.Test.YtofflfaineodmaaGreatZx
import Derived.Test.YtofflfaineodmaaGreatZz
namespace Go.Proofs.YtofflfaineodmaaGreat
open Go.RowKit
attribute [local go_sem ↓] Go.wp_at_zero Go.wp_at_succ

theorem lift2A {P : World → Prop} {w : World} {o1 o2 : Obj} (h : ∀ wt, Below w.heap.size w wt → wt.heap[w.heap.size]? = some o1 → wt.heap[w.heap.size + 1]? = some o2 → P wt) : P ((w.alloc o1).alloc o2) :=
  h _ (((Below.refl _ _).alloc (Nat.le_refl _) _).alloc (by simp) _) ((Below.heap_alloc _ _ _ (by simp)).trans (heap_alloc_new _ _)) (by have := heap_alloc_new (w.alloc o1) o2; simpa using this)
theorem cell_grownA {w w' : World} {ob : Option Nat} {b o : Nat} (h : w.grownBy w' ob) (hne : ob ≠ some b) (hl : b < w.heap.size) : w'.cell? ⟨b, o, none⟩ = w.cell? ⟨b, o, none⟩ := by
  unfold World.cell?
  rw [h.block b hl (Ne.symm hne)]
theorem infoIG : (Tryz.prog.info? 3).map (fun i => (i.zero, i.size, i.bytes)) = some (some (.int .i64 0), 1, 8) := by kernel_rfl
theorem ints_news {q : Option Nat} {w : World} {a : Option Addr} {xs : List Int} (h : IntsAt q w a xs) : (a = none → xs.length = 0) ∧ ∀ ad, a = some ad → ∀ (j : Nat) u, (icells xs)[j]? = some u → w.cell? (ad.add j) = some u := by
  constructor
  · rintro rfl
    rcases xs with _ | ⟨x, r⟩
    · rfl
    · obtain ⟨_, _, e, _⟩ := h.get (i := 0) (x := x) rfl
      cases e
  · rintro ad rfl j u hu
    unfold icells at hu
    rw [List.getElem?_map] at hu
    obtain ⟨x, hx, rfl⟩ := Option.map_eq_some_iff.1 hu
    obtain ⟨b, o, e, _, hc⟩ := h.get hx
    injection e with e
    subst e
    by_cases hj : j = 0
    · subst hj
      simpa [Addr.add] using hc
    · simpa [Addr.add, hj] using hc
theorem icells_one' (xs : List Int) : ∀ u ∈ icells xs, u.oneCell' = true := by
  intro u hu
  obtain ⟨x, _, rfl⟩ := List.mem_map.1 hu
  rfl
set_option maxRecDepth 100000 in
set_option maxHeartbeats 3200000 in
theorem l4Inst_own (x : In) (ta : Option Addr) (tc : Nat) {q : Option Nat} (w : World) (ht : IntsAt q w ta x.tags) (hl : x.tags.length ≤ 1048576) :
    Calls Tryz.prog 19 #[.agg #[.int .i64 x.rule, .slice ta x.tags.length tc]] w fun e w' => (∃ a' c', e = .returned (.agg #[.int .i64 x.rule, .slice a' x.tags.length c']) ∧ w'.ownsRow w.heap.size 3 1 (.slice a' x.tags.length c') x.tags.length (icells x.tags)) ∧ Below w.heap.size w w' := by
  have HT := hidA ht
  clear ht
  go_enter Tryz.func19, Tryz.ntmps19
  go_upto_region 2 with fail
  refine lift2A ?_
  intro w1 hW1 hq1 hq2
  obtain ⟨b1, hb1⟩ : ∃ b, b = w.heap.size := ⟨_, rfl⟩
  obtain ⟨b2, hb2⟩ : ∃ b, b = b1 + 1 := ⟨_, rfl⟩
  rw [← hb1] at hq1
  rw [← hb1] at hq2
  rw [← hb2] at hq2
  (try rw [← hb1])
  (try rw [← hb2])
  have d0 : w1.cell? ⟨b1, 0, none⟩ = some (.int .i64 x.rule) := by simp [World.cell?, hq1]
  have d1 : w1.cell? ⟨b1, 1, none⟩ = some (.slice ta x.tags.length tc) := by simp [World.cell?, hq1]
  have H1 := hidA hW1
  have T1 := hidA (HT.out.below hW1)
  have Q2 := hidA hq2
  have hs1 := hW1.size
  have h12 : b1 ≠ b2 := by omega
  have h21 : b2 ≠ b1 := by omega
  have hw2 : w.heap.size ≤ b2 := by omega
  have hl2 : b2 < w1.heap.size := lt_of_block' hq2
  have hl1 : b1 < w1.heap.size := lt_of_block' hq1
  clear hW1 hq1 hq2 hb1 hb2
  go_wp2_with fail
  refine wp_region_noPanic ?_
  refine wp_region_held_drew (S := (fun w' => w'.cell? ⟨b1, 0, none⟩ = some (.int .i64 x.rule) ∧ w'.cell? ⟨b1, 1, none⟩ = some (.slice ta x.tags.length tc))) (by kernel_rfl) ?_ (fun hHeld => ?_)
  · (try dsimp only)
    exact ⟨d0, d1⟩
  refine tk 0 hHeld ?_
  (try simp only [pA, pZ, pS])
  refine tk 1 hHeld ?_
  (try simp only [pA, pZ, pS])
  refine tk 2 hHeld ?_
  (try simp only [pA, pZ, pS])
  refine tk 3 hHeld ?_
  (try simp only [pA, pZ, pS])
  refine tk 4 hHeld ?_
  (try simp only [pA, pZ, pS])
  refine wpAnyH_ready (rs := [5]) (by kernel_rfl) (by simp) ?_
  refine AllReadyH.cons (List.getElem?_toArray.trans rfl) (fun K hK => ?_) AllReadyH.nil
  (refine step_append_any (by rfl) (.tmp 6) (.tmp 8) 43 (by rfl) w1.heap.size 3 _ 1 8 Tryz.underlying43 infoIG (by rfl) (by omega) _ 0 [] (by rfl) (World.ownsRow_nil _ _ _ _) ta x.tags.length tc (by rfl) (icells x.tags) (by simp [icells]) (ints_news (T1.out.below (Below.refl _ _).drew)).1 (ints_news (T1.out.below (Below.refl _ _).drew)).2 (icells_one' _) (by unfold maxLen; omega) (by omega) (Nat.le_refl _) ?_; intro a8 c8 w8 ho8 hg8 hl8)
  refine hK.out _ _ ?hS2 (fun hHeld => ?_)
  case hS2 => ((try dsimp only); exact ⟨(cell_grownA hg8.out (by simp [Value.ownBlock]) (by simpa using hl1)).trans d0, (cell_grownA hg8.out (by simp [Value.ownBlock]) (by simpa using hl1)).trans d1⟩)
  clear hK K
  (first | simp only [pA, pZ, pS] | simp only [pN] | skip)
  have q8 : w8.heap[b2]? = some (.cells #[.int .i64 0, .slice none 0 0] 47 (0, 0)) := (hg8.out.block b2 (by simpa using hl2) (by simp [Value.ownBlock])).trans Q2.out
  have e0 : w8.cell? ⟨b2, 0, none⟩ = some (.int .i64 0) := by simp [World.cell?, q8]
  have e1 : w8.cell? ⟨b2, 1, none⟩ = some (.slice none 0 0) := by simp [World.cell?, q8]
  have f0 : w8.frozen? ⟨b2, 0, none⟩ = false := by simp [World.frozen?, q8]
  have f1 : w8.frozen? ⟨b2, 1, none⟩ = false := by simp [World.frozen?, q8]
  have m0 : w8.cell? ⟨b1, 0, none⟩ = some (.int .i64 x.rule) := (cell_grownA hg8.out (by simp [Value.ownBlock]) (by simpa using hl1)).trans d0
  have m1 : w8.cell? ⟨b1, 1, none⟩ = some (.slice ta x.tags.length tc) := (cell_grownA hg8.out (by simp [Value.ownBlock]) (by simpa using hl1)).trans d1
  have O8 := hidA (show w8.ownsRow w1.heap.size 3 1 (.slice a8 x.tags.length c8) x.tags.length (icells x.tags) by have := ho8.out; simpa using this)
  have B8 := hidA (show Below w.heap.size w w8 from H1.out.trans (((Below.refl w1.heap.size w1).drew.grown hg8.out (Nat.le_refl _) (fun g hg => by cases hg)).mono hs1))
  have Q8 := hidA q8
  clear hg8 hl8 ho8 q8
  refine tk 6 hHeld ?_
  (try simp only [pA, pZ, pS])
  refine wpAnyH_ready (rs := [7]) (by kernel_rfl) (by simp) ?_
  refine AllReadyH.cons (List.getElem?_toArray.trans rfl) (fun K hK => ?_) AllReadyH.nil
  go_simp
  refine hK.out _ _ ?hS4 (fun hHeld => ?_)
  case hS4 => ((try dsimp only); exact ⟨(World.cell?_setCell_far _ _ _ _ h21).trans ((World.cell?_setCell_far _ _ _ _ h21).trans m0), (World.cell?_setCell_far _ _ _ _ h21).trans ((World.cell?_setCell_far _ _ _ _ h21).trans m1)⟩)
  clear hK K
  (first | simp only [pA, pZ, pS] | simp only [pN] | skip)
  refine wpAnyH_done (by kernel_rfl) ?_ _
  refine NoPanic.normal ?_
  have O9 := hidA (owns_base (own_set (x := .slice a8 x.tags.length c8) (o := 1) (own_set (x := .int .i64 x.rule) (o := 0) O8.out Q8.out (by decide)) (heap_setCell_same (i := 0) Q8.out (.int .i64 x.rule)) (by decide)) hs1)
  go_wp2_with fail
  refine bodyPost_ret (v := .agg #[.int .i64 x.rule, .slice a8 x.tags.length c8]) (by simp [results, Tryz.results19, go_sem, e0, e1]) rfl ?_
  exact ⟨⟨a8, c8, rfl, O9.out⟩, (B8.out.setCell (by simp; omega) _).setCell (by simp; omega) _⟩
end Go.Proofs.YtofflfaineodmaaGreat

namespace Go.Proofs.YtofflfaineodmaaGreat
open Go.RowKit
attribute [local go_sem ↓] Go.wp_at_zero Go.wp_at_succ

def toIn (x : It) : In := ⟨x.rule, x.tags⟩
def gi (N : List ItX) (k : Nat) : ItX := (N[k]?).getD (⟨0, []⟩, .nilIface)
def fi (N : List ItX) (k : Nat) : In := toIn (gi N k).1
theorem gi_at {N : List ItX} {k : Nat} {x : ItX} (h : N[k]? = some x) : gi N k = x := by unfold gi; rw [h]; rfl
theorem fi_at {N : List ItX} {k : Nat} {x : ItX} (h : N[k]? = some x) : fi N k = toIn x.1 := by unfold fi; rw [gi_at h]
theorem upto_fi (N : List ItX) : upto (fi N) N.length = N.map (fun y => toIn y.1) := by
  apply List.ext_getElem?
  intro k
  unfold upto
  by_cases hk : k < N.length
  · rw [List.getElem?_map, List.getElem?_range hk, List.getElem?_map, List.getElem?_eq_getElem hk]
    simp [fi_at (List.getElem?_eq_getElem hk)]
  · rw [List.getElem?_eq_none (by simp; omega), List.getElem?_eq_none (by simp; omega)]
theorem rem_perm {α : Type} {N : List α} {m n : Nat} {x y : α} (h1 : N[m]? = some x) (h2 : N[n]? = some y) (hn : N.length = n + 1) : ((N.set m y).take n ++ [x]).Perm N := by
  have hm : m < n + 1 := by have := (List.getElem?_eq_some_iff.1 h1).1; omega
  have hN : N = N.take n ++ [y] := by
    have e4 := List.take_add_one (l := N) (i := n)
    rw [h2, List.take_of_length_le (by omega)] at e4
    exact e4
  by_cases e : m = n
  · subst e
    rw [h1] at h2
    injection h2 with h2
    subst h2
    rw [List.take_set_of_le (Nat.le_refl _)]
    rw [← hN]
  · have hlt : m < n := by omega
    obtain ⟨A, hA⟩ : ∃ A, A = N.take n := ⟨_, rfl⟩
    rw [← hA] at hN
    have hAl : A.length = n := by rw [hA, List.length_take]; omega
    have hAx : A[m]? = some x := by rw [hA, List.getElem?_take, if_pos hlt]; exact h1
    subst hN
    rw [List.set_append_left _ _ (by omega), List.take_append_of_le_length (by rw [List.length_set]; omega), List.take_of_length_le (by rw [List.length_set]; omega)]
    have hs : A = A.take m ++ x :: A.drop (m + 1) := by
      have hx := List.getElem?_eq_some_iff.1 hAx
      obtain ⟨hl, rfl⟩ := hx
      rw [← List.drop_eq_getElem_cons hl, List.take_append_drop]
    have hs2 : A.set m y = A.take m ++ y :: A.drop (m + 1) := by rw [List.set_eq_take_append_cons_drop, if_pos (by omega)]
    rw [hs2]
    have hp1 : (A.take m ++ y :: A.drop (m + 1) ++ [x]).Perm (x :: y :: (A.take m ++ A.drop (m + 1))) := (List.perm_append_comm).trans (List.Perm.cons _ List.perm_middle)
    have hp2 : (A ++ [y]).Perm (y :: x :: (A.take m ++ A.drop (m + 1))) := by
      refine (List.perm_append_comm).trans (List.Perm.cons _ ?_)
      have h3 : A.Perm (x :: (A.take m ++ A.drop (m + 1))) := by
        conv => lhs; rw [hs]
        exact List.perm_middle
      exact h3
    exact hp1.trans ((List.Perm.swap _ _ _).trans hp2.symm)
/-- One that nothing is ahead of comes out. -/
theorem OutF.at {α : Type} {lt : α → α → Bool} {all out : List α} {f g : Nat → α} {n m : Nat} (h : OutF lt all out f (n + 1)) (hm : m < n + 1) (hmin : ∀ k, k < n + 1 → lt (f k) (f m) = false) (hg : (upto g n ++ [f m]).Perm (upto f (n + 1))) : OutF lt all (out ++ [f m]) g n := by
  have hmem : ∀ k, k < n → ∃ m, m < n + 1 ∧ g k = f m := fun k hk => by
    have h1 : g k ∈ upto g n ++ [f m] := List.mem_append.2 (.inl (List.mem_map.2 ⟨k, List.mem_range.2 hk, rfl⟩))
    obtain ⟨m, hm, e⟩ := List.mem_map.1 (hg.mem_iff.1 h1)
    exact ⟨m, List.mem_range.1 hm, e.symm⟩
  refine ⟨?_, ?_, ?_⟩
  · refine List.Perm.trans ?_ h.perm
    rw [List.append_assoc]
    refine List.Perm.append_left out ?_
    exact (List.perm_append_comm).trans hg
  · rw [List.pairwise_append]
    refine ⟨h.sort, by simp, fun a ha b hb => ?_⟩
    simp at hb
    subst hb
    exact h.rest a ha m hm
  · intro a ha k hk
    obtain ⟨i, hi, e⟩ := hmem k hk
    rw [e]
    rcases List.mem_append.1 ha with ha | ha
    · exact h.rest a ha i hi
    · simp at ha
      subst ha
      exact hmin i hi
end Go.Proofs.YtofflfaineodmaaGreat
