/-
  OUR OWN TEXT. Alphas that are owned, a Net in its box; what carries them.
-/
import Derived.Test.YtgamdkokmkagaaaGreatQc
import Derived.Test.YtgamdkokmkagaaaGreatQa
import Derived.Test.YtgamdkokmkagaaaGreatQe
namespace Go.Proofs.YtgamdkokmkagaaaGreat
open Go.RowKit

/-- An Alpha that was made: its data, and the slice of its tests. -/
abbrev AlX := Al × Value
def alCells (x : AlX) : List Value := [.string x.1.cls, .int .i64 x.1.arity, x.2]
def AlP (w : World) (base : Nat) (x : AlX) : Prop := (∃ a c, x.2 = .slice a x.1.tests.length c) ∧ w.ownsRow base 90 6 x.2 x.1.tests.length (x.1.tests.flatMap ttCells)
/-- Alphas that were made: an owned row. -/
def AO (w : World) (base : Nat) (a : Option Addr) (c : Nat) (L : List AlX) : Prop := w.ownsRow base 54 3 (.slice a L.length c) L.length (L.flatMap alCells) ∧ ∀ x ∈ L, AlP w base x
theorem AO.nil (w : World) (base : Nat) : AO w base none 0 [] := ⟨World.ownsRow_nil _ _ _ _, fun x hx => by simp at hx⟩
theorem AlP.bel {w w' : World} {base : Nat} {x : AlX} (h : AlP w base x) (hb : Below w.heap.size w w') : AlP w' base x := ⟨h.1, own_bel h.2 hb⟩
theorem AO.bel {w w' : World} {base : Nat} {a : Option Addr} {c : Nat} {L : List AlX} (h : AO w base a c L) (hb : Below w.heap.size w w') : AO w' base a c L := ⟨own_bel h.1 hb, fun x hx => (h.2 x hx).bel hb⟩
theorem AlP.grown {w w' : World} {base : Nat} {t : TypeId} {x : AlX} {row : Option Nat} (h : AlP w base x) (hg : w.grownBy w' row) (ht : ∀ k, row = some k → ∃ c, w.heap[k]? = some (.cells c t (0, 0))) (h1 : t ≠ 90) : AlP w' base x := ⟨h.1, own_grown h.2 hg ht h1⟩
theorem AO.grown {w w' : World} {base : Nat} {t : TypeId} {a : Option Addr} {c : Nat} {L : List AlX} {row : Option Nat} (h : AO w base a c L) (hg : w.grownBy w' row) (ht : ∀ k, row = some k → ∃ c, w.heap[k]? = some (.cells c t (0, 0))) (h1 : t ≠ 90) (h2 : t ≠ 54) : AO w' base a c L := ⟨own_grown h.1 hg ht h2, fun x hx => (h.2 x hx).grown hg ht h1⟩
theorem AO.set {w : World} {base b o : Nat} {t : TypeId} {a : Option Addr} {c' : Nat} {L : List AlX} {v : Value} {c : Array Value} {fr : Nat × Nat} (h : AO w base a c' L) (hb : w.heap[b]? = some (.cells c t fr)) (h1 : t ≠ 90) (h2 : t ≠ 54) : AO (w.setCell ⟨b, o, none⟩ v) base a c' L := ⟨own_set h.1 hb h2, fun x hx => ⟨(h.2 x hx).1, own_set (h.2 x hx).2 hb h1⟩⟩
theorem AlP.lower {w : World} {base base' : Nat} {x : AlX} (h : AlP w base x) (hb : base' ≤ base) : AlP w base' x := ⟨h.1, owns_base h.2 hb⟩
theorem AO.snoc {w w' : World} {base : Nat} {a a' : Option Addr} {c c' : Nat} {L : List AlX} {x : AlX} (h : AO w base a c L) (hx : AlP w base x) (ho : w'.ownsRow base 54 3 (.slice a' (L.length + 1) c') (L.length + 1) (L.flatMap alCells ++ alCells x)) (hg : w.grownBy w' (Value.slice a L.length c).ownBlock) : AO w' base a' c' (L ++ [x]) := by
  refine ⟨by simpa using ho, fun y hy => ?_⟩
  have hy' : AlP w base y := by
    rcases List.mem_append.1 hy with hy | hy
    · exact h.2 y hy
    · simp at hy
      subst hy
      exact hx
  exact hy'.grown hg (fun k hk => own_type h.1 hk) (by decide)
theorem al_at {w : World} {base : Nat} {a : Option Addr} {c : Nat} {L : List AlX} (h : AO w base a c L) {i : Nat} {x : AlX} (hi : L[i]? = some x) :
    ∃ k, a = some ⟨k, 0, none⟩ ∧ k < w.heap.size ∧ w.cell? ⟨k, i * 3, none⟩ = some (.string x.1.cls) ∧ w.cell? ⟨k, i * 3 + 1, none⟩ = some (.int .i64 x.1.arity) ∧ w.cell? ⟨k, i * 3 + 2, none⟩ = some x.2 := by
  have key := fun j u (hj : (alCells x)[j]? = some u) => owns_cell h.1 (flat_gen (cells := alCells) (m := 3) (fun _ => rfl) L i x j u hi hj)
  obtain ⟨k, rfl, _, h0, _⟩ := key 0 _ rfl
  obtain ⟨k1, e1, _, h1, _⟩ := key 1 _ rfl
  obtain ⟨k2, e2, _, h2, _⟩ := key 2 _ rfl
  cases e1
  cases e2
  exact ⟨k, rfl, World.block_lt_of_cell? w ⟨k, _, none⟩ h0, h0, h1, h2⟩
theorem AO.at {w : World} {base : Nat} {a : Option Addr} {c : Nat} {L : List AlX} (h : AO w base a c L) : AlsAt none w a (L.map Prod.fst) := by
  intro i x hi
  rw [List.getElem?_map] at hi
  obtain ⟨y, hy, rfl⟩ := Option.map_eq_some_iff.1 hi
  obtain ⟨k, e, _, h0, h1, h2⟩ := al_at h hy
  obtain ⟨⟨at', ct, hs⟩, ho⟩ := h.2 y (List.mem_of_getElem? hy)
  rw [hs] at h2 ho
  refine ⟨k, 0, [.string y.1.cls, .int .i64 y.1.arity, .slice at' y.1.tests.length ct], e, Qb.bare _ _ _, rfl, ?_, at', ct, rfl, TtsAt.owns ho⟩
  intro j v hj
  rcases j with _ | _ | _ | j
  · simp at hj
    subst hj
    simpa using h0
  · simp at hj
    subst hj
    simpa using h1
  · simp at hj
    subst hj
    simpa using h2
  · simp at hj
/-- A Net in its box. -/
def NB (w : World) (b : Nat) (v0 v1 : Value) : Prop := w.heap[b]? = some (.cells #[v0, v1] 27 (0, 0))
theorem NB.facts {w : World} {b : Nat} {v0 v1 : Value} (h : NB w b v0 v1) : (w.cell? ⟨b, 0, none⟩ = some v0 ∧ w.cell? ⟨b, 1, none⟩ = some v1) ∧ (∀ j, w.frozen? ⟨b, j, none⟩ = false) ∧ b < w.heap.size := by
  unfold NB at h
  refine ⟨⟨?_, ?_⟩, fun j => ?_, lt_of_block' h⟩ <;> simp [World.cell?, World.frozen?, h]
theorem NB.bel {w w' : World} {b : Nat} {v0 v1 : Value} (h : NB w b v0 v1) (hb : Below w.heap.size w w') : NB w' b v0 v1 := (hb.block b (lt_of_block' h)).trans h
theorem NB.grown {w w' : World} {b : Nat} {t : TypeId} {v0 v1 : Value} {row : Option Nat} (h : NB w b v0 v1) (hg : w.grownBy w' row) (ht : ∀ k, row = some k → ∃ c, w.heap[k]? = some (.cells c t (0, 0))) (h1 : t ≠ 27) : NB w' b v0 v1 := box_grown h hg ht h1
theorem NB.set0 {w : World} {b : Nat} {v0 v1 : Value} (h : NB w b v0 v1) (x : Value) : NB (w.setCell ⟨b, 0, none⟩ x) b x v1 := by
  have := heap_setCell_same (i := 0) h x
  simpa [NB] using this
theorem NB.set1 {w : World} {b : Nat} {v0 v1 : Value} (h : NB w b v0 v1) (x : Value) : NB (w.setCell ⟨b, 1, none⟩ x) b v0 x := by
  have := heap_setCell_same (i := 1) h x
  simpa [NB] using this
theorem NB.far {w : World} {b d j : Nat} {v0 v1 x : Value} (h : NB w b v0 v1) (hne : b ≠ d) : NB (w.setCell ⟨d, j, none⟩ x) b v0 v1 := (Below.heap_setCell w ⟨d, j, none⟩ x b hne).trans h
theorem OLL.inType {w : World} {base : Nat} {v : Value} {n : Nat} {xss : List (List Int)} {vs : List Value} (h : OLL w base v n xss vs) {g : Nat} (hg : InLL v vs g) : (∃ c, w.heap[g]? = some (.cells c 48 (0, 0))) ∨ ∃ c, w.heap[g]? = some (.cells c 3 (0, 0)) := by
  rcases hg with hg | ⟨x, hx, hg⟩
  · exact .inl (own_type h.own hg)
  · obtain ⟨xs, _, ho⟩ := h.each' hx
    exact .inr (own_type ho hg)
theorem OLL.grownT {w w' : World} {base : Nat} {t : TypeId} {v : Value} {n : Nat} {xss : List (List Int)} {vs : List Value} {row : Option Nat} (h : OLL w base v n xss vs) (hg : w.grownBy w' row) (ht : ∀ k, row = some k → ∃ c, w.heap[k]? = some (.cells c t (0, 0))) (h1 : t ≠ 48) (h2 : t ≠ 3) : OLL w' base v n xss vs :=
  h.kept fun g hgi => hg.block g (h.range hgi).2 (fun e => by
    obtain ⟨c, hc⟩ := ht g e.symm
    rcases h.inType hgi with ⟨c', hc'⟩ | ⟨c', hc'⟩
    · exact own_far hc hc' h1
    · exact own_far hc hc' h2)
theorem OLL.grownHi {w w' : World} {base W : Nat} {v : Value} {n : Nat} {xss : List (List Int)} {vs : List Value} {row : Option Nat} (h : OLL w base v n xss vs) (hg : w.grownBy w' row) (hr : ∀ k, row = some k → W ≤ k) (hlow : ∀ g, InLL v vs g → g < W) : OLL w' base v n xss vs :=
  h.kept fun g hgi => hg.block g (h.range hgi).2 (fun e => by
    have h1 := hr g e.symm
    have h2 := hlow g hgi
    omega)
theorem OLL.setT {w : World} {base b o : Nat} {t : TypeId} {v : Value} {n : Nat} {xss : List (List Int)} {vs : List Value} {x : Value} {c : Array Value} {fr : Nat × Nat} (h : OLL w base v n xss vs) (hb : w.heap[b]? = some (.cells c t fr)) (h1 : t ≠ 48) (h2 : t ≠ 3) : OLL (w.setCell ⟨b, o, none⟩ x) base v n xss vs :=
  h.kept fun g hgi => Below.heap_setCell _ _ _ _ (fun e => by
    have e' : g = b := e
    subst e'
    rcases h.inType hgi with ⟨c', hc'⟩ | ⟨c', hc'⟩
    · exact own_far hb hc' h1
    · exact own_far hb hc' h2)
theorem infoAlF : (Tryz.prog.info? 54).map (fun i => (i.zero, i.size, i.bytes)) = some (some (.agg #[.string ⟨#[]⟩, .int .i64 0, .slice none 0 0]), 3, 48) := by kernel_rfl
theorem infoIF : (Tryz.prog.info? 3).map (fun i => (i.zero, i.size, i.bytes)) = some (some (.int .i64 0), 1, 8) := by kernel_rfl
theorem infoILF : (Tryz.prog.info? 48).map (fun i => (i.zero, i.size, i.bytes)) = some (some (.slice none 0 0), 1, 24) := by kernel_rfl
/-- The model's search, step by step. -/
theorem seekA_take {x : Al} : ∀ {A : List Al} {k : Nat}, k ≤ A.length → seekA x (A.take k) = min k (seekA x A)
  | [], k, h => by
    have : k = 0 := by simpa using h
    subst this
    simp [seekA]
  | y :: r, 0, _ => by simp [seekA]
  | y :: r, k + 1, h => by
    simp only [List.take_succ_cons, seekA]
    split
    · simp
    · rw [seekA_take (by simpa using h)]
      omega
theorem lastA_zero (x : Al) (A : List Al) : lastA x A 0 = -1 := by simp [lastA]
theorem lastA_yes {x y : Al} {A : List Al} {k : Nat} (hn : A.Nodup) (hy : A[k]? = some y) (h : sameA y x = true) : lastA x A (k + 1) = (k : Int) := by
  have e := sameA_iff.1 h
  subst e
  have hk : k < A.length := (List.getElem?_eq_some_iff.1 hy).1
  have hs : seekA y A < A.length := seekA_lt.2 (List.mem_of_getElem? hy)
  have ha := seekA_at hs
  have heq : seekA y A = k := by
    have h1 := List.getElem?_eq_some_iff.1 ha
    have h2 := List.getElem?_eq_some_iff.1 hy
    obtain ⟨h3, h4⟩ := h1
    obtain ⟨h5, h6⟩ := h2
    have hp := List.pairwise_iff_getElem.1 hn
    rcases Nat.lt_trichotomy (seekA y A) k with hlt | heq | hgt
    · exact absurd (h4.trans h6.symm) (hp _ _ h3 h5 hlt)
    · exact heq
    · exact absurd (h6.trans h4.symm) (hp _ _ h5 h3 hgt)
  unfold lastA
  rw [seekA_take (by omega), heq]
  rw [if_pos (by omega)]
  congr 1
  omega
theorem lastA_no {x y : Al} {A : List Al} {k : Nat} (hy : A[k]? = some y) (h : sameA y x = false) : lastA x A (k + 1) = lastA x A k := by
  have hk : k < A.length := (List.getElem?_eq_some_iff.1 hy).1
  have hne : seekA x A ≠ k := by
    intro e
    have := seekA_at (x := x) (A := A) (by omega)
    rw [e, hy] at this
    injection this with this
    rw [this, sameA_iff.2 rfl] at h
    cases h
  unfold lastA
  rw [seekA_take (by omega), seekA_take (by omega)]
  by_cases hl : seekA x A < k
  · rw [if_pos (by omega), if_pos (by omega)]
    congr 1
    omega
  · rw [if_neg (by omega), if_neg (by omega)]
theorem lastA_end (x : Al) (A : List Al) : lastA x A A.length = if seekA x A < A.length then ((seekA x A : Nat) : Int) else -1 := by
  unfold lastA
  rw [List.take_of_length_le (Nat.le_refl _)]
end Go.Proofs.YtgamdkokmkagaaaGreat
