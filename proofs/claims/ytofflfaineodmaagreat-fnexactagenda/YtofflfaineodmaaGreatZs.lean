/-
  OUR OWN TEXT. Og, Mo0, In0, one behind the other.
-/
import Derived.Test.YtofflfaineodmaaGreatZg
import Derived.Test.YtofflfaineodmaaGreatZi
namespace Go.Proofs.YtofflfaineodmaaGreat
open Go.RowKit

theorem news_new (w : World) (L : List Value) (t : TypeId) (b : Nat) (hb : b = w.heap.size) (ad : Addr) (e : some (⟨b, 0, none⟩ : Addr) = some ad) (j : Nat) (u : Value) (h : L[j]? = some u) : (w.alloc (.cells L.toArray t)).cell? (ad.add j) = some u := by
  subst hb
  cases e
  rw [Addr.add_mid, Nat.zero_add]
  have hb := heap_alloc_new w (.cells L.toArray t)
  simp only [World.cell?, hb]
  simpa using h
theorem own_type {w : World} {base : Nat} {e : TypeId} {m : Nat} {v : Value} {n : Nat} {xs : List Value} (h : w.ownsRow base e m v n xs) {k : Nat} (hk : v.ownBlock = some k) : ∃ c, w.heap[k]? = some (.cells c e (0, 0)) := by
  rcases h.2 with ⟨rfl, _⟩ | ⟨g, cap, cur, rfl, _, h3, _⟩
  · simp [Value.ownBlock] at hk
  · simp [Value.ownBlock] at hk
    subst hk
    exact ⟨cur, h3⟩
/-- Rows of two types lie in two blocks. -/
theorem own_far {w : World} {k : Nat} {c c' : Array Value} {t t' : TypeId} {f f' : Nat × Nat} (h : w.heap[k]? = some (.cells c t f)) (h' : w.heap[k]? = some (.cells c' t' f')) (hne : t ≠ t') : False := by
  rw [h] at h'
  simp at h'
  exact hne h'.2.1
theorem lift_alloc {P : World → Prop} {w1 : World} {o : Obj} (h : ∀ wt, Below w1.heap.size w1 wt → wt.heap[w1.heap.size]? = some o → P wt) : P (w1.alloc o) := h _ ((Below.refl _ _).alloc (Nat.le_refl _) _) (heap_alloc_new _ _)
theorem own_bel {w w' : World} {base : Nat} {e : TypeId} {m : Nat} {v : Value} {n : Nat} {xs : List Value} (h : w.ownsRow base e m v n xs) (hb : Below w.heap.size w w') : w'.ownsRow base e m v n xs :=
  owns_of_block h fun k hk => hb.block k (h.lt k hk).2
theorem own_grown {w w' : World} {base : Nat} {e t : TypeId} {m : Nat} {v : Value} {n : Nat} {xs : List Value} {row : Option Nat} (h : w.ownsRow base e m v n xs) (hg : w.grownBy w' row) (ht : ∀ k, row = some k → ∃ c, w.heap[k]? = some (.cells c t (0, 0))) (hne : t ≠ e) : w'.ownsRow base e m v n xs :=
  owns_of_block h fun k hk => hg.block k (h.lt k hk).2 (fun e => by
    obtain ⟨c, hc⟩ := ht k e.symm
    obtain ⟨c', hc'⟩ := own_type h hk
    exact own_far hc hc' hne)
theorem own_set {w : World} {base b o : Nat} {e t : TypeId} {m : Nat} {v : Value} {n : Nat} {xs : List Value} {x : Value} {c : Array Value} {fr : Nat × Nat} (h : w.ownsRow base e m v n xs) (hb : w.heap[b]? = some (.cells c t fr)) (hne : t ≠ e) : (w.setCell ⟨b, o, none⟩ x).ownsRow base e m v n xs :=
  owns_of_block h fun k hk => Below.heap_setCell _ _ _ _ (fun e => by
    obtain ⟨c', hc'⟩ := own_type h hk
    have e' : k = b := e
    subst e'
    exact own_far hb hc' hne)
theorem box_grown {w w' : World} {b : Nat} {t t' : TypeId} {c : Array Value} {fr : Nat × Nat} {row : Option Nat} (h : w.heap[b]? = some (.cells c t fr)) (hg : w.grownBy w' row) (ht : ∀ k, row = some k → ∃ c, w.heap[k]? = some (.cells c t' (0, 0))) (hne : t' ≠ t) : w'.heap[b]? = some (.cells c t fr) :=
  (hg.block b (lt_of_block' h) (fun e => by
    obtain ⟨c', hc⟩ := ht b e.symm
    exact own_far hc h hne)).trans h
theorem flat_gen {α : Type} {cells : α → List Value} {m : Nat} (hc : ∀ x, (cells x).length = m) : ∀ (xs : List α) (i : Nat) (x : α) (j : Nat) (u : Value), xs[i]? = some x → (cells x)[j]? = some u → (xs.flatMap cells)[i * m + j]? = some u
  | [], i, x, j, u, h, _ => by simp at h
  | y :: r, 0, x, j, u, h, hj => by
    simp at h
    subst h
    have hl : j < (cells y).length := (List.getElem?_eq_some_iff.1 hj).1
    rw [List.flatMap_cons, Nat.zero_mul, Nat.zero_add, List.getElem?_append_left hl]
    exact hj
  | y :: r, i + 1, x, j, u, h, hj => by
    rw [List.getElem?_cons_succ] at h
    have := flat_gen hc r i x j u h hj
    have e : (i + 1) * m = i * m + m := Nat.succ_mul i m
    rw [List.flatMap_cons, List.getElem?_append_right (by rw [hc]; omega), show (i + 1) * m + j - (cells y).length = i * m + j by rw [hc]; omega]
    exact this
end Go.Proofs.YtofflfaineodmaaGreat

namespace Go.Proofs.YtofflfaineodmaaGreat
open Go.RowKit

/-- w' is w but for block b and new ones. -/
structure MkO (b : Option Nat) (w w' : World) : Prop where
  rest : Below 0 w w'
  block : ∀ g, g < w.heap.size → b ≠ some g → w'.heap[g]? = w.heap[g]?
theorem MkO.refl (b : Option Nat) (w : World) : MkO b w w := ⟨Below.refl _ _, fun _ _ _ => rfl⟩
theorem MkO.trans {b : Option Nat} {u v w : World} (h : MkO b u v) (k : MkO b v w) : MkO b u w :=
  ⟨h.rest.trans k.rest, fun g hg hs => (k.block g (Nat.lt_of_lt_of_le hg h.rest.size) hs).trans (h.block g hg hs)⟩
theorem MkO.of_below {b : Option Nat} {u v : World} (h : Below u.heap.size u v) : MkO b u v := ⟨h.mono (Nat.zero_le _), fun g hg _ => h.block g hg⟩
theorem MkO.set {w : World} {g o : Nat} (x : Value) : MkO (some g) w (w.setCell ⟨g, o, none⟩ x) :=
  ⟨(Below.refl _ _).setCell (Nat.zero_le _) _, fun h _ hs => Below.heap_setCell _ _ _ _ (fun e => hs (by rw [e]))⟩
theorem MkO.below {b : Option Nat} {w w' : World} {B : Nat} (h : MkO b w w') (hB : B ≤ w.heap.size) (hs : ∀ g, b = some g → B ≤ g) : Below B w w' :=
  ⟨h.rest.os, h.rest.tape, h.rest.output, h.rest.size, fun k hk => h.block k (by omega) (fun e => by have := hs k e; omega)⟩
end Go.Proofs.YtofflfaineodmaaGreat

namespace Go.Proofs.YtofflfaineodmaaGreat
open Go.RowKit

structure It where
  rule : Int
  tags : List Int
/-- An instantiation that was made: its data, the slice of its tags. -/
abbrev ItX := It × Value
def itCells (x : ItX) : List Value := [.int .i64 x.1.rule, x.2]
structure ItP (w : World) (base : Nat) (x : ItX) : Prop where
  ts : ∃ a c, x.2 = .slice a x.1.tags.length c
  ot : w.ownsRow base 3 1 x.2 x.1.tags.length (icells x.1.tags)
/-- Instantiations that were made: an owned row. -/
structure Iw (w : World) (b1 base : Nat) (a : Option Addr) (c : Nat) (L : List ItX) : Prop where
  row : w.ownsRow b1 47 2 (.slice a L.length c) L.length (L.flatMap itCells)
  all : ∀ x ∈ L, ItP w base x
theorem Iw.nil (w : World) (b1 base : Nat) : Iw w b1 base none 0 [] := ⟨World.ownsRow_nil _ _ _ _, fun x hx => by simp at hx⟩
theorem ItP.bel {w w' : World} {base : Nat} {x : ItX} (h : ItP w base x) (hb : Below w.heap.size w w') : ItP w' base x := ⟨h.ts, own_bel h.ot hb⟩
theorem ItP.lower {w : World} {base base' : Nat} {x : ItX} (h : ItP w base x) (hb : base' ≤ base) : ItP w base' x := ⟨h.ts, owns_base h.ot hb⟩
theorem Iw.bel {w w' : World} {b1 base : Nat} {a : Option Addr} {c : Nat} {L : List ItX} (h : Iw w b1 base a c L) (hb : Below w.heap.size w w') : Iw w' b1 base a c L := ⟨own_bel h.row hb, fun x hx => (h.all x hx).bel hb⟩
theorem Iw.lower {w : World} {b1 base b1' base' : Nat} {a : Option Addr} {c : Nat} {L : List ItX} (h : Iw w b1 base a c L) (h1 : b1' ≤ b1) (h2 : base' ≤ base) : Iw w b1' base' a c L := ⟨owns_base h.row h1, fun x hx => (h.all x hx).lower h2⟩
theorem ItP.grown {w w' : World} {base : Nat} {t : TypeId} {x : ItX} {row : Option Nat} (h : ItP w base x) (hg : w.grownBy w' row) (ht : ∀ k, row = some k → ∃ c, w.heap[k]? = some (.cells c t (0, 0))) (h1 : t ≠ 3) : ItP w' base x := ⟨h.ts, own_grown h.ot hg ht h1⟩
theorem Iw.snoc {w w' : World} {b1 base : Nat} {a a' : Option Addr} {c c' : Nat} {L : List ItX} {x : ItX} (h : Iw w b1 base a c L) (hx : ItP w base x) (ho : w'.ownsRow b1 47 2 (.slice a' (L.length + 1) c') (L.length + 1) (L.flatMap itCells ++ itCells x)) (hg : w.grownBy w' (Value.slice a L.length c).ownBlock) : Iw w' b1 base a' c' (L ++ [x]) := by
  refine ⟨by simpa using ho, fun y hy => ?_⟩
  have hy' : ItP w base y := by
    rcases List.mem_append.1 hy with hy | hy
    · exact h.all y hy
    · simp at hy
      subst hy
      exact hx
  exact hy'.grown hg (fun k hk => own_type h.row hk) (by decide)
theorem Iw.get {w : World} {b1 base : Nat} {a : Option Addr} {c : Nat} {L : List ItX} (h : Iw w b1 base a c L) {i : Nat} {x : ItX} (hi : L[i]? = some x) :
    ∃ k, a = some ⟨k, 0, none⟩ ∧ b1 ≤ k ∧ k < w.heap.size ∧ w.cell? ⟨k, i * 2, none⟩ = some (.int .i64 x.1.rule) ∧ w.cell? ⟨k, i * 2 + 1, none⟩ = some x.2 ∧ w.frozen? ⟨k, i * 2, none⟩ = false := by
  have key := fun j u (hj : (itCells x)[j]? = some u) => owns_cell h.row (flat_gen (cells := itCells) (m := 2) (fun _ => rfl) L i x j u hi hj)
  obtain ⟨k, rfl, hk, h0, f0⟩ := key 0 _ rfl
  obtain ⟨k1, e1, _, h1, _⟩ := key 1 _ rfl
  cases e1
  exact ⟨k, rfl, hk, World.block_lt_of_cell? w ⟨k, _, none⟩ h0, h0, h1, f0⟩
theorem itCells_one {w : World} {base : Nat} {x : ItX} (h : ItP w base x) : ∀ u ∈ itCells x, u.oneCell' = true := by
  obtain ⟨⟨a, c, h1⟩, _⟩ := h
  intro u hu
  simp [itCells] at hu
  rcases hu with rfl | rfl
  · rfl
  · rw [h1]; rfl
theorem infoItF : (Tryz.prog.info? 47).map (fun i => (i.zero, i.size, i.bytes)) = some (some (.agg #[.int .i64 0, .slice none 0 0]), 2, 32) := by kernel_rfl
/-- Instantiations that lie in memory. -/
def ItsAt (w : World) (a : Option Addr) (L : List It) : Prop :=
  ∀ (i : Nat) (x : It), L[i]? = some x → ∃ b o a' c', a = some ⟨b, o, none⟩ ∧ w.cell? ⟨b, o + i * 2, none⟩ = some (.int .i64 x.rule) ∧ w.cell? ⟨b, o + i * 2 + 1, none⟩ = some (.slice a' x.tags.length c') ∧ IntsAt none w a' x.tags
theorem ItsAt.below {w w' : World} {a : Option Addr} {L : List It} (h : ItsAt w a L) (hb : Below w.heap.size w w') : ItsAt w' a L := by
  intro i x hx
  obtain ⟨b, o, a', c', e, h0, h1, hi⟩ := h i x hx
  exact ⟨b, o, a', c', e, cell_below hb h0, cell_below hb h1, hi.below hb⟩
theorem Iw.at {w : World} {b1 base : Nat} {a : Option Addr} {c : Nat} {M : List ItX} (h : Iw w b1 base a c M) : ItsAt w a (M.map Prod.fst) := by
  intro i x hx
  rw [List.getElem?_map] at hx
  obtain ⟨y, hy, rfl⟩ := Option.map_eq_some_iff.1 hx
  obtain ⟨k, rfl, _, _, h0, h1, _⟩ := h.get hy
  obtain ⟨⟨a', c', e⟩, ho⟩ := h.all y (List.mem_of_getElem? hy)
  rw [e] at h1 ho
  exact ⟨k, 0, a', c', rfl, by simpa using h0, by simpa using h1, IntsAt.owns ho⟩
/-- A block of theirs. -/
def InIt (v : Value) (M : List ItX) (g : Nat) : Prop := v.ownBlock = some g ∨ ∃ x ∈ M, x.2.ownBlock = some g
theorem Iw.range {w : World} {base : Nat} {a : Option Addr} {c : Nat} {M : List ItX} (h : Iw w base base a c M) {g : Nat} (hg : InIt (.slice a M.length c) M g) : base ≤ g ∧ g < w.heap.size := by
  rcases hg with hg | ⟨x, hx, hg⟩
  · exact h.row.lt g hg
  · exact (h.all x hx).ot.lt g hg
theorem Iw.kept {w w' : World} {b1 base : Nat} {a : Option Addr} {c : Nat} {M : List ItX} (h : Iw w b1 base a c M) (hb : ∀ g, InIt (.slice a M.length c) M g → w'.heap[g]? = w.heap[g]?) : Iw w' b1 base a c M :=
  ⟨owns_of_block h.row (fun g hg => hb g (.inl hg)), fun x hx => ⟨(h.all x hx).ts, owns_of_block (h.all x hx).ot (fun g hg => hb g (.inr ⟨x, hx, hg⟩))⟩⟩
end Go.Proofs.YtofflfaineodmaaGreat
