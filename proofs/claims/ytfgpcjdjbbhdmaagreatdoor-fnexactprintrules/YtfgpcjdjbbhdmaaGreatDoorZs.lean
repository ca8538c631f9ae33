/-
  OUR OWN TEXT. Ll, Og, Mo0, one behind the other.
-/
import Derived.Test.YtfgpcjdjbbhdmaaGreatDoorZg
import Derived.Test.YtfgpcjdjbbhdmaaGreatDoorZc
namespace Go.Proofs.YtfgpcjdjbbhdmaaGreatDoor
open Go.RowKit

def icells (xs : List Int) : List Value := xs.map (Value.int .i64)
structure OLL (w : World) (base : Nat) (v : Value) (n : Nat) (xss : List (List Int)) (vs : List Value) : Prop where
  num : n = xss.length
  len : vs.length = xss.length
  own : w.ownsRow base 92 1 v n vs
  each : ∀ (i : Nat) (xs : List Int) (x : Value), xss[i]? = some xs → vs[i]? = some x → (∃ a c, x = .slice a xs.length c) ∧ w.ownsRow base 3 1 x xs.length (icells xs)
  apart : ∀ x ∈ vs, Apart v x
  pair : vs.Pairwise Apart

/-- A block of theirs. -/
def InLL (v : Value) (vs : List Value) (g : Nat) : Prop := v.ownBlock = some g ∨ ∃ x ∈ vs, x.ownBlock = some g

theorem OLL.each' {w : World} {base : Nat} {v : Value} {n : Nat} {xss : List (List Int)} {vs : List Value} (h : OLL w base v n xss vs) {x : Value} (hx : x ∈ vs) : ∃ xs ∈ xss, w.ownsRow base 3 1 x xs.length (icells xs) := by
  obtain ⟨i, hi, rfl⟩ := List.getElem_of_mem hx
  have hf : i < xss.length := by rw [← h.len]; exact hi
  exact ⟨xss[i], List.getElem_mem hf, (h.each i _ _ (List.getElem?_eq_getElem hf) (List.getElem?_eq_getElem hi)).2⟩
theorem OLL.range {w : World} {base : Nat} {v : Value} {n : Nat} {xss : List (List Int)} {vs : List Value} (h : OLL w base v n xss vs) {g : Nat} (hg : InLL v vs g) : base ≤ g ∧ g < w.heap.size := by
  rcases hg with hg | ⟨x, hx, hg⟩
  · exact h.own.lt g hg
  · obtain ⟨xs, _, ho⟩ := h.each' hx
    exact ho.lt g hg
theorem OLL.kept {w w' : World} {base : Nat} {v : Value} {n : Nat} {xss : List (List Int)} {vs : List Value} (h : OLL w base v n xss vs) (hb : ∀ g, InLL v vs g → w'.heap[g]? = w.heap[g]?) : OLL w' base v n xss vs :=
  ⟨h.num, h.len, owns_of_block h.own (fun g hg => hb g (.inl hg)), fun i f x hf hx => ⟨(h.each i f x hf hx).1, owns_of_block (h.each i f x hf hx).2 (fun g hg => hb g (.inr ⟨x, List.mem_of_getElem? hx, hg⟩))⟩, h.apart, h.pair⟩
theorem OLL.below {w w' : World} {base : Nat} {v : Value} {n : Nat} {xss : List (List Int)} {vs : List Value} (h : OLL w base v n xss vs) (hb : Below w.heap.size w w') : OLL w' base v n xss vs :=
  h.kept fun g hg => hb.block g (h.range hg).2
theorem OLL.lower {w : World} {base base' : Nat} {v : Value} {n : Nat} {xss : List (List Int)} {vs : List Value} (h : OLL w base v n xss vs) (hb : base' ≤ base) : OLL w base' v n xss vs :=
  ⟨h.num, h.len, owns_base h.own hb, fun i f x hf hx => ⟨(h.each i f x hf hx).1, owns_base (h.each i f x hf hx).2 hb⟩, h.apart, h.pair⟩
theorem OLL.nil (w : World) (base : Nat) : OLL w base (.slice none 0 0) 0 [] [] :=
  ⟨rfl, rfl, World.ownsRow_nil _ _ _ _, fun i f x hf => by simp at hf, fun x hx => by simp at hx, List.Pairwise.nil⟩

/-- One list more, by append. -/
theorem OLL.snoc {w w' : World} {base : Nat} {v v' : Value} {n : Nat} {xss : List (List Int)} {vs : List Value} {xs : List Int} {x : Value} (h : OLL w base v n xss vs) (hx : (∃ a c, x = .slice a xs.length c) ∧ w.ownsRow base 3 1 x xs.length (icells xs))
    (hxv : Apart v x) (hxs : ∀ y ∈ vs, Apart y x) (ho : w'.ownsRow base 92 1 v' (n + 1) (vs ++ [x])) (hg : w.grownBy w' v.ownBlock) (hl : v'.ownBlock = v.ownBlock ∨ v'.ownBlock = some w.heap.size) : OLL w' base v' (n + 1) (xss ++ [xs]) (vs ++ [x]) := by
  have hblk : ∀ y : Value, (y ∈ vs ∨ y = x) → ∀ g, y.ownBlock = some g → g < w.heap.size ∧ w'.heap[g]? = w.heap[g]? := by
    intro y hy g hgy
    have hlt : g < w.heap.size := by
      rcases hy with hy | rfl
      · exact (h.range (.inr ⟨y, hy, hgy⟩)).2
      · exact (hx.2.lt g hgy).2
    refine ⟨hlt, hg.block g hlt ?_⟩
    intro e
    rcases hy with hy | rfl
    · exact h.apart y hy g e.symm hgy
    · exact hxv g e.symm hgy
  have hapart : ∀ y : Value, (y ∈ vs ∨ y = x) → Apart v' y := by
    intro y hy g hgv hgy
    rcases hl with hl | hl
    · rw [hl] at hgv
      rcases hy with hy | rfl
      · exact h.apart y hy g hgv hgy
      · exact hxv g hgv hgy
    · rw [hl] at hgv
      injection hgv with hgv
      have := (hblk y hy g hgy).1
      omega
  refine ⟨by simp [h.num], by simp [h.len], ho, ?_, ?_, ?_⟩
  · intro i f y hf hy
    by_cases hi : i < xss.length
    · rw [List.getElem?_append_left hi] at hf
      rw [List.getElem?_append_left (by rw [h.len]; exact hi)] at hy
      exact ⟨(h.each i f y hf hy).1, owns_of_block (h.each i f y hf hy).2 (fun g hgy => (hblk y (.inl (List.mem_of_getElem? hy)) g hgy).2)⟩
    · have hil : i < (xss ++ [xs]).length := (List.getElem?_eq_some_iff.1 hf).1
      simp at hil
      obtain rfl : i = xss.length := by omega
      simp at hf
      rw [List.getElem?_append_right (by rw [h.len]; exact Nat.le_refl _)] at hy
      simp [h.len] at hy
      subst hf hy
      exact ⟨hx.1, owns_of_block hx.2 (fun g hgy => (hblk _ (.inr rfl) g hgy).2)⟩
  · intro y hy
    rcases List.mem_append.1 hy with hy | hy
    · exact hapart y (.inl hy)
    · simp at hy
      exact hapart y (.inr hy)
  · rw [List.pairwise_append]
    exact ⟨h.pair, by simp, fun y hy z hz => by simp at hz; subst hz; exact hxs y hy⟩

theorem IntsAt.owns {w : World} {base n : Nat} {a : Option Addr} {c : Nat} {xs : List Int} (h : w.ownsRow base 3 1 (.slice a n c) n (icells xs)) : IntsAt none w a xs := by
  intro i s hs
  have k0 : (icells xs)[i]? = some (.int .i64 s) := by simp [icells, hs]
  obtain ⟨g, rfl, _, h0, _⟩ := owns_cell h k0
  refine ⟨g, 0, [.int .i64 s], rfl, Qb.bare _ _ _, rfl, ?_, rfl⟩
  intro j v hj
  have hj0 : j = 0 := by
    have := (List.getElem?_eq_some_iff.1 hj).1
    simp at this
    exact this
  subst hj0
  simp at hj
  subst hj
  simpa using h0
/-- Lists of numbers that lie in memory. -/
def IssAt (w : World) (a : Option Addr) (xss : List (List Int)) : Prop :=
  ∀ (i : Nat) (xs : List Int), xss[i]? = some xs → ∃ b o a' c', a = some ⟨b, o, none⟩ ∧ w.cell? ⟨b, o + i, none⟩ = some (.slice a' xs.length c') ∧ IntsAt none w a' xs
theorem IssAt.below {w w' : World} {a : Option Addr} {xss : List (List Int)} (h : IssAt w a xss) (hb : Below w.heap.size w w') : IssAt w' a xss := by
  intro i xs hx
  obtain ⟨b, o, a', c', e, hc, hi⟩ := h i xs hx
  exact ⟨b, o, a', c', e, cell_below hb hc, hi.below hb⟩
theorem OLL.at {w : World} {base : Nat} {a : Option Addr} {n c : Nat} {xss : List (List Int)} {vs : List Value} (h : OLL w base (.slice a n c) n xss vs) : IssAt w a xss := by
  intro i xs hx
  have hi : i < xss.length := (List.getElem?_eq_some_iff.1 hx).1
  have hv : vs[i]? = some (vs[i]'(by rw [h.len]; exact hi)) := List.getElem?_eq_getElem _
  obtain ⟨⟨a', c', e⟩, ho⟩ := h.each i xs _ hx hv
  obtain ⟨g, rfl, _, h0, _⟩ := owns_cell h.own hv
  rw [e] at h0 ho
  exact ⟨g, 0, a', c', rfl, by simpa using h0, IntsAt.owns ho⟩
end Go.Proofs.YtfgpcjdjbbhdmaaGreatDoor

namespace Go.Proofs.YtfgpcjdjbbhdmaaGreatDoor
open Go.RowKit

theorem news_new (w : World) (L : List Value) (t : TypeId) (b : Nat) (hb : b = w.heap.size) (ad : Addr) (e : some (⟨b, 0, none⟩ : Addr) = some ad) (j : Nat) (u : Value) (h : L[j]? = some u) : (w.alloc (.cells L.toArray t)).cell? (ad.add j) = some u := by
  subst hb
  cases e
  rw [Addr.add_mid, Nat.zero_add]
  have hb := heap_alloc_new w (.cells L.toArray t)
  simp only [World.cell?, hb]
  simpa using h
theorem own_type {w : World} {base : Nat} {e : TypeId} {m : Nat} {v : Value} {n : Nat} {xs : List Value} (h : w.ownsRow base e m v n xs) {k : Nat} (hk : v.ownBlock = some k) : ∃ c, w.heap[k]? = some (.cells c e (0, 0)) := by
  rcases h.2 with ⟨rfl, _⟩ | ⟨g, cap, cur, rfl, _, h3, _⟩
  · simp [Value.ownBlock] at hk
  · simp [Value.ownBlock] at hk
    subst hk
    exact ⟨cur, h3⟩
/-- Rows of two types lie in two blocks. -/
theorem own_far {w : World} {k : Nat} {c c' : Array Value} {t t' : TypeId} {f f' : Nat × Nat} (h : w.heap[k]? = some (.cells c t f)) (h' : w.heap[k]? = some (.cells c' t' f')) (hne : t ≠ t') : False := by
  rw [h] at h'
  simp at h'
  exact hne h'.2.1
theorem lift_alloc {P : World → Prop} {w1 : World} {o : Obj} (h : ∀ wt, Below w1.heap.size w1 wt → wt.heap[w1.heap.size]? = some o → P wt) : P (w1.alloc o) := h _ ((Below.refl _ _).alloc (Nat.le_refl _) _) (heap_alloc_new _ _)
theorem own_bel {w w' : World} {base : Nat} {e : TypeId} {m : Nat} {v : Value} {n : Nat} {xs : List Value} (h : w.ownsRow base e m v n xs) (hb : Below w.heap.size w w') : w'.ownsRow base e m v n xs :=
  owns_of_block h fun k hk => hb.block k (h.lt k hk).2
theorem own_grown {w w' : World} {base : Nat} {e t : TypeId} {m : Nat} {v : Value} {n : Nat} {xs : List Value} {row : Option Nat} (h : w.ownsRow base e m v n xs) (hg : w.grownBy w' row) (ht : ∀ k, row = some k → ∃ c, w.heap[k]? = some (.cells c t (0, 0))) (hne : t ≠ e) : w'.ownsRow base e m v n xs :=
  owns_of_block h fun k hk => hg.block k (h.lt k hk).2 (fun e => by
    obtain ⟨c, hc⟩ := ht k e.symm
    obtain ⟨c', hc'⟩ := own_type h hk
    exact own_far hc hc' hne)
theorem own_set {w : World} {base b o : Nat} {e t : TypeId} {m : Nat} {v : Value} {n : Nat} {xs : List Value} {x : Value} {c : Array Value} {fr : Nat × Nat} (h : w.ownsRow base e m v n xs) (hb : w.heap[b]? = some (.cells c t fr)) (hne : t ≠ e) : (w.setCell ⟨b, o, none⟩ x).ownsRow base e m v n xs :=
  owns_of_block h fun k hk => Below.heap_setCell _ _ _ _ (fun e => by
    obtain ⟨c', hc'⟩ := own_type h hk
    have e' : k = b := e
    subst e'
    exact own_far hb hc' hne)
theorem box_grown {w w' : World} {b : Nat} {t t' : TypeId} {c : Array Value} {fr : Nat × Nat} {row : Option Nat} (h : w.heap[b]? = some (.cells c t fr)) (hg : w.grownBy w' row) (ht : ∀ k, row = some k → ∃ c, w.heap[k]? = some (.cells c t' (0, 0))) (hne : t' ≠ t) : w'.heap[b]? = some (.cells c t fr) :=
  (hg.block b (lt_of_block' h) (fun e => by
    obtain ⟨c', hc⟩ := ht b e.symm
    exact own_far hc h hne)).trans h
theorem flat_gen {α : Type} {cells : α → List Value} {m : Nat} (hc : ∀ x, (cells x).length = m) : ∀ (xs : List α) (i : Nat) (x : α) (j : Nat) (u : Value), xs[i]? = some x → (cells x)[j]? = some u → (xs.flatMap cells)[i * m + j]? = some u
  | [], i, x, j, u, h, _ => by simp at h
  | y :: r, 0, x, j, u, h, hj => by
    simp at h
    subst h
    have hl : j < (cells y).length := (List.getElem?_eq_some_iff.1 hj).1
    rw [List.flatMap_cons, Nat.zero_mul, Nat.zero_add, List.getElem?_append_left hl]
    exact hj
  | y :: r, i + 1, x, j, u, h, hj => by
    rw [List.getElem?_cons_succ] at h
    have := flat_gen hc r i x j u h hj
    have e : (i + 1) * m = i * m + m := Nat.succ_mul i m
    rw [List.flatMap_cons, List.getElem?_append_right (by rw [hc]; omega), show (i + 1) * m + j - (cells y).length = i * m + j by rw [hc]; omega]
    exact this
end Go.Proofs.YtfgpcjdjbbhdmaaGreatDoor

namespace Go.Proofs.YtfgpcjdjbbhdmaaGreatDoor
open Go.RowKit

/-- w' is w but for block b and new ones. -/
structure MkO (b : Option Nat) (w w' : World) : Prop where
  rest : Below 0 w w'
  block : ∀ g, g < w.heap.size → b ≠ some g → w'.heap[g]? = w.heap[g]?
theorem MkO.refl (b : Option Nat) (w : World) : MkO b w w := ⟨Below.refl _ _, fun _ _ _ => rfl⟩
theorem MkO.trans {b : Option Nat} {u v w : World} (h : MkO b u v) (k : MkO b v w) : MkO b u w :=
  ⟨h.rest.trans k.rest, fun g hg hs => (k.block g (Nat.lt_of_lt_of_le hg h.rest.size) hs).trans (h.block g hg hs)⟩
theorem MkO.of_below {b : Option Nat} {u v : World} (h : Below u.heap.size u v) : MkO b u v := ⟨h.mono (Nat.zero_le _), fun g hg _ => h.block g hg⟩
theorem MkO.set {w : World} {g o : Nat} (x : Value) : MkO (some g) w (w.setCell ⟨g, o, none⟩ x) :=
  ⟨(Below.refl _ _).setCell (Nat.zero_le _) _, fun h _ hs => Below.heap_setCell _ _ _ _ (fun e => hs (by rw [e]))⟩
theorem MkO.below {b : Option Nat} {w w' : World} {B : Nat} (h : MkO b w w') (hB : B ≤ w.heap.size) (hs : ∀ g, b = some g → B ≤ g) : Below B w w' :=
  ⟨h.rest.os, h.rest.tape, h.rest.output, h.rest.size, fun k hk => h.block k (by omega) (fun e => by have := hs k e; omega)⟩
end Go.Proofs.YtfgpcjdjbbhdmaaGreatDoor
