/-
  OUR OWN TEXT. Rows that are owned: what carries them (by the type of their blocks); a world behind an alloc, named.
-/
import Derived.Test.YtgkoiojelckblaaGreatDoorKag
namespace Go.Proofs.YtgkoiojelckblaaGreatDoor
open Go.RowKit

theorem news_new (w : World) (L : List Value) (t : TypeId) (b : Nat) (hb : b = w.heap.size) (ad : Addr) (e : some (⟨b, 0, none⟩ : Addr) = some ad) (j : Nat) (u : Value) (h : L[j]? = some u) : (w.alloc (.cells L.toArray t)).cell? (ad.add j) = some u := by
  subst hb
  cases e
  rw [Addr.add_mid, Nat.zero_add]
  have hb := heap_alloc_new w (.cells L.toArray t)
  simp only [World.cell?, hb]
  simpa using h
theorem own_type {w : World} {base : Nat} {e : TypeId} {m : Nat} {v : Value} {n : Nat} {xs : List Value} (h : w.ownsRow base e m v n xs) {k : Nat} (hk : v.ownBlock = some k) : ∃ c, w.heap[k]? = some (.cells c e (0, 0)) := by
  rcases h.2 with ⟨rfl, _⟩ | ⟨g, cap, cur, rfl, _, h3, _⟩
  · simp [Value.ownBlock] at hk
  · simp [Value.ownBlock] at hk
    subst hk
    exact ⟨cur, h3⟩
/-- Rows of two types lie in two blocks. -/
theorem own_far {w : World} {k : Nat} {c c' : Array Value} {t t' : TypeId} {f f' : Nat × Nat} (h : w.heap[k]? = some (.cells c t f)) (h' : w.heap[k]? = some (.cells c' t' f')) (hne : t ≠ t') : False := by
  rw [h] at h'
  simp at h'
  exact hne h'.2.1
theorem lift_alloc {P : World → Prop} {w1 : World} {o : Obj} (h : ∀ wt, Below w1.heap.size w1 wt → wt.heap[w1.heap.size]? = some o → P wt) : P (w1.alloc o) := h _ ((Below.refl _ _).alloc (Nat.le_refl _) _) (heap_alloc_new _ _)
theorem own_bel {w w' : World} {base : Nat} {e : TypeId} {m : Nat} {v : Value} {n : Nat} {xs : List Value} (h : w.ownsRow base e m v n xs) (hb : Below w.heap.size w w') : w'.ownsRow base e m v n xs :=
  owns_of_block h fun k hk => hb.block k (h.lt k hk).2
theorem own_grown {w w' : World} {base : Nat} {e t : TypeId} {m : Nat} {v : Value} {n : Nat} {xs : List Value} {row : Option Nat} (h : w.ownsRow base e m v n xs) (hg : w.grownBy w' row) (ht : ∀ k, row = some k → ∃ c, w.heap[k]? = some (.cells c t (0, 0))) (hne : t ≠ e) : w'.ownsRow base e m v n xs :=
  owns_of_block h fun k hk => hg.block k (h.lt k hk).2 (fun e => by
    obtain ⟨c, hc⟩ := ht k e.symm
    obtain ⟨c', hc'⟩ := own_type h hk
    exact own_far hc hc' hne)
theorem own_set {w : World} {base b o : Nat} {e t : TypeId} {m : Nat} {v : Value} {n : Nat} {xs : List Value} {x : Value} {c : Array Value} {fr : Nat × Nat} (h : w.ownsRow base e m v n xs) (hb : w.heap[b]? = some (.cells c t fr)) (hne : t ≠ e) : (w.setCell ⟨b, o, none⟩ x).ownsRow base e m v n xs :=
  owns_of_block h fun k hk => Below.heap_setCell _ _ _ _ (fun e => by
    obtain ⟨c', hc'⟩ := own_type h hk
    have e' : k = b := e
    subst e'
    exact own_far hb hc' hne)
theorem box_grown {w w' : World} {b : Nat} {t t' : TypeId} {c : Array Value} {fr : Nat × Nat} {row : Option Nat} (h : w.heap[b]? = some (.cells c t fr)) (hg : w.grownBy w' row) (ht : ∀ k, row = some k → ∃ c, w.heap[k]? = some (.cells c t' (0, 0))) (hne : t' ≠ t) : w'.heap[b]? = some (.cells c t fr) :=
  (hg.block b (lt_of_block' h) (fun e => by
    obtain ⟨c', hc⟩ := ht b e.symm
    exact own_far hc h hne)).trans h
theorem flat_gen {α : Type} {cells : α → List Value} {m : Nat} (hc : ∀ x, (cells x).length = m) : ∀ (xs : List α) (i : Nat) (x : α) (j : Nat) (u : Value), xs[i]? = some x → (cells x)[j]? = some u → (xs.flatMap cells)[i * m + j]? = some u
  | [], i, x, j, u, h, _ => by simp at h
  | y :: r, 0, x, j, u, h, hj => by
    simp at h
    subst h
    have hl : j < (cells y).length := (List.getElem?_eq_some_iff.1 hj).1
    rw [List.flatMap_cons, Nat.zero_mul, Nat.zero_add, List.getElem?_append_left hl]
    exact hj
  | y :: r, i + 1, x, j, u, h, hj => by
    rw [List.getElem?_cons_succ] at h
    have := flat_gen hc r i x j u h hj
    have e : (i + 1) * m = i * m + m := Nat.succ_mul i m
    rw [List.flatMap_cons, List.getElem?_append_right (by rw [hc]; omega), show (i + 1) * m + j - (cells y).length = i * m + j by rw [hc]; omega]
    exact this
end Go.Proofs.YtgkoiojelckblaaGreatDoor
