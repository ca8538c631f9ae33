/-
  OUR OWN TEXT. RdG, Ll, one behind the other.
-/
import Derived.Test.YtjjjagepnnbebaaGreatDoorRd0m
import Derived.Test.YtjjjagepnnbebaaGreatDoorTym
import Derived.Test.YtjjjagepnnbebaaGreatDoorAppm
namespace Go.Proofs.YtjjjagepnnbebaaGreatDoor
open Go.RowKit Go.Deep

section
variable {H : Type} {enc : TypeId × Value → H} {w : World} {base : Nat} {spare : Nat → Bool} {held : Bool}

/-- A list of rows that came in. -/
theorem rd_rows {α : Type} (d : α) {R : World → List Value → α → Prop} {Ok : α → Prop} (t e T : TypeId) (m : Nat) (ht : Tryz.prog.underlying t = some (.slice e)) (ce : Tryz.prog.cellsOf e = m) (hm0 : 0 < m)
    (each : ∀ (n : Nat) (cs : List Value) (x : DataW H × List MemPlace), DataW.trod enc Tryz.prog w base spare held n e cs = some x → cs.length = m → ∃ v : α, R w cs v ∧ Ok v)
    {n : Nat} {cs : List Value} {x : DataW H × List MemPlace} (h : DataW.trod enc Tryz.prog w base spare held n t cs = some x) :
    ∃ a c, ∃ vs : List α, cs = [.slice a vs.length c] ∧ RowsAt R none T m w a vs ∧ vs.length ≤ c ∧ vs.length ≤ maxLen ∧ ∀ v ∈ vs, Ok v := by
  rcases open_slice ht h with ⟨rfl, _⟩ | ⟨a, len, cap, mm, k, D, Pl, rfl, _, hl, hm, hmm, _, hx⟩
  · exact ⟨none, 0, [], rfl, RowsAt.nil, Nat.zero_le _, Nat.zero_le _, fun v hv => by simp at hv⟩
  have hlm : len ≤ mm := by rw [hmm]; split <;> omega
  have one : ∀ i, i < len → ∃ v : α, (∃ r, r.length = m ∧ (∀ j u, r[j]? = some u → w.cell? (a.add (i * m + j)) = some u) ∧ R w r v) ∧ Ok v := by
    intro i hi
    obtain ⟨cs', h1, h2⟩ := hx i (by omega)
    rw [ce] at h1
    obtain ⟨_, hlen, hcell⟩ := World.cells?_some h1
    obtain ⟨v, hR, hO⟩ := each _ _ _ h2 hlen
    refine ⟨v, ⟨cs', hlen, fun j u hj => ?_, hR⟩, hO⟩
    have hjm : j < m := by rw [← hlen]; exact (List.getElem?_eq_some_iff.1 hj).1
    have := hcell j hjm
    rw [add_add] at this
    rw [this, hj]
  have : Nonempty (Inhabited α) := ⟨⟨d⟩⟩
  obtain ⟨inh⟩ := this
  obtain ⟨f, hf⟩ := choose_lt one
  refine ⟨some a, cap, (List.range len).map f, by simp, ?_, by simp; omega, by simp; omega, ?_⟩
  · intro i v hv
    obtain ⟨hji, rfl⟩ := map_range_at hv
    obtain ⟨⟨r, hr, hc, hR⟩, _⟩ := hf i hji
    obtain ⟨b, o, sp⟩ := a
    obtain ⟨⟨r0, hr0, hc0, _⟩, _⟩ := hf 0 (by omega)
    obtain ⟨u0, hu0⟩ : ∃ u, r0[0]? = some u := ⟨r0[0]'(by omega), by simp⟩
    obtain ⟨u1, hu1⟩ : ∃ u, r[0]? = some u := ⟨r[0]'(by omega), by simp⟩
    have hsp : sp = none := spot_none (by simpa using hc0 0 u0 hu0) (hc 0 u1 hu1)
    subst hsp
    refine ⟨b, o, r, rfl, Qb.bare _ _ _, hr, fun j u hj => ?_, hR⟩
    have := hc j u hj
    rw [Addr.add_mid] at this
    rwa [Nat.add_assoc]
  · intro v hv
    obtain ⟨i, hi, rfl⟩ := List.mem_map.1 hv
    exact (hf i (List.mem_range.1 hi)).2

end
end Go.Proofs.YtjjjagepnnbebaaGreatDoor

namespace Go.Proofs.YtjjjagepnnbebaaGreatDoor
open Go.RowKit

def icells (xs : List Int) : List Value := xs.map (Value.int .i64)
structure OLL (w : World) (base : Nat) (v : Value) (n : Nat) (xss : List (List Int)) (vs : List Value) : Prop where
  num : n = xss.length
  len : vs.length = xss.length
  own : w.ownsRow base 71 1 v n vs
  each : ∀ (i : Nat) (xs : List Int) (x : Value), xss[i]? = some xs → vs[i]? = some x → (∃ a c, x = .slice a xs.length c) ∧ w.ownsRow base 3 1 x xs.length (icells xs)
  apart : ∀ x ∈ vs, Apart v x
  pair : vs.Pairwise Apart

/-- A block of theirs. -/
def InLL (v : Value) (vs : List Value) (g : Nat) : Prop := v.ownBlock = some g ∨ ∃ x ∈ vs, x.ownBlock = some g

theorem OLL.each' {w : World} {base : Nat} {v : Value} {n : Nat} {xss : List (List Int)} {vs : List Value} (h : OLL w base v n xss vs) {x : Value} (hx : x ∈ vs) : ∃ xs ∈ xss, w.ownsRow base 3 1 x xs.length (icells xs) := by
  obtain ⟨i, hi, rfl⟩ := List.getElem_of_mem hx
  have hf : i < xss.length := by rw [← h.len]; exact hi
  exact ⟨xss[i], List.getElem_mem hf, (h.each i _ _ (List.getElem?_eq_getElem hf) (List.getElem?_eq_getElem hi)).2⟩
theorem OLL.range {w : World} {base : Nat} {v : Value} {n : Nat} {xss : List (List Int)} {vs : List Value} (h : OLL w base v n xss vs) {g : Nat} (hg : InLL v vs g) : base ≤ g ∧ g < w.heap.size := by
  rcases hg with hg | ⟨x, hx, hg⟩
  · exact h.own.lt g hg
  · obtain ⟨xs, _, ho⟩ := h.each' hx
    exact ho.lt g hg
theorem OLL.kept {w w' : World} {base : Nat} {v : Value} {n : Nat} {xss : List (List Int)} {vs : List Value} (h : OLL w base v n xss vs) (hb : ∀ g, InLL v vs g → w'.heap[g]? = w.heap[g]?) : OLL w' base v n xss vs :=
  ⟨h.num, h.len, owns_of_block h.own (fun g hg => hb g (.inl hg)), fun i f x hf hx => ⟨(h.each i f x hf hx).1, owns_of_block (h.each i f x hf hx).2 (fun g hg => hb g (.inr ⟨x, List.mem_of_getElem? hx, hg⟩))⟩, h.apart, h.pair⟩
theorem OLL.below {w w' : World} {base : Nat} {v : Value} {n : Nat} {xss : List (List Int)} {vs : List Value} (h : OLL w base v n xss vs) (hb : Below w.heap.size w w') : OLL w' base v n xss vs :=
  h.kept fun g hg => hb.block g (h.range hg).2
theorem OLL.nil (w : World) (base : Nat) : OLL w base (.slice none 0 0) 0 [] [] :=
  ⟨rfl, rfl, World.ownsRow_nil _ _ _ _, fun i f x hf => by simp at hf, fun x hx => by simp at hx, List.Pairwise.nil⟩

theorem IntsAt.owns {w : World} {base n : Nat} {a : Option Addr} {c : Nat} {xs : List Int} (h : w.ownsRow base 3 1 (.slice a n c) n (icells xs)) : IntsAt none w a xs := by
  intro i s hs
  have k0 : (icells xs)[i]? = some (.int .i64 s) := by simp [icells, hs]
  obtain ⟨g, rfl, _, h0, _⟩ := owns_cell h k0
  refine ⟨g, 0, [.int .i64 s], rfl, Qb.bare _ _ _, rfl, ?_, rfl⟩
  intro j v hj
  have hj0 : j = 0 := by
    have := (List.getElem?_eq_some_iff.1 hj).1
    simp at this
    exact this
  subst hj0
  simp at hj
  subst hj
  simpa using h0
/-- Lists of numbers that lie in memory. -/
def IssAt (w : World) (a : Option Addr) (xss : List (List Int)) : Prop :=
  ∀ (i : Nat) (xs : List Int), xss[i]? = some xs → ∃ b o a' c', a = some ⟨b, o, none⟩ ∧ w.cell? ⟨b, o + i, none⟩ = some (.slice a' xs.length c') ∧ IntsAt none w a' xs
theorem IssAt.below {w w' : World} {a : Option Addr} {xss : List (List Int)} (h : IssAt w a xss) (hb : Below w.heap.size w w') : IssAt w' a xss := by
  intro i xs hx
  obtain ⟨b, o, a', c', e, hc, hi⟩ := h i xs hx
  exact ⟨b, o, a', c', e, cell_below hb hc, hi.below hb⟩
theorem OLL.at {w : World} {base : Nat} {a : Option Addr} {n c : Nat} {xss : List (List Int)} {vs : List Value} (h : OLL w base (.slice a n c) n xss vs) : IssAt w a xss := by
  intro i xs hx
  have hi : i < xss.length := (List.getElem?_eq_some_iff.1 hx).1
  have hv : vs[i]? = some (vs[i]'(by rw [h.len]; exact hi)) := List.getElem?_eq_getElem _
  obtain ⟨⟨a', c', e⟩, ho⟩ := h.each i xs _ hx hv
  obtain ⟨g, rfl, _, h0, _⟩ := owns_cell h.own hv
  rw [e] at h0 ho
  exact ⟨g, 0, a', c', rfl, by simpa using h0, IntsAt.owns ho⟩
end Go.Proofs.YtjjjagepnnbebaaGreatDoor
