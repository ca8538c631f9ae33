/-
  OUR OWN TEXT. Rows of the laws' own types that came in, read: lists of rows, numbers, terms, patterns.
-/
import Derived.Test.YtdhpoagjmiligaaGreatDoorRd0m
import Derived.Test.YtdhpoagjmiligaaGreatDoorKad
namespace Go.Proofs.YtdhpoagjmiligaaGreatDoor
open Go.RowKit Go.Deep

section
variable {H : Type} {enc : TypeId × Value → H} {w : World} {base : Nat} {spare : Nat → Bool} {held : Bool}

/-- A list of rows that came in. -/
theorem rd_rows {α : Type} (d : α) {R : World → List Value → α → Prop} {Ok : α → Prop} (t e T : TypeId) (m : Nat) (ht : Tryz.prog.underlying t = some (.slice e)) (ce : Tryz.prog.cellsOf e = m) (hm0 : 0 < m)
    (each : ∀ (n : Nat) (cs : List Value) (x : DataW H × List MemPlace), DataW.trod enc Tryz.prog w base spare held n e cs = some x → cs.length = m → ∃ v : α, R w cs v ∧ Ok v)
    {n : Nat} {cs : List Value} {x : DataW H × List MemPlace} (h : DataW.trod enc Tryz.prog w base spare held n t cs = some x) :
    ∃ a c, ∃ vs : List α, cs = [.slice a vs.length c] ∧ RowsAt R none T m w a vs ∧ vs.length ≤ c ∧ vs.length ≤ maxLen ∧ ∀ v ∈ vs, Ok v := by
  rcases open_slice ht h with ⟨rfl, _⟩ | ⟨a, len, cap, mm, k, D, Pl, rfl, _, hl, hm, hmm, _, hx⟩
  · exact ⟨none, 0, [], rfl, RowsAt.nil, Nat.zero_le _, Nat.zero_le _, fun v hv => by simp at hv⟩
  have hlm : len ≤ mm := by rw [hmm]; split <;> omega
  have one : ∀ i, i < len → ∃ v : α, (∃ r, r.length = m ∧ (∀ j u, r[j]? = some u → w.cell? (a.add (i * m + j)) = some u) ∧ R w r v) ∧ Ok v := by
    intro i hi
    obtain ⟨cs', h1, h2⟩ := hx i (by omega)
    rw [ce] at h1
    obtain ⟨_, hlen, hcell⟩ := World.cells?_some h1
    obtain ⟨v, hR, hO⟩ := each _ _ _ h2 hlen
    refine ⟨v, ⟨cs', hlen, fun j u hj => ?_, hR⟩, hO⟩
    have hjm : j < m := by rw [← hlen]; exact (List.getElem?_eq_some_iff.1 hj).1
    have := hcell j hjm
    rw [add_add] at this
    rw [this, hj]
  have : Nonempty (Inhabited α) := ⟨⟨d⟩⟩
  obtain ⟨inh⟩ := this
  obtain ⟨f, hf⟩ := choose_lt one
  refine ⟨some a, cap, (List.range len).map f, by simp, ?_, by simp; omega, by simp; omega, ?_⟩
  · intro i v hv
    obtain ⟨hji, rfl⟩ := map_range_at hv
    obtain ⟨⟨r, hr, hc, hR⟩, _⟩ := hf i hji
    obtain ⟨b, o, sp⟩ := a
    obtain ⟨⟨r0, hr0, hc0, _⟩, _⟩ := hf 0 (by omega)
    obtain ⟨u0, hu0⟩ : ∃ u, r0[0]? = some u := ⟨r0[0]'(by omega), by simp⟩
    obtain ⟨u1, hu1⟩ : ∃ u, r[0]? = some u := ⟨r[0]'(by omega), by simp⟩
    have hsp : sp = none := spot_none (by simpa using hc0 0 u0 hu0) (hc 0 u1 hu1)
    subst hsp
    refine ⟨b, o, r, rfl, Qb.bare _ _ _, hr, fun j u hj => ?_, hR⟩
    have := hc j u hj
    rw [Addr.add_mid] at this
    rwa [Nat.add_assoc]
  · intro v hv
    obtain ⟨i, hi, rfl⟩ := List.mem_map.1 hv
    exact (hf i (List.mem_range.1 hi)).2

end
end Go.Proofs.YtdhpoagjmiligaaGreatDoor
