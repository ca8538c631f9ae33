/-
  OUR OWN TEXT. Rows of the laws' own types that came in, read: lists of rows, numbers, terms, patterns.
-/
import Derived.Test.YtgamdkokmkagaaaJa
import Derived.Test.YtgamdkokmkagaaaJb
namespace Go.Proofs.Ytgamdkokmkagaaa
open Go.RowKit Go.Deep

theorem cellsB : Try.prog.cellsOf 4 = 1 := by kernel_rfl
theorem cellsLTerm : Try.prog.cellsOf 206 = 6 := by kernel_rfl
theorem cellsSTerm : Try.prog.cellsOf 68 = 1 := by kernel_rfl
theorem cellsLPattern : Try.prog.cellsOf 70 = 3 := by kernel_rfl
theorem cellsSPattern : Try.prog.cellsOf 131 = 1 := by kernel_rfl

section
variable {H : Type} {enc : TypeId × Value → H} {w : World} {base : Nat} {spare : Nat → Bool} {held : Bool}

/-- A list of rows that came in. -/
theorem rd_rows {α : Type} (d : α) {R : World → List Value → α → Prop} {Ok : α → Prop} (t e T : TypeId) (m : Nat) (ht : Try.prog.underlying t = some (.slice e)) (ce : Try.prog.cellsOf e = m) (hm0 : 0 < m)
    (each : ∀ (n : Nat) (cs : List Value) (x : DataW H × List MemPlace), DataW.trod enc Try.prog w base spare held n e cs = some x → cs.length = m → ∃ v : α, R w cs v ∧ Ok v)
    {n : Nat} {cs : List Value} {x : DataW H × List MemPlace} (h : DataW.trod enc Try.prog w base spare held n t cs = some x) :
    ∃ a c, ∃ vs : List α, cs = [.slice a vs.length c] ∧ RowsAt R none T m w a vs ∧ vs.length ≤ c ∧ vs.length ≤ maxLen ∧ ∀ v ∈ vs, Ok v := by
  rcases open_slice ht h with ⟨rfl, _⟩ | ⟨a, len, cap, mm, k, D, Pl, rfl, _, hl, hm, hmm, _, hx⟩
  · exact ⟨none, 0, [], rfl, RowsAt.nil, Nat.zero_le _, Nat.zero_le _, fun v hv => by simp at hv⟩
  have hlm : len ≤ mm := by rw [hmm]; split <;> omega
  have one : ∀ i, i < len → ∃ v : α, (∃ r, r.length = m ∧ (∀ j u, r[j]? = some u → w.cell? (a.add (i * m + j)) = some u) ∧ R w r v) ∧ Ok v := by
    intro i hi
    obtain ⟨cs', h1, h2⟩ := hx i (by omega)
    rw [ce] at h1
    obtain ⟨_, hlen, hcell⟩ := World.cells?_some h1
    obtain ⟨v, hR, hO⟩ := each _ _ _ h2 hlen
    refine ⟨v, ⟨cs', hlen, fun j u hj => ?_, hR⟩, hO⟩
    have hjm : j < m := by rw [← hlen]; exact (List.getElem?_eq_some_iff.1 hj).1
    have := hcell j hjm
    rw [add_add] at this
    rw [this, hj]
  have : Nonempty (Inhabited α) := ⟨⟨d⟩⟩
  obtain ⟨inh⟩ := this
  obtain ⟨f, hf⟩ := choose_lt one
  refine ⟨some a, cap, (List.range len).map f, by simp, ?_, by simp; omega, by simp; omega, ?_⟩
  · intro i v hv
    obtain ⟨hji, rfl⟩ := map_range_at hv
    obtain ⟨⟨r, hr, hc, hR⟩, _⟩ := hf i hji
    obtain ⟨b, o, sp⟩ := a
    obtain ⟨⟨r0, hr0, hc0, _⟩, _⟩ := hf 0 (by omega)
    obtain ⟨u0, hu0⟩ : ∃ u, r0[0]? = some u := ⟨r0[0]'(by omega), by simp⟩
    obtain ⟨u1, hu1⟩ : ∃ u, r[0]? = some u := ⟨r[0]'(by omega), by simp⟩
    have hsp : sp = none := spot_none (by simpa using hc0 0 u0 hu0) (hc 0 u1 hu1)
    subst hsp
    refine ⟨b, o, r, rfl, Qb.bare _ _ _, hr, fun j u hj => ?_, hR⟩
    have := hc j u hj
    rw [Addr.add_mid] at this
    rwa [Nat.add_assoc]
  · intro v hv
    obtain ⟨i, hi, rfl⟩ := List.mem_map.1 hv
    exact (hf i (List.mem_range.1 hi)).2

theorem rd_ints {n : Nat} {cs : List Value} {x : DataW H × List MemPlace} (h : DataW.trod enc Try.prog w base spare held n 142 cs = some x) :
    ∃ a c, ∃ vs : List Int, cs = [.slice a vs.length c] ∧ IntsAt none w a vs ∧ vs.length ≤ c ∧ vs.length ≤ maxLen ∧ ∀ v ∈ vs, True :=
  rd_rows (0 : Int) 142 3 3 1 Try.underlying142 cellsI (by omega) (fun n cs x h hc => by
    match cs, hc with
    | [v0], _ =>
      obtain ⟨k, e0, _, _⟩ := DataW.trod_int Try.underlying3 h
      exact ⟨k, e0, trivial⟩) h

theorem rd_Term {n : Nat} {cs : List Value} {x : DataW H × List MemPlace} (h : DataW.trod enc Try.prog w base spare held n 206 cs = some x) (hc : cs.length = 6) : ∃ v : Tm, Tm.R w cs v ∧ Tm.le maxLen v := by
  match cs, hc with
  | [v_kind, v_op, v_var, v_val0, v_val1, v_val2], _ =>
    obtain ⟨xs, n', _, rfl, _, hlen, hf⟩ := DataW.trod_struct Try.underlying206 h
    match xs, hlen with
    | [y0, y1, y2, y3], _ =>
      have h0 := (hf 0 _ rfl).trans (show _ = some y0 from rfl)
      have h1 := (hf 1 _ rfl).trans (show _ = some y1 from rfl)
      have h2 := (hf 2 _ rfl).trans (show _ = some y2 from rfl)
      have h3 := (hf 3 _ rfl).trans (show _ = some y3 from rfl)
      simp [cellsI] at h0
      simp [cellsI] at h1
      simp [cellsS] at h2
      simp [cellsLV] at h3
      obtain ⟨d_kind, e0, _, _⟩ := DataW.trod_int Try.underlying3 h0
      obtain ⟨d_op, e1, _, _⟩ := DataW.trod_int Try.underlying3 h1
      obtain ⟨d_var, e2, _, s2⟩ := DataW.trod_string Try.underlying9 h2
      obtain ⟨d_val, rfl, rfl, rfl, vok3⟩ := rd_val h3
      simp only [List.cons.injEq, and_true] at e0 e1 e2
      subst e0 e1 e2
      exact ⟨⟨d_kind, d_op, d_var, d_val⟩, rfl, ⟨s2, vok3.2.2⟩⟩

theorem rd_Terms {n : Nat} {cs : List Value} {x : DataW H × List MemPlace} (h : DataW.trod enc Try.prog w base spare held n 68 cs = some x) :
    ∃ a c, ∃ vs : List Tm, cs = [.slice a vs.length c] ∧ TmsAt none w a vs ∧ vs.length ≤ c ∧ vs.length ≤ maxLen ∧ ∀ v ∈ vs, Tm.le maxLen v :=
  rd_rows (⟨0, 0, ByteArray.empty, (0, 0, ByteArray.empty)⟩ : Tm) 68 206 152 6 Try.underlying68 cellsLTerm (by omega) (fun _ _ _ h hc => rd_Term h hc) h

theorem rd_Pattern {n : Nat} {cs : List Value} {x : DataW H × List MemPlace} (h : DataW.trod enc Try.prog w base spare held n 70 cs = some x) (hc : cs.length = 3) : ∃ v : Pt, (Pt.R none) w cs v ∧ Pt.le maxLen v := by
  match cs, hc with
  | [v_neg, v_cls, v_terms], _ =>
    obtain ⟨xs, n', _, rfl, _, hlen, hf⟩ := DataW.trod_struct Try.underlying70 h
    match xs, hlen with
    | [y0, y1, y2], _ =>
      have h0 := (hf 0 _ rfl).trans (show _ = some y0 from rfl)
      have h1 := (hf 1 _ rfl).trans (show _ = some y1 from rfl)
      have h2 := (hf 2 _ rfl).trans (show _ = some y2 from rfl)
      simp [cellsB] at h0
      simp [cellsS] at h1
      simp [cellsSTerm] at h2
      obtain ⟨d_neg, e0, _⟩ := DataW.trod_bool Try.underlying4 h0
      obtain ⟨d_cls, e1, _, s1⟩ := DataW.trod_string Try.underlying9 h1
      obtain ⟨a_terms, c_terms, d_terms, e2, at2, cap2, len2, ok2⟩ := rd_Terms h2
      simp only [List.cons.injEq, and_true] at e0 e1 e2
      subst e0 e1 e2
      exact ⟨⟨d_neg, d_cls, d_terms⟩, ⟨a_terms, c_terms, rfl, at2⟩, ⟨s1, ⟨len2, fun v hv => ok2 v hv⟩⟩⟩

theorem rd_Patterns {n : Nat} {cs : List Value} {x : DataW H × List MemPlace} (h : DataW.trod enc Try.prog w base spare held n 131 cs = some x) :
    ∃ a c, ∃ vs : List Pt, cs = [.slice a vs.length c] ∧ PtsAt none w a vs ∧ vs.length ≤ c ∧ vs.length ≤ maxLen ∧ ∀ v ∈ vs, Pt.le maxLen v :=
  rd_rows (⟨false, ByteArray.empty, []⟩ : Pt) 131 70 78 3 Try.underlying131 cellsLPattern (by omega) (fun _ _ _ h hc => rd_Pattern h hc) h

end
end Go.Proofs.Ytgamdkokmkagaaa
