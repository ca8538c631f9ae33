/-
  OUR OWN TEXT. Pl4, Rd4, one behind the other.
-/
import Derived.Test.YtognpkdgphebeaaGreatUh
import Derived.Test.YtognpkdgphebeaaGreatUi
import Derived.Test.YtognpkdgphebeaaGreatJa
import Derived.Maps.OwnSet
import Derived.Maps.RangeWalk
import Derived.DeepKeys4
import Derived.Deep.RegionHeld3
import Derived.Deep.DrawnRows
import Derived.Test.YtognpkdgphebeaaGreatJq
import Derived.Deep.Slices
import Derived.Deep.Strs
import Derived.Lib.SmallJoins
namespace Go.Proofs.YtognpkdgphebeaaGreat
open Go.RowKit Go.Maps
attribute [local go_sem ↓] Go.wp_at_zero Go.wp_at_succ

def Read (f : F) : Prop := (Lit.int .i64 f.tag).wf = true ∧ ∀ v ∈ f.slots, VOk v
end Go.Proofs.YtognpkdgphebeaaGreat

namespace Go.Proofs.YtognpkdgphebeaaGreat
open Go.RowKit Go.Deep

def Arg (fs : List F) : Prop := fs.length ≤ maxLen ∧ ∀ f ∈ fs, f.cls.size ≤ maxLen ∧ f.slots.length ≤ maxLen ∧ Read f
theorem cellsLF : Tryz.prog.cellsOf 71 = 3 := by kernel_rfl
theorem cellsLVS : Tryz.prog.cellsOf 69 = 1 := by kernel_rfl
section
variable {H : Type} {enc : TypeId × Value → H} {w : World} {base : Nat} {spare : Nat → Bool} {held : Bool}

theorem rd_vals {n : Nat} {cs : List Value} {x : DataW H × List MemPlace} (h : DataW.trod enc Tryz.prog w base spare held n 69 cs = some x) :
    ∃ a c, ∃ vs : List V, cs = [.slice a vs.length c] ∧ ValsAt w a vs ∧ vs.length ≤ maxLen ∧ ∀ v ∈ vs, VOk v := by
  rcases open_slice Tryz.underlying69 h with ⟨rfl, _⟩ | ⟨a, len, cap, m, k, D, Pl, rfl, _, hl, hm, hmm, _, hx⟩
  · exact ⟨none, 0, [], rfl, fun i v hv => by simp at hv, Nat.zero_le _, fun v hv => by simp at hv⟩
  have hlm : len ≤ m := by rw [hmm]; split <;> omega
  have each : ∀ i, i < len → ∃ v : V, (w.cell? (a.add (i * 3)) = some (.int .i64 v.kind) ∧ w.cell? (a.add (i * 3 + 1)) = some (.int .i64 v.num) ∧ w.cell? (a.add (i * 3 + 2)) = some (.string v.sym)) ∧ VOk v := by
    intro i hi
    obtain ⟨cs', h1, h2⟩ := hx i (by omega)
    rw [cellsLV] at h1
    obtain ⟨_, hlen, hcell⟩ := World.cells?_some h1
    match cs', hlen with
    | [v0, v1, v2], _ =>
      obtain ⟨v, rfl, rfl, rfl, hv⟩ := rd_val h2
      have e0 := hcell 0 (by omega)
      have e1 := hcell 1 (by omega)
      have e2 := hcell 2 (by omega)
      rw [add_add] at e0 e1 e2
      exact ⟨v, ⟨by simpa using e0, by simpa using e1, by simpa using e2⟩, hv⟩
  obtain ⟨f, hf⟩ := choose_lt each
  refine ⟨some a, cap, (List.range len).map f, by simp, ?_, by simp; omega, ?_⟩
  · intro i v hv
    obtain ⟨hji, rfl⟩ := map_range_at hv
    obtain ⟨⟨e0, e1, e2⟩, _⟩ := hf i hji
    obtain ⟨b, o, sp⟩ := a
    have hsp : sp = none := spot_none (by simpa using (hf 0 (by omega)).1.1) e0
    subst hsp
    refine ⟨b, o, rfl, ?_, ?_, ?_⟩
    · rw [Addr.add_mid] at e0; exact e0
    · rw [Addr.add_mid] at e1; exact e1
    · rw [Addr.add_mid] at e2; exact e2
  · intro v hv
    obtain ⟨i, hi, rfl⟩ := List.mem_map.1 hv
    exact (hf i (List.mem_range.1 hi)).2

theorem rd_fact {n : Nat} {v0 v1 v2 : Value} {x : DataW H × List MemPlace} (h : DataW.trod enc Tryz.prog w base spare held n 71 [v0, v1, v2] = some x) :
    ∃ f : F, v0 = .int .i64 f.tag ∧ v1 = .string f.cls ∧ (∃ a c, v2 = .slice a f.slots.length c ∧ ValsAt w a f.slots) ∧ f.cls.size ≤ maxLen ∧ f.slots.length ≤ maxLen ∧ Read f := by
  obtain ⟨y0, y1, y2, k, _, _, h0, h1, h2⟩ := trod_struct3 Tryz.underlying71 h
  simp only [cellsI, cellsLVS, cellsS, List.drop_zero, List.drop_succ_cons, List.take_succ_cons, List.take_zero] at h0 h1 h2
  obtain ⟨t, e0, _, wt⟩ := DataW.trod_int Tryz.underlying3 h0
  obtain ⟨s, e1, _, hs⟩ := DataW.trod_string Tryz.underlying9 h1
  obtain ⟨a, c, vs, e2, hv, hl, hok⟩ := rd_vals h2
  simp at e0 e1 e2
  exact ⟨⟨t, s, vs⟩, e0, e1, ⟨a, c, e2, hv⟩, hs, hl, wt, hok⟩

theorem rd_facts {n : Nat} {cs : List Value} {x : DataW H × List MemPlace} (h : DataW.trod enc Tryz.prog w base spare held n 27 cs = some x) :
    ∃ a c, ∃ fs : List F, cs = [.slice a fs.length c] ∧ FactsAt w a fs ∧ Arg fs := by
  rcases open_slice Tryz.underlying27 h with ⟨rfl, _⟩ | ⟨a, len, cap, m, k, D, Pl, rfl, _, hl, hm, hmm, _, hx⟩
  · exact ⟨none, 0, [], rfl, fun i v hv => by simp at hv, Nat.zero_le _, fun v hv => by simp at hv⟩
  have hlm : len ≤ m := by rw [hmm]; split <;> omega
  have each : ∀ i, i < len → ∃ f : F, (w.cell? (a.add (i * 3)) = some (.int .i64 f.tag) ∧ w.cell? (a.add (i * 3 + 1)) = some (.string f.cls) ∧ ∃ a' c', w.cell? (a.add (i * 3 + 2)) = some (.slice a' f.slots.length c') ∧ ValsAt w a' f.slots) ∧ f.cls.size ≤ maxLen ∧ f.slots.length ≤ maxLen ∧ Read f := by
    intro i hi
    obtain ⟨cs', h1, h2⟩ := hx i (by omega)
    rw [cellsLF] at h1
    obtain ⟨_, hlen, hcell⟩ := World.cells?_some h1
    match cs', hlen with
    | [v0, v1, v2], _ =>
      obtain ⟨f, rfl, rfl, ⟨a', c', rfl, hv⟩, hf⟩ := rd_fact h2
      have e0 := hcell 0 (by omega)
      have e1 := hcell 1 (by omega)
      have e2 := hcell 2 (by omega)
      rw [add_add] at e0 e1 e2
      exact ⟨f, ⟨by simpa using e0, by simpa using e1, a', c', by simpa using e2, hv⟩, hf⟩
  have : Nonempty (Inhabited F) := ⟨⟨⟨0, ByteArray.empty, []⟩⟩⟩
  obtain ⟨inh⟩ := this
  obtain ⟨f, hf⟩ := choose_lt each
  refine ⟨some a, cap, (List.range len).map f, by simp, ?_, by simp; omega, ?_⟩
  · intro i v hv
    obtain ⟨hji, rfl⟩ := map_range_at hv
    obtain ⟨⟨e0, e1, a', c', e2, hsl⟩, _⟩ := hf i hji
    obtain ⟨b, o, sp⟩ := a
    have hsp : sp = none := spot_none (by simpa using (hf 0 (by omega)).1.1) e0
    subst hsp
    refine ⟨b, o, rfl, ?_, ?_, a', c', ?_, hsl⟩
    · rw [Addr.add_mid] at e0; exact e0
    · rw [Addr.add_mid] at e1; exact e1
    · rw [Addr.add_mid] at e2; exact e2
  · intro v hv
    obtain ⟨i, hi, rfl⟩ := List.mem_map.1 hv
    exact (hf i (List.mem_range.1 hi)).2
end
end Go.Proofs.YtognpkdgphebeaaGreat
