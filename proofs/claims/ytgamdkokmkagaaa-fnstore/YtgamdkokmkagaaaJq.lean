/-
  OUR OWN TEXT. Sv, Rd, one behind the other.
-/
import Derived.Test.YtgamdkokmkagaaaJj
import Derived.Test.YtgamdkokmkagaaaJl
import Derived.Test.YtgamdkokmkagaaaJk
import Derived.Test.YtgamdkokmkagaaaJp
import Derived.Test.YtgamdkokmkagaaaJa
import Derived.Deep.Slices
import Derived.Deep.Strs
import Derived.Lib.SmallJoins
namespace Go.Proofs.Ytgamdkokmkagaaa
open Go.RowKit
attribute [local go_sem ↓] Go.wp_at_zero Go.wp_at_succ

theorem le_sum {α : Type} (g : α → Nat) (l : List α) (x : α) (h : x ∈ l) : g x ≤ (l.map g).sum := by
  induction l with
  | nil => simp at h
  | cons y r ih =>
    simp only [List.map_cons, List.sum_cons]
    rcases List.mem_cons.1 h with rfl | h
    · omega
    · have := ih h
      omega

theorem szVs_le {vs : List V} {N : Nat} (h : szVs vs ≤ N) : vs.length ≤ N ∧ ∀ v ∈ vs, v.sym.size ≤ N := by
  unfold szVs at h
  refine ⟨by omega, fun v hv => ?_⟩
  have := le_sum szV vs v hv
  have e : szV v = v.sym.size := rfl
  omega

theorem szFs_le {fs : List F} {N : Nat} (h : szFs fs ≤ N) : fs.length ≤ N ∧ ∀ f ∈ fs, f.cls.size ≤ N ∧ f.slots.length ≤ N ∧ ∀ v ∈ f.slots, v.sym.size ≤ N := by
  unfold szFs at h
  refine ⟨by omega, fun f hf => ?_⟩
  have h1 := le_sum szF fs f hf
  have e : szF f = f.cls.size + szVs f.slots := rfl
  exact ⟨by omega, szVs_le (by omega)⟩

/-- What the reading of the argument gives. -/
def Arg (fs : List F) : Prop := fs.length ≤ maxLen ∧ ∀ f ∈ fs, f.cls.size ≤ maxLen ∧ f.slots.length ≤ maxLen ∧ Read f

theorem sized_of {fs : List F} (h : szFs fs ≤ 1048576) : ∀ f ∈ fs, Sized f := fun f hf => by
  obtain ⟨h1, h2, h3⟩ := (szFs_le h).2 f hf
  refine ⟨by unfold maxLen; omega, h2, fun v hv => ?_⟩
  have := h3 v hv
  unfold maxLen
  omega

set_option maxHeartbeats 1600000 in
theorem law_sv (a : Option Addr) (c : Nat) (fs : List F) (nx cp : Int) (sg : Bool) (w : World) (hv : FactsAt w a fs) (ha : Arg fs) :
    Calls Try.prog 4 #[.agg #[.slice a fs.length c, .int .i64 nx, .int .i64 cp, .bool sg]] w fun e w' =>
      e = .returned (.bool true) ∧ Below w.heap.size w w' := by
  have B1 : ∀ o, Below w.heap.size w (w.alloc o) := fun o => (Below.refl _ _).alloc (Nat.le_refl _) _
  obtain ⟨hl0, hs0⟩ := ha
  have hr : ∀ f ∈ fs, Read f := fun f hf => (hs0 f hf).2.2
  have hs1 : ∀ f ∈ fs, f.cls.size ≤ maxLen ∧ f.slots.length ≤ maxLen ∧ ∀ v ∈ f.slots, v.sym.size ≤ maxLen := fun f hf => ⟨(hs0 f hf).1, (hs0 f hf).2.1, fun v hvv => ((hs0 f hf).2.2.2 v hvv).2.2⟩
  go_enter Try.func4, Try.ntmps4
  go_wp2_with (go_at_call 19; refine (szStore_any a c fs nx cp sg 1048576 _ (hv.below (B1 _)) hl0 hs1 (by omega) (by omega)).mono ?_; rintro e w1 ⟨⟨r, rfl, hr1⟩, hb1⟩; obtain ⟨hc1, hf1⟩ := bcell hb1)
  · go_ret
    exact ⟨rfl, (B1 _).trans (hb1.mono (by simp))⟩
  · have hsz : szFs fs ≤ 1048576 := by
      rcases hr1 with h | ⟨_, h⟩
      · omega
      · omega
    have hl := (szFs_le hsz).1
    have hs := sized_of hsz
    have hsl : ∀ f ∈ fs, f.slots.length ≤ 1048576 := fun f hf => (hs f hf).2.1
    have hB1 : Below w.heap.size w w1 := (B1 _).trans (hb1.mono (by simp))
    have q0 : w1.cell? ⟨w.heap.size, 0, none⟩ = some (.slice a fs.length c) := by rw [hc1 _ _ (by simp)]; simp [go_sem]
    have q1 : w1.cell? ⟨w.heap.size, 1, none⟩ = some (.int .i64 nx) := by rw [hc1 _ _ (by simp)]; simp [go_sem]
    have q2 : w1.cell? ⟨w.heap.size, 2, none⟩ = some (.int .i64 cp) := by rw [hc1 _ _ (by simp)]; simp [go_sem]
    have q3 : w1.cell? ⟨w.heap.size, 3, none⟩ = some (.bool sg) := by rw [hc1 _ _ (by simp)]; simp [go_sem]
    clear hc1 hf1 hs0 hs1 hl0 hr1 hb1
    refine (toStore_any a c fs nx cp sg w1 (hv.below hB1) hl hsl).mono ?_
    rintro e w2 ⟨⟨g2, gs2, hg2, rfl, ho2⟩, hb2⟩
    go_wp2_with fail
    refine (sStoreValid_any (some ⟨g2, 0, none⟩) fs.length fs nx cp sg w2 ho2.at (Nat.le_refl _) hl hs).mono ?_
    rintro e w3 ⟨rfl, hb3⟩
    have hB3 : Below w1.heap.size w1 w3 := hb2.trans (hb3.mono hb2.size)
    have hB3w : Below w.heap.size w w3 := hB1.trans (hB3.mono hB1.size)
    have r0 := cell_below hB3 q0
    have r1 := cell_below hB3 q1
    have r2 := cell_below hB3 q2
    have r3 := cell_below hB3 q3
    clear q0 q1 q2 q3 hb2 hb3 ho2
    go_wp2_with fail
    refine (toStore_any a c fs nx cp sg w3 (hv.below hB3w) hl hsl).mono ?_
    rintro e w4 ⟨⟨g4, gs4, hg4, rfl, ho4⟩, hb4⟩
    go_wp2_with fail
    have B4 : ∀ o, Below w4.heap.size w4 (w4.alloc o) := fun o => (Below.refl _ _).alloc (Nat.le_refl _) _
    have hx4 := ho4.at
    refine (storeValid_any (some ⟨g4, 0, none⟩) fs.length fs nx cp sg _ (hx4.below (B4 _)) hl hs hr).mono ?_
    rintro e w5 ⟨rfl, hb5⟩
    have hB5 : Below w4.heap.size w4 w5 := (B4 _).trans (hb5.mono (by simp))
    have hB35 : Below w3.heap.size w3 w5 := hb4.trans (hB5.mono hb4.size)
    have hB5w : Below w.heap.size w w5 := hB3w.trans (hB35.mono hB3w.size)
    have s0 := cell_below hB35 r0
    have s1 := cell_below hB35 r1
    have s2 := cell_below hB35 r2
    have s3 := cell_below hB35 r3
    have x0 : w5.cell? ⟨w4.heap.size, 0, none⟩ = some (.slice (some ⟨g4, 0, none⟩) fs.length fs.length) := cell_below hb5 (by simp [go_sem])
    have x1 : w5.cell? ⟨w4.heap.size, 1, none⟩ = some (.int .i64 nx) := cell_below hb5 (by simp [go_sem])
    have x2 : w5.cell? ⟨w4.heap.size, 2, none⟩ = some (.int .i64 cp) := cell_below hb5 (by simp [go_sem])
    have x3 : w5.cell? ⟨w4.heap.size, 3, none⟩ = some (.bool sg) := cell_below hb5 (by simp [go_sem])
    have hx5 := hx4.below hB5
    have hv5 := hv.below hB5w
    have hne : (sValid fs nx cp sg != sValid fs nx cp sg) = false := by simp
    clear r0 r1 r2 r3 hb5 hb4 hx4 ho4 hB3 hv B4
    go_wp2_with fail
    go_region_held3 (fun w' => w'.cell? ⟨w.heap.size, 0, none⟩ = some (.slice a fs.length c) ∧ w'.cell? ⟨w.heap.size, 1, none⟩ = some (.int .i64 nx) ∧ w'.cell? ⟨w.heap.size, 2, none⟩ = some (.int .i64 cp) ∧ w'.cell? ⟨w.heap.size, 3, none⟩ = some (.bool sg) ∧ w'.cell? ⟨w4.heap.size, 0, none⟩ = some (.slice (some ⟨g4, 0, none⟩) fs.length fs.length) ∧ w'.cell? ⟨w4.heap.size, 1, none⟩ = some (.int .i64 nx) ∧ w'.cell? ⟨w4.heap.size, 2, none⟩ = some (.int .i64 cp) ∧ w'.cell? ⟨w4.heap.size, 3, none⟩ = some (.bool sg))
      ((go_split_ands; refine ⟨?_, ?_, ?_, ?_, ?_, ?_, ?_, ?_⟩ <;> first | assumption | exact cell_below hb6 (by assumption) | exact cell_below hb7 (cell_below hb6 (by assumption))))
      (first | (go_at_call 21; refine (toStore_any a c fs nx cp sg _ (hv5.below ?_) hl hsl).mono ?_; exact (Below.refl _ _).drew; rintro e w6 ⟨⟨g6, gs6, hg6, rfl, ho6⟩, hb6⟩) | (go_at_call 22; refine (eqStore_same (some ⟨g4, 0, none⟩) (some ⟨g6, 0, none⟩) fs.length fs.length fs nx cp sg _ (hx5.below ?_) ho6.at hl hsl).mono ?_; exact (Below.refl _ _).drew.trans hb6; rintro e w7 ⟨rfl, hb7⟩))
    go_wp2
    go_ret
    exact ⟨rfl, (hB5w.drew.trans (hb6.mono hB5w.size)).trans (hb7.mono (Nat.le_trans hB5w.size hb6.size))⟩
end Go.Proofs.Ytgamdkokmkagaaa

namespace Go.Proofs.Ytgamdkokmkagaaa
open Go.RowKit Go.Deep

theorem cellsLF : Try.prog.cellsOf 166 = 3 := by kernel_rfl
theorem cellsLVS : Try.prog.cellsOf 47 = 1 := by kernel_rfl
section
variable {H : Type} {enc : TypeId × Value → H} {w : World} {base : Nat} {spare : Nat → Bool} {held : Bool}

theorem rd_vals {n : Nat} {cs : List Value} {x : DataW H × List MemPlace} (h : DataW.trod enc Try.prog w base spare held n 47 cs = some x) :
    ∃ a c, ∃ vs : List V, cs = [.slice a vs.length c] ∧ ValsAt w a vs ∧ vs.length ≤ maxLen ∧ ∀ v ∈ vs, VOk v := by
  rcases open_slice Try.underlying47 h with ⟨rfl, _⟩ | ⟨a, len, cap, m, k, D, Pl, rfl, _, hl, hm, hmm, _, hx⟩
  · exact ⟨none, 0, [], rfl, fun i v hv => by simp at hv, Nat.zero_le _, fun v hv => by simp at hv⟩
  have hlm : len ≤ m := by rw [hmm]; split <;> omega
  have each : ∀ i, i < len → ∃ v : V, (w.cell? (a.add (i * 3)) = some (.int .i64 v.kind) ∧ w.cell? (a.add (i * 3 + 1)) = some (.int .i64 v.num) ∧ w.cell? (a.add (i * 3 + 2)) = some (.string v.sym)) ∧ VOk v := by
    intro i hi
    obtain ⟨cs', h1, h2⟩ := hx i (by omega)
    rw [cellsLV] at h1
    obtain ⟨_, hlen, hcell⟩ := World.cells?_some h1
    match cs', hlen with
    | [v0, v1, v2], _ =>
      obtain ⟨v, rfl, rfl, rfl, hv⟩ := rd_val h2
      have e0 := hcell 0 (by omega)
      have e1 := hcell 1 (by omega)
      have e2 := hcell 2 (by omega)
      rw [add_add] at e0 e1 e2
      exact ⟨v, ⟨by simpa using e0, by simpa using e1, by simpa using e2⟩, hv⟩
  obtain ⟨f, hf⟩ := choose_lt each
  refine ⟨some a, cap, (List.range len).map f, by simp, ?_, by simp; omega, ?_⟩
  · intro i v hv
    obtain ⟨hji, rfl⟩ := map_range_at hv
    obtain ⟨⟨e0, e1, e2⟩, _⟩ := hf i hji
    obtain ⟨b, o, sp⟩ := a
    have hsp : sp = none := spot_none (by simpa using (hf 0 (by omega)).1.1) e0
    subst hsp
    refine ⟨b, o, rfl, ?_, ?_, ?_⟩
    · rw [Addr.add_mid] at e0; exact e0
    · rw [Addr.add_mid] at e1; exact e1
    · rw [Addr.add_mid] at e2; exact e2
  · intro v hv
    obtain ⟨i, hi, rfl⟩ := List.mem_map.1 hv
    exact (hf i (List.mem_range.1 hi)).2

theorem rd_fact {n : Nat} {v0 v1 v2 : Value} {x : DataW H × List MemPlace} (h : DataW.trod enc Try.prog w base spare held n 166 [v0, v1, v2] = some x) :
    ∃ f : F, v0 = .int .i64 f.tag ∧ v1 = .string f.cls ∧ (∃ a c, v2 = .slice a f.slots.length c ∧ ValsAt w a f.slots) ∧ f.cls.size ≤ maxLen ∧ f.slots.length ≤ maxLen ∧ Read f := by
  obtain ⟨y0, y1, y2, k, _, _, h0, h1, h2⟩ := trod_struct3 Try.underlying166 h
  simp only [cellsI, cellsLVS, cellsS, List.drop_zero, List.drop_succ_cons, List.take_succ_cons, List.take_zero] at h0 h1 h2
  obtain ⟨t, e0, _, wt⟩ := DataW.trod_int Try.underlying3 h0
  obtain ⟨s, e1, _, hs⟩ := DataW.trod_string Try.underlying9 h1
  obtain ⟨a, c, vs, e2, hv, hl, hok⟩ := rd_vals h2
  simp at e0 e1 e2
  exact ⟨⟨t, s, vs⟩, e0, e1, ⟨a, c, e2, hv⟩, hs, hl, wt, hok⟩

theorem rd_facts {n : Nat} {cs : List Value} {x : DataW H × List MemPlace} (h : DataW.trod enc Try.prog w base spare held n 41 cs = some x) :
    ∃ a c, ∃ fs : List F, cs = [.slice a fs.length c] ∧ FactsAt w a fs ∧ Arg fs := by
  rcases open_slice Try.underlying41 h with ⟨rfl, _⟩ | ⟨a, len, cap, m, k, D, Pl, rfl, _, hl, hm, hmm, _, hx⟩
  · exact ⟨none, 0, [], rfl, fun i v hv => by simp at hv, Nat.zero_le _, fun v hv => by simp at hv⟩
  have hlm : len ≤ m := by rw [hmm]; split <;> omega
  have each : ∀ i, i < len → ∃ f : F, (w.cell? (a.add (i * 3)) = some (.int .i64 f.tag) ∧ w.cell? (a.add (i * 3 + 1)) = some (.string f.cls) ∧ ∃ a' c', w.cell? (a.add (i * 3 + 2)) = some (.slice a' f.slots.length c') ∧ ValsAt w a' f.slots) ∧ f.cls.size ≤ maxLen ∧ f.slots.length ≤ maxLen ∧ Read f := by
    intro i hi
    obtain ⟨cs', h1, h2⟩ := hx i (by omega)
    rw [cellsLF] at h1
    obtain ⟨_, hlen, hcell⟩ := World.cells?_some h1
    match cs', hlen with
    | [v0, v1, v2], _ =>
      obtain ⟨f, rfl, rfl, ⟨a', c', rfl, hv⟩, hf⟩ := rd_fact h2
      have e0 := hcell 0 (by omega)
      have e1 := hcell 1 (by omega)
      have e2 := hcell 2 (by omega)
      rw [add_add] at e0 e1 e2
      exact ⟨f, ⟨by simpa using e0, by simpa using e1, a', c', by simpa using e2, hv⟩, hf⟩
  have : Nonempty (Inhabited F) := ⟨⟨⟨0, ByteArray.empty, []⟩⟩⟩
  obtain ⟨inh⟩ := this
  obtain ⟨f, hf⟩ := choose_lt each
  refine ⟨some a, cap, (List.range len).map f, by simp, ?_, by simp; omega, ?_⟩
  · intro i v hv
    obtain ⟨hji, rfl⟩ := map_range_at hv
    obtain ⟨⟨e0, e1, a', c', e2, hsl⟩, _⟩ := hf i hji
    obtain ⟨b, o, sp⟩ := a
    have hsp : sp = none := spot_none (by simpa using (hf 0 (by omega)).1.1) e0
    subst hsp
    refine ⟨b, o, rfl, ?_, ?_, a', c', ?_, hsl⟩
    · rw [Addr.add_mid] at e0; exact e0
    · rw [Addr.add_mid] at e1; exact e1
    · rw [Addr.add_mid] at e2; exact e2
  · intro v hv
    obtain ⟨i, hi, rfl⟩ := List.mem_map.1 hv
    exact (hf i (List.mem_range.1 hi)).2
end
end Go.Proofs.Ytgamdkokmkagaaa
