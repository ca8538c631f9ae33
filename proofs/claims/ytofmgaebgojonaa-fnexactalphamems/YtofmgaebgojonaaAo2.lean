/-
  OUR OWN TEXT. The Alpha of a pattern: rows of tests; boxes of three cells; terms of right patterns.
-/
import Derived.Test.YtofmgaebgojonaaAo1
import Derived.Test.YtofmgaebgojonaaApp
import Derived.Test.YtofmgaebgojonaaSpec2
namespace Go.Proofs.Ytofmgaebgojonaa
open Go.RowKit

def ttCells (t : Tt) : List Value := [.int .i64 t.slot, .int .i64 t.op, .int .i64 t.other, .int .i64 t.val.kind, .int .i64 t.val.num, .string t.val.sym]
theorem ttFlat_len : ∀ S : List Tt, (S.flatMap ttCells).length = S.length * 6
  | [] => rfl
  | s :: r => by rw [List.flatMap_cons, List.length_append, ttFlat_len r]; simp [ttCells]; omega
theorem ttFlat_at : ∀ (S : List Tt) (i : Nat) (s : Tt) (j : Nat) (v : Value), S[i]? = some s → (ttCells s)[j]? = some v → (S.flatMap ttCells)[i * 6 + j]? = some v
  | [], i, s, j, v, h, _ => by simp at h
  | x :: r, 0, s, j, v, h, hj => by
    simp at h
    subst h
    have hl : j < (ttCells x).length := (List.getElem?_eq_some_iff.1 hj).1
    rw [List.flatMap_cons, List.getElem?_append_left (by omega)]
    simpa using hj
  | x :: r, i + 1, s, j, v, h, hj => by
    have := ttFlat_at r i s j v (by simpa using h) hj
    rw [List.flatMap_cons, List.getElem?_append_right (by simp [ttCells]; omega), show (i + 1) * 6 + j - (ttCells x).length = i * 6 + j by simp [ttCells]; omega]
    exact this
theorem TtsAt.owns {w : World} {base n : Nat} {a : Option Addr} {c : Nat} {S : List Tt} (h : w.ownsRow base 152 6 (.slice a n c) n (S.flatMap ttCells)) : TtsAt none w a S := by
  intro i s hs
  obtain ⟨g, rfl, _, _, _⟩ := owns_cell h (ttFlat_at S i s 0 _ hs rfl)
  refine ⟨g, 0, ttCells s, rfl, Qb.bare _ _ _, rfl, ?_, rfl⟩
  intro j v hj
  obtain ⟨g', hg', _, hc, _⟩ := owns_cell h (ttFlat_at S i s j v hs hj)
  cases hg'
  rwa [Nat.zero_add]
theorem ttCells_one (s : Tt) : ∀ u ∈ ttCells s, u.oneCell' = true := by
  intro u hu
  simp [ttCells] at hu
  rcases hu with rfl | rfl | rfl | rfl | rfl | rfl <;> rfl
theorem infoTt' : (Try.prog.info? 152).map (fun i => (i.zero, i.size, i.bytes)) = some (some (.agg #[.int .i64 0, .int .i64 0, .int .i64 0, .int .i64 0, .int .i64 0, .string ⟨#[]⟩]), 6, 56) := by kernel_rfl

/-- A box of three cells, none of it frozen. -/
def C3 (w : World) (b : Nat) (x0 x1 x2 : Value) : Prop := w.cell? ⟨b, 0, none⟩ = some x0 ∧ w.cell? ⟨b, 1, none⟩ = some x1 ∧ w.cell? ⟨b, 2, none⟩ = some x2 ∧ w.frozen? ⟨b, 0, none⟩ = false ∧ w.frozen? ⟨b, 1, none⟩ = false ∧ w.frozen? ⟨b, 2, none⟩ = false
theorem C3.belowB {w w' : World} {b B : Nat} {x0 x1 x2 : Value} (h : C3 w b x0 x1 x2) (hb : Below B w w') (hB : b < B) : C3 w' b x0 x1 x2 := by
  obtain ⟨h0, h1, h2, g0, g1, g2⟩ := h
  have hk := hb.block b hB
  refine ⟨?_, ?_, ?_, ?_, ?_, ?_⟩ <;> simp only [World.cell?, World.frozen?, hk] <;> assumption
theorem C3.lt {w : World} {b : Nat} {x0 x1 x2 : Value} (h : C3 w b x0 x1 x2) : b < w.heap.size := by
  by_cases hp : b < w.heap.size
  · exact hp
  · have : w.heap[b]? = none := Array.getElem?_eq_none (by omega)
    have h0 := h.1
    simp [World.cell?, this] at h0
theorem C3.below {w w' : World} {b : Nat} {x0 x1 x2 : Value} (h : C3 w b x0 x1 x2) (hb : Below w.heap.size w w') : C3 w' b x0 x1 x2 := h.belowB hb h.lt
theorem C3.made (w : World) (t : TypeId) (x0 x1 x2 : Value) : C3 (w.alloc (.cells #[x0, x1, x2] t)) w.heap.size x0 x1 x2 := by
  refine ⟨?_, ?_, ?_, ?_, ?_, ?_⟩ <;> simp [go_sem]

theorem C3.set2 {w : World} {b : Nat} {x0 x1 x2 : Value} (h : C3 w b x0 x1 x2) (y : Value) : C3 (w.setCell ⟨b, 2, none⟩ y) b x0 x1 y := by
  have hl := h.lt
  obtain ⟨h0, h1, h2, g0, g1, g2⟩ := h
  refine ⟨?_, ?_, ?_, ?_, ?_, ?_⟩ <;> simp [go_sem, *]
theorem ao_own {w w' : World} {base : Nat} {t : TypeId} {m : Nat} {v : Value} {n : Nat} {xs : List Value} (h : w.ownsRow base t m v n xs) (hb : Below w.heap.size w w') : w'.ownsRow base t m v n xs :=
  owns_of_block h (fun g hg => hb.block g (h.lt g hg).2)
/-- One more test is put behind the others: the list's own place in the box is written. -/
theorem ao_put {w1 wr w3 : World} {B : Nat} {x0 x1 v : Value} {t : TypeId} {a3 : Option Addr} {m c3 : Nat} {xs : List Value} (hout : C3 wr B x0 x1 v) (hW3 : Below (B + 1) wr w3) (ho3 : w3.ownsRow (B + 1) t 6 (.slice a3 m c3) m xs) (hb : Below B w1 wr) :
    C3 (w3.setCell ⟨B, 2, none⟩ (.slice a3 m c3)) B x0 x1 (.slice a3 m c3) ∧ (w3.setCell ⟨B, 2, none⟩ (.slice a3 m c3)).ownsRow (B + 1) t 6 (.slice a3 m c3) m xs ∧ Below B w1 (w3.setCell ⟨B, 2, none⟩ (.slice a3 m c3)) := by
  refine ⟨(hout.belowB hW3 (by omega)).set2 _, owns_of_block ho3 (fun g hg => ?_), (hb.trans (hW3.mono (by omega))).setCell (by simp) _⟩
  have := (ho3.lt g hg).1
  exact Below.heap_setCell _ _ _ _ (by simp; omega)
theorem news_allocA (w : World) (L : List Value) (t : TypeId) (b : Nat) (hb : b = w.heap.size) (ad : Addr) (e : some (⟨b, 0, none⟩ : Addr) = some ad) (j : Nat) (u : Value) (h : L[j]? = some u) : (w.alloc (.cells L.toArray t)).cell? (ad.add j) = some u := by
  subst hb
  cases e
  rw [Addr.add_mid, Nat.zero_add]
  have hb := heap_alloc_new w (.cells L.toArray t)
  simp only [World.cell?, hb]
  simpa using h
theorem bytes_empty {s : ByteArray} (h : s.toList.isEmpty = true) : s = ⟨#[]⟩ := by
  have h1 : (s.toList == (⟨#[]⟩ : ByteArray).toList) = true := by
    have : s.toList = [] := by simpa using h
    rw [this, show (⟨#[]⟩ : ByteArray).toList = [] by decide +kernel]
    rfl
  rw [bytes_beq] at h1
  simpa using h1
theorem zeroV_eq {v : V} (h : zeroV v = true) : v = zVa := by
  simp only [zeroV, isE, Bool.and_eq_true, beq_iff_eq] at h
  obtain ⟨h0, h1, h2⟩ := h
  have h3 := bytes_empty h2
  exact Prod.ext h0 (Prod.ext h1 h3)
theorem gTm_zero {t : Tm} (h : gTm t = true) (hv : t.var.toList.isEmpty = false) : t.val = zVa := by
  have hE : isE t.var = false := hv
  unfold gTm operandOk at h
  rw [hE] at h
  split at h
  · simp at h
  · split at h
    · simp at h
    · split at h
      · simp only [Bool.and_eq_true] at h
        exact zeroV_eq h.2.2
      · split at h
        · simp only [Bool.false_and, Bool.false_or, Bool.and_eq_true] at h
          exact zeroV_eq h.2.2.2
        · cases h
theorem gPt_mem {p : Pt} (h : gPt p = true) {i : Nat} {t : Tm} (ht : p.terms[i]? = some t) : gTm t = true := by
  simp only [gPt, Bool.and_eq_true] at h
  exact List.all_eq_true.1 h.2.2 t (List.mem_of_getElem? ht)
theorem gPt_six {p : Pt} (h : gPt p = true) : p.terms.length ≤ 6 := by
  simp only [gPt, Bool.and_eq_true, decide_eq_true_eq] at h
  exact h.2.1
theorem tests_succ {ts : List Tm} {k : Nat} {t : Tm} (h : ts[k]? = some t) : testsUpTo ts (k + 1) = testsUpTo ts k ++ (testOf ts k t).toList := by
  simp [testsUpTo, h]
theorem tests_len (ts : List Tm) : ∀ k, (testsUpTo ts k).length ≤ k
  | 0 => Nat.le_refl _
  | k + 1 => by
    have := tests_len ts k
    unfold testsUpTo
    rw [List.length_append]
    cases ts[k]? with
    | none => simp; omega
    | some t => cases h : testOf ts k t <;> simp [h] <;> omega
end Go.Proofs.Ytofmgaebgojonaa
