/-
  OUR OWN TEXT. Alphas of the laws' own types that came in, read.
-/
import Derived.Test.YtkofbgdcgoajeaaRdG
import Derived.Test.YtkofbgdcgoajeaaTyA
namespace Go.Proofs.Ytkofbgdcgoajeaa
open Go.RowKit Go.Deep

theorem cellsLAlphaTest : Try.prog.cellsOf 184 = 6 := by kernel_rfl
theorem cellsSAlphaTest : Try.prog.cellsOf 77 = 1 := by kernel_rfl
theorem cellsLAlpha : Try.prog.cellsOf 79 = 3 := by kernel_rfl

section
variable {H : Type} {enc : TypeId × Value → H} {w : World} {base : Nat} {spare : Nat → Bool} {held : Bool}

theorem rd_AlphaTest {n : Nat} {cs : List Value} {x : DataW H × List MemPlace} (h : DataW.trod enc Try.prog w base spare held n 184 cs = some x) (hc : cs.length = 6) : ∃ v : Tt, Tt.R w cs v ∧ Tt.le maxLen v := by
  match cs, hc with
  | [v_slot, v_op, v_other, v_val0, v_val1, v_val2], _ =>
    obtain ⟨xs, n', _, rfl, _, hlen, hf⟩ := DataW.trod_struct Try.underlying184 h
    match xs, hlen with
    | [y0, y1, y2, y3], _ =>
      have h0 := (hf 0 _ rfl).trans (show _ = some y0 from rfl)
      have h1 := (hf 1 _ rfl).trans (show _ = some y1 from rfl)
      have h2 := (hf 2 _ rfl).trans (show _ = some y2 from rfl)
      have h3 := (hf 3 _ rfl).trans (show _ = some y3 from rfl)
      simp [cellsI] at h0
      simp [cellsI] at h1
      simp [cellsI] at h2
      simp [cellsLV] at h3
      obtain ⟨d_slot, e0, _, _⟩ := DataW.trod_int Try.underlying3 h0
      obtain ⟨d_op, e1, _, _⟩ := DataW.trod_int Try.underlying3 h1
      obtain ⟨d_other, e2, _, _⟩ := DataW.trod_int Try.underlying3 h2
      obtain ⟨d_val, rfl, rfl, rfl, vok3⟩ := rd_val h3
      simp only [List.cons.injEq, and_true] at e0 e1 e2
      subst e0 e1 e2
      exact ⟨⟨d_slot, d_op, d_other, d_val⟩, rfl, vok3.2.2⟩

theorem rd_AlphaTests {n : Nat} {cs : List Value} {x : DataW H × List MemPlace} (h : DataW.trod enc Try.prog w base spare held n 77 cs = some x) :
    ∃ a c, ∃ vs : List Tt, cs = [.slice a vs.length c] ∧ TtsAt none w a vs ∧ vs.length ≤ c ∧ vs.length ≤ maxLen ∧ ∀ v ∈ vs, Tt.le maxLen v :=
  rd_rows (⟨0, 0, 0, (0, 0, ByteArray.empty)⟩ : Tt) 77 184 137 6 Try.underlying77 cellsLAlphaTest (by omega) (fun _ _ _ h hc => rd_AlphaTest h hc) h

theorem rd_Alpha {n : Nat} {v0 v1 v2 : Value} {x : DataW H × List MemPlace} (h : DataW.trod enc Try.prog w base spare held n 79 [v0, v1, v2] = some x) :
    ∃ (v : Al) (a : Option Addr) (c : Nat), v0 = .string v.cls ∧ v1 = .int .i64 v.arity ∧ v2 = .slice a v.tests.length c ∧ TtsAt none w a v.tests ∧ Al.le maxLen v := by
  obtain ⟨y0, y1, y2, k, _, _, h0, h1, h2⟩ := trod_struct3 Try.underlying79 h
  simp only [cellsI, cellsS, cellsSAlphaTest, List.drop_zero, List.drop_succ_cons, List.take_succ_cons, List.take_zero] at h0 h1 h2
  obtain ⟨s, e0, _, hs⟩ := DataW.trod_string Try.underlying9 h0
  obtain ⟨t, e1, _, _⟩ := DataW.trod_int Try.underlying3 h1
  obtain ⟨a, c, vs, e2, hv, _, hl, hok⟩ := rd_AlphaTests h2
  simp at e0 e1 e2
  exact ⟨⟨s, t, vs⟩, a, c, e0, e1, e2, hv, hs, hl, hok⟩
end
end Go.Proofs.Ytkofbgdcgoajeaa
