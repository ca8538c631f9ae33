/-
  OUR OWN TEXT. Exprs and binds of the laws' own types that came in, read, with numbers that fit.
-/
import Derived.Test.YtpiglmkpmlogjaaRdG
import Derived.Test.YtpiglmkpmlogjaaTyB
import Derived.Test.YtpiglmkpmlogjaaEv1
namespace Go.Proofs.Ytpiglmkpmlogjaa
open Go.RowKit Go.Deep

theorem cellsU8e : Try.prog.cellsOf 5 = 1 := by kernel_rfl
theorem cellsLExprE : Try.prog.cellsOf 192 = 8 := by kernel_rfl
theorem cellsLBind : Try.prog.cellsOf 195 = 4 := by kernel_rfl
theorem wfU8e {a : Int} (h : (Lit.int .u8 a).wf = true) : 0 ≤ a ∧ a < 256 := by
  have h0 : IntKind.u8.min = 0 := rfl
  have h1 : IntKind.u8.max = 255 := rfl
  simp [Lit.wf] at h
  omega
theorem wfI64e {a : Int} (h : (Lit.int .i64 a).wf = true) : fits a = true := by
  have h0 : IntKind.i64.min = -9223372036854775808 := rfl
  have h1 : IntKind.i64.max = 9223372036854775807 := rfl
  simp [Lit.wf] at h
  exact fits_yes (by omega) (by omega)
def ExOk (x : Ex) : Prop := x.le maxLen ∧ (0 ≤ x.op ∧ x.op < 256) ∧ fits x.val.num = true
def BdOk (x : Bd) : Prop := x.le maxLen ∧ fits x.val.num = true

section
variable {H : Type} {enc : TypeId × Value → H} {w : World} {base : Nat} {spare : Nat → Bool} {held : Bool}

theorem rd_ExprF {n : Nat} {cs : List Value} {x : DataW H × List MemPlace} (h : DataW.trod enc Try.prog w base spare held n 192 cs = some x) (hc : cs.length = 8) : ∃ v : Ex, Ex.R w cs v ∧ ExOk v := by
  match cs, hc with
  | [v_kind, v_op, v_var, v_val0, v_val1, v_val2, v_a, v_b], _ =>
    obtain ⟨xs, n', _, rfl, _, hlen, hf⟩ := DataW.trod_struct Try.underlying192 h
    match xs, hlen with
    | [y0, y1, y2, y3, y4, y5], _ =>
      have h0 := (hf 0 _ rfl).trans (show _ = some y0 from rfl)
      have h1 := (hf 1 _ rfl).trans (show _ = some y1 from rfl)
      have h2 := (hf 2 _ rfl).trans (show _ = some y2 from rfl)
      have h3 := (hf 3 _ rfl).trans (show _ = some y3 from rfl)
      have h4 := (hf 4 _ rfl).trans (show _ = some y4 from rfl)
      have h5 := (hf 5 _ rfl).trans (show _ = some y5 from rfl)
      simp [cellsI] at h0
      simp [cellsU8e] at h1
      simp [cellsS] at h2
      simp [cellsLV] at h3
      simp [cellsI] at h4
      simp [cellsI] at h5
      obtain ⟨d_kind, e0, _, _⟩ := DataW.trod_int Try.underlying3 h0
      obtain ⟨d_op, e1, _, wf1⟩ := DataW.trod_int Try.underlying5 h1
      obtain ⟨d_var, e2, _, s2⟩ := DataW.trod_string Try.underlying9 h2
      obtain ⟨d_val, rfl, rfl, rfl, vok3⟩ := rd_val h3
      obtain ⟨d_a, e4, _, _⟩ := DataW.trod_int Try.underlying3 h4
      obtain ⟨d_b, e5, _, _⟩ := DataW.trod_int Try.underlying3 h5
      simp only [List.cons.injEq, and_true] at e0 e1 e2 e4 e5
      subst e0 e1 e2 e4 e5
      exact ⟨⟨d_kind, d_op, d_var, d_val, d_a, d_b⟩, rfl, ⟨⟨s2, vok3.2.2⟩, wfU8e wf1, wfI64e vok3.2.1⟩⟩

theorem rd_ExprsF {n : Nat} {cs : List Value} {x : DataW H × List MemPlace} (h : DataW.trod enc Try.prog w base spare held n 115 cs = some x) :
    ∃ a c, ∃ vs : List Ex, cs = [.slice a vs.length c] ∧ ExsAt none w a vs ∧ vs.length ≤ c ∧ vs.length ≤ maxLen ∧ ∀ v ∈ vs, ExOk v :=
  rd_rows (⟨0, 0, ByteArray.empty, (0, 0, ByteArray.empty), 0, 0⟩ : Ex) 115 192 197 8 Try.underlying115 cellsLExprE (by omega) (fun _ _ _ h hc => rd_ExprF h hc) h

theorem rd_Bind {n : Nat} {cs : List Value} {x : DataW H × List MemPlace} (h : DataW.trod enc Try.prog w base spare held n 195 cs = some x) (hc : cs.length = 4) : ∃ v : Bd, Bd.R w cs v ∧ BdOk v := by
  match cs, hc with
  | [v_var, v_val0, v_val1, v_val2], _ =>
    obtain ⟨xs, n', _, rfl, _, hlen, hf⟩ := DataW.trod_struct Try.underlying195 h
    match xs, hlen with
    | [y0, y1], _ =>
      have h0 := (hf 0 _ rfl).trans (show _ = some y0 from rfl)
      have h1 := (hf 1 _ rfl).trans (show _ = some y1 from rfl)
      simp [cellsS] at h0
      simp [cellsLV] at h1
      obtain ⟨d_var, e0, _, s0⟩ := DataW.trod_string Try.underlying9 h0
      obtain ⟨d_val, rfl, rfl, rfl, vok1⟩ := rd_val h1
      simp only [List.cons.injEq, and_true] at e0
      subst e0
      exact ⟨⟨d_var, d_val⟩, rfl, ⟨⟨s0, vok1.2.2⟩, wfI64e vok1.2.1⟩⟩

theorem rd_Binds {n : Nat} {cs : List Value} {x : DataW H × List MemPlace} (h : DataW.trod enc Try.prog w base spare held n 116 cs = some x) :
    ∃ a c, ∃ vs : List Bd, cs = [.slice a vs.length c] ∧ BdsAt none w a vs ∧ vs.length ≤ c ∧ vs.length ≤ maxLen ∧ ∀ v ∈ vs, BdOk v :=
  rd_rows (⟨ByteArray.empty, (0, 0, ByteArray.empty)⟩ : Bd) 116 195 208 4 Try.underlying116 cellsLBind (by omega) (fun _ _ _ h hc => rd_Bind h hc) h

end
end Go.Proofs.Ytpiglmkpmlogjaa
