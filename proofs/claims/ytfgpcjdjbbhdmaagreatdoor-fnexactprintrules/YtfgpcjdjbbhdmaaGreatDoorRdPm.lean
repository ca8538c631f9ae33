/-
  OUR OWN TEXT. Rules of the laws' own types that came in, read, with the bounds of their numbers (made by a program out of RdG and RdR).
-/
import Derived.Test.YtfgpcjdjbbhdmaaGreatDoorZh
import Derived.Test.YtfgpcjdjbbhdmaaGreatDoorXa
namespace Go.Proofs.YtfgpcjdjbbhdmaaGreatDoor
open Go.RowKit Go.Deep

theorem wf64 {a : Int} (h : (Lit.int .i64 a).wf = true) : numOk a := by
  have h0 : IntKind.i64.min = -9223372036854775808 := rfl
  have h1 : IntKind.i64.max = 9223372036854775807 := rfl
  simp [Lit.wf] at h
  exact ⟨by omega, by omega⟩
def TmK (x : Tm) : Prop := x.le maxLen ∧ numOk x.val.num
def PtK (x : Pt) : Prop := x.le maxLen ∧ ∀ t ∈ x.terms, numOk t.val.num
def ExK (x : Ex) : Prop := x.le maxLen ∧ (0 ≤ x.op ∧ x.op < 256) ∧ numOk x.val.num
def RuK (x : Ru) : Prop := x.le maxLen ∧ OpsOk x.exprs ∧ RuN x

section
variable {H : Type} {enc : TypeId × Value → H} {w : World} {base : Nat} {spare : Nat → Bool} {held : Bool}

theorem rdn_Term {n : Nat} {cs : List Value} {x : DataW H × List MemPlace} (h : DataW.trod enc Tryz.prog w base spare held n 256 cs = some x) (hc : cs.length = 6) : ∃ v : Tm, Tm.R w cs v ∧ TmK v := by
  match cs, hc with
  | [v_kind, v_op, v_var, v_val0, v_val1, v_val2], _ =>
    obtain ⟨xs, n', _, rfl, _, hlen, hf⟩ := DataW.trod_struct Tryz.underlying256 h
    match xs, hlen with
    | [y0, y1, y2, y3], _ =>
      have h0 := (hf 0 _ rfl).trans (show _ = some y0 from rfl)
      have h1 := (hf 1 _ rfl).trans (show _ = some y1 from rfl)
      have h2 := (hf 2 _ rfl).trans (show _ = some y2 from rfl)
      have h3 := (hf 3 _ rfl).trans (show _ = some y3 from rfl)
      simp [cellsI] at h0
      simp [cellsI] at h1
      simp [cellsS] at h2
      simp [cellsLV] at h3
      obtain ⟨d_kind, e0, _, _⟩ := DataW.trod_int Tryz.underlying3 h0
      obtain ⟨d_op, e1, _, _⟩ := DataW.trod_int Tryz.underlying3 h1
      obtain ⟨d_var, e2, _, s2⟩ := DataW.trod_string Tryz.underlying9 h2
      obtain ⟨d_val, rfl, rfl, rfl, vok3⟩ := rd_val h3
      simp only [List.cons.injEq, and_true] at e0 e1 e2
      subst e0 e1 e2
      exact ⟨⟨d_kind, d_op, d_var, d_val⟩, rfl, ⟨⟨s2, vok3.2.2⟩, wf64 vok3.2.1⟩⟩

theorem rdn_Terms {n : Nat} {cs : List Value} {x : DataW H × List MemPlace} (h : DataW.trod enc Tryz.prog w base spare held n 179 cs = some x) :
    ∃ a c, ∃ vs : List Tm, cs = [.slice a vs.length c] ∧ TmsAt none w a vs ∧ vs.length ≤ c ∧ vs.length ≤ maxLen ∧ ∀ v ∈ vs, TmK v :=
  rd_rows (⟨0, 0, ByteArray.empty, (0, 0, ByteArray.empty)⟩ : Tm) 179 256 90 6 Tryz.underlying179 cellsLTerm (by omega) (fun _ _ _ h hc => rdn_Term h hc) h

theorem rdn_Pattern {n : Nat} {cs : List Value} {x : DataW H × List MemPlace} (h : DataW.trod enc Tryz.prog w base spare held n 181 cs = some x) (hc : cs.length = 3) : ∃ v : Pt, (Pt.R none) w cs v ∧ PtK v := by
  match cs, hc with
  | [v_neg, v_cls, v_terms], _ =>
    obtain ⟨xs, n', _, rfl, _, hlen, hf⟩ := DataW.trod_struct Tryz.underlying181 h
    match xs, hlen with
    | [y0, y1, y2], _ =>
      have h0 := (hf 0 _ rfl).trans (show _ = some y0 from rfl)
      have h1 := (hf 1 _ rfl).trans (show _ = some y1 from rfl)
      have h2 := (hf 2 _ rfl).trans (show _ = some y2 from rfl)
      simp [cellsB] at h0
      simp [cellsS] at h1
      simp [cellsSTerm] at h2
      obtain ⟨d_neg, e0, _⟩ := DataW.trod_bool Tryz.underlying4 h0
      obtain ⟨d_cls, e1, _, s1⟩ := DataW.trod_string Tryz.underlying9 h1
      obtain ⟨a_terms, c_terms, d_terms, e2, at2, cap2, len2, ok2⟩ := rdn_Terms h2
      simp only [List.cons.injEq, and_true] at e0 e1 e2
      subst e0 e1 e2
      exact ⟨⟨d_neg, d_cls, d_terms⟩, ⟨a_terms, c_terms, rfl, at2, cap2⟩, ⟨⟨s1, ⟨len2, fun v hv => (ok2 v hv).1⟩⟩, fun v hv => (ok2 v hv).2⟩⟩

theorem rdn_Patterns {n : Nat} {cs : List Value} {x : DataW H × List MemPlace} (h : DataW.trod enc Tryz.prog w base spare held n 77 cs = some x) :
    ∃ a c, ∃ vs : List Pt, cs = [.slice a vs.length c] ∧ PtsAt none w a vs ∧ vs.length ≤ c ∧ vs.length ≤ maxLen ∧ ∀ v ∈ vs, PtK v :=
  rd_rows (⟨false, ByteArray.empty, []⟩ : Pt) 77 181 86 3 Tryz.underlying77 cellsLPattern (by omega) (fun _ _ _ h hc => rdn_Pattern h hc) h

theorem rdn_Expr {n : Nat} {cs : List Value} {x : DataW H × List MemPlace} (h : DataW.trod enc Tryz.prog w base spare held n 185 cs = some x) (hc : cs.length = 8) : ∃ v : Ex, Ex.R w cs v ∧ ExK v := by
  match cs, hc with
  | [v_kind, v_op, v_var, v_val0, v_val1, v_val2, v_a, v_b], _ =>
    obtain ⟨xs, n', _, rfl, _, hlen, hf⟩ := DataW.trod_struct Tryz.underlying185 h
    match xs, hlen with
    | [y0, y1, y2, y3, y4, y5], _ =>
      have h0 := (hf 0 _ rfl).trans (show _ = some y0 from rfl)
      have h1 := (hf 1 _ rfl).trans (show _ = some y1 from rfl)
      have h2 := (hf 2 _ rfl).trans (show _ = some y2 from rfl)
      have h3 := (hf 3 _ rfl).trans (show _ = some y3 from rfl)
      have h4 := (hf 4 _ rfl).trans (show _ = some y4 from rfl)
      have h5 := (hf 5 _ rfl).trans (show _ = some y5 from rfl)
      simp [cellsI] at h0
      simp [cellsU8] at h1
      simp [cellsS] at h2
      simp [cellsLV] at h3
      simp [cellsI] at h4
      simp [cellsI] at h5
      obtain ⟨d_kind, e0, _, _⟩ := DataW.trod_int Tryz.underlying3 h0
      obtain ⟨d_op, e1, _, wf1⟩ := DataW.trod_int Tryz.underlying5 h1
      obtain ⟨d_var, e2, _, s2⟩ := DataW.trod_string Tryz.underlying9 h2
      obtain ⟨d_val, rfl, rfl, rfl, vok3⟩ := rd_val h3
      obtain ⟨d_a, e4, _, _⟩ := DataW.trod_int Tryz.underlying3 h4
      obtain ⟨d_b, e5, _, _⟩ := DataW.trod_int Tryz.underlying3 h5
      simp only [List.cons.injEq, and_true] at e0 e1 e2 e4 e5
      subst e0 e1 e2 e4 e5
      have hw := wfU8 wf1
      exact ⟨⟨d_kind, d_op, d_var, d_val, d_a, d_b⟩, rfl, ⟨⟨s2, vok3.2.2⟩, hw, wf64 vok3.2.1⟩⟩

theorem rdn_Exprs {n : Nat} {cs : List Value} {x : DataW H × List MemPlace} (h : DataW.trod enc Tryz.prog w base spare held n 78 cs = some x) :
    ∃ a c, ∃ vs : List Ex, cs = [.slice a vs.length c] ∧ ExsAt none w a vs ∧ vs.length ≤ c ∧ vs.length ≤ maxLen ∧ ∀ v ∈ vs, ExK v :=
  rd_rows (⟨0, 0, ByteArray.empty, (0, 0, ByteArray.empty), 0, 0⟩ : Ex) 78 185 145 8 Tryz.underlying78 cellsLExpr (by omega) (fun _ _ _ h hc => rdn_Expr h hc) h

theorem rdn_Rule {n : Nat} {cs : List Value} {x : DataW H × List MemPlace} (h : DataW.trod enc Tryz.prog w base spare held n 81 cs = some x) (hc : cs.length = 5) : ∃ v : Ru, (Ru.R none) w cs v ∧ RuK v := by
  match cs, hc with
  | [v_name, v_sal, v_pats, v_exprs, v_acts], _ =>
    obtain ⟨xs, n', _, rfl, _, hlen, hf⟩ := DataW.trod_struct Tryz.underlying81 h
    match xs, hlen with
    | [y0, y1, y2, y3, y4], _ =>
      have h0 := (hf 0 _ rfl).trans (show _ = some y0 from rfl)
      have h1 := (hf 1 _ rfl).trans (show _ = some y1 from rfl)
      have h2 := (hf 2 _ rfl).trans (show _ = some y2 from rfl)
      have h3 := (hf 3 _ rfl).trans (show _ = some y3 from rfl)
      have h4 := (hf 4 _ rfl).trans (show _ = some y4 from rfl)
      simp [cellsS] at h0
      simp [cellsI64] at h1
      simp [cellsSPattern] at h2
      simp [cellsSExpr] at h3
      simp [cellsSAction] at h4
      obtain ⟨d_name, e0, _, s0⟩ := DataW.trod_string Tryz.underlying9 h0
      obtain ⟨d_sal, e1, _, wf1⟩ := DataW.trod_int Tryz.underlying2 h1
      obtain ⟨a_pats, c_pats, d_pats, e2, at2, cap2, len2, ok2⟩ := rdn_Patterns h2
      obtain ⟨a_exprs, c_exprs, d_exprs, e3, at3, cap3, len3, ok3⟩ := rdn_Exprs h3
      obtain ⟨a_acts, c_acts, d_acts, e4, at4, cap4, len4, ok4⟩ := rd_Actions h4
      simp only [List.cons.injEq, and_true] at e0 e1 e2 e3 e4
      subst e0 e1 e2 e3 e4
      exact ⟨⟨d_name, d_sal, d_pats, d_exprs, d_acts⟩, ⟨a_pats, c_pats, a_exprs, c_exprs, a_acts, c_acts, rfl, at2, at3, at4, cap3⟩, ⟨⟨s0, ⟨len2, fun v hv => (ok2 v hv).1⟩, ⟨len3, fun v hv => (ok3 v hv).1⟩, ⟨len4, fun v hv => ok4 v hv⟩⟩, fun v hv => (ok3 v hv).2.1, wf64 wf1, fun p hp => (ok2 p hp).2, fun v hv => (ok3 v hv).2.2⟩⟩

theorem rdn_Rules {n : Nat} {cs : List Value} {x : DataW H × List MemPlace} (h : DataW.trod enc Tryz.prog w base spare held n 39 cs = some x) :
    ∃ a c, ∃ vs : List Ru, cs = [.slice a vs.length c] ∧ RusAt none w a vs ∧ vs.length ≤ c ∧ vs.length ≤ maxLen ∧ ∀ v ∈ vs, RuK v :=
  rd_rows (⟨ByteArray.empty, 0, [], [], []⟩ : Ru) 39 81 53 5 Tryz.underlying39 cellsLRule (by omega) (fun _ _ _ h hc => rdn_Rule h hc) h


end
end Go.Proofs.YtfgpcjdjbbhdmaaGreatDoor
