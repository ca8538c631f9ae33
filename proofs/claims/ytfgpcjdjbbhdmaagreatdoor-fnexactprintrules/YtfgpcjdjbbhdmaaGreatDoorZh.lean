/-
  OUR OWN TEXT. RdG, RdR, one behind the other.
-/
import Derived.Test.YtfgpcjdjbbhdmaaGreatDoorZb
import Derived.Test.YtfgpcjdjbbhdmaaGreatDoorZc
import Derived.Test.YtfgpcjdjbbhdmaaGreatDoorZg
namespace Go.Proofs.YtfgpcjdjbbhdmaaGreatDoor
open Go.RowKit Go.Deep

theorem cellsB : Tryz.prog.cellsOf 4 = 1 := by kernel_rfl
theorem cellsLTerm : Tryz.prog.cellsOf 256 = 6 := by kernel_rfl
theorem cellsSTerm : Tryz.prog.cellsOf 179 = 1 := by kernel_rfl
theorem cellsLPattern : Tryz.prog.cellsOf 181 = 3 := by kernel_rfl
theorem cellsSPattern : Tryz.prog.cellsOf 77 = 1 := by kernel_rfl

section
variable {H : Type} {enc : TypeId × Value → H} {w : World} {base : Nat} {spare : Nat → Bool} {held : Bool}

/-- A list of rows that came in. -/
theorem rd_rows {α : Type} (d : α) {R : World → List Value → α → Prop} {Ok : α → Prop} (t e T : TypeId) (m : Nat) (ht : Tryz.prog.underlying t = some (.slice e)) (ce : Tryz.prog.cellsOf e = m) (hm0 : 0 < m)
    (each : ∀ (n : Nat) (cs : List Value) (x : DataW H × List MemPlace), DataW.trod enc Tryz.prog w base spare held n e cs = some x → cs.length = m → ∃ v : α, R w cs v ∧ Ok v)
    {n : Nat} {cs : List Value} {x : DataW H × List MemPlace} (h : DataW.trod enc Tryz.prog w base spare held n t cs = some x) :
    ∃ a c, ∃ vs : List α, cs = [.slice a vs.length c] ∧ RowsAt R none T m w a vs ∧ vs.length ≤ c ∧ vs.length ≤ maxLen ∧ ∀ v ∈ vs, Ok v := by
  rcases open_slice ht h with ⟨rfl, _⟩ | ⟨a, len, cap, mm, k, D, Pl, rfl, _, hl, hm, hmm, _, hx⟩
  · exact ⟨none, 0, [], rfl, RowsAt.nil, Nat.zero_le _, Nat.zero_le _, fun v hv => by simp at hv⟩
  have hlm : len ≤ mm := by rw [hmm]; split <;> omega
  have one : ∀ i, i < len → ∃ v : α, (∃ r, r.length = m ∧ (∀ j u, r[j]? = some u → w.cell? (a.add (i * m + j)) = some u) ∧ R w r v) ∧ Ok v := by
    intro i hi
    obtain ⟨cs', h1, h2⟩ := hx i (by omega)
    rw [ce] at h1
    obtain ⟨_, hlen, hcell⟩ := World.cells?_some h1
    obtain ⟨v, hR, hO⟩ := each _ _ _ h2 hlen
    refine ⟨v, ⟨cs', hlen, fun j u hj => ?_, hR⟩, hO⟩
    have hjm : j < m := by rw [← hlen]; exact (List.getElem?_eq_some_iff.1 hj).1
    have := hcell j hjm
    rw [add_add] at this
    rw [this, hj]
  have : Nonempty (Inhabited α) := ⟨⟨d⟩⟩
  obtain ⟨inh⟩ := this
  obtain ⟨f, hf⟩ := choose_lt one
  refine ⟨some a, cap, (List.range len).map f, by simp, ?_, by simp; omega, by simp; omega, ?_⟩
  · intro i v hv
    obtain ⟨hji, rfl⟩ := map_range_at hv
    obtain ⟨⟨r, hr, hc, hR⟩, _⟩ := hf i hji
    obtain ⟨b, o, sp⟩ := a
    obtain ⟨⟨r0, hr0, hc0, _⟩, _⟩ := hf 0 (by omega)
    obtain ⟨u0, hu0⟩ : ∃ u, r0[0]? = some u := ⟨r0[0]'(by omega), by simp⟩
    obtain ⟨u1, hu1⟩ : ∃ u, r[0]? = some u := ⟨r[0]'(by omega), by simp⟩
    have hsp : sp = none := spot_none (by simpa using hc0 0 u0 hu0) (hc 0 u1 hu1)
    subst hsp
    refine ⟨b, o, r, rfl, Qb.bare _ _ _, hr, fun j u hj => ?_, hR⟩
    have := hc j u hj
    rw [Addr.add_mid] at this
    rwa [Nat.add_assoc]
  · intro v hv
    obtain ⟨i, hi, rfl⟩ := List.mem_map.1 hv
    exact (hf i (List.mem_range.1 hi)).2

theorem rd_ints {n : Nat} {cs : List Value} {x : DataW H × List MemPlace} (h : DataW.trod enc Tryz.prog w base spare held n 92 cs = some x) :
    ∃ a c, ∃ vs : List Int, cs = [.slice a vs.length c] ∧ IntsAt none w a vs ∧ vs.length ≤ c ∧ vs.length ≤ maxLen ∧ ∀ v ∈ vs, True :=
  rd_rows (0 : Int) 92 3 3 1 Tryz.underlying92 cellsI (by omega) (fun n cs x h hc => by
    match cs, hc with
    | [v0], _ =>
      obtain ⟨k, e0, _, _⟩ := DataW.trod_int Tryz.underlying3 h
      exact ⟨k, e0, trivial⟩) h

theorem rd_Term {n : Nat} {cs : List Value} {x : DataW H × List MemPlace} (h : DataW.trod enc Tryz.prog w base spare held n 256 cs = some x) (hc : cs.length = 6) : ∃ v : Tm, Tm.R w cs v ∧ Tm.le maxLen v := by
  match cs, hc with
  | [v_kind, v_op, v_var, v_val0, v_val1, v_val2], _ =>
    obtain ⟨xs, n', _, rfl, _, hlen, hf⟩ := DataW.trod_struct Tryz.underlying256 h
    match xs, hlen with
    | [y0, y1, y2, y3], _ =>
      have h0 := (hf 0 _ rfl).trans (show _ = some y0 from rfl)
      have h1 := (hf 1 _ rfl).trans (show _ = some y1 from rfl)
      have h2 := (hf 2 _ rfl).trans (show _ = some y2 from rfl)
      have h3 := (hf 3 _ rfl).trans (show _ = some y3 from rfl)
      simp [cellsI] at h0
      simp [cellsI] at h1
      simp [cellsS] at h2
      simp [cellsLV] at h3
      obtain ⟨d_kind, e0, _, _⟩ := DataW.trod_int Tryz.underlying3 h0
      obtain ⟨d_op, e1, _, _⟩ := DataW.trod_int Tryz.underlying3 h1
      obtain ⟨d_var, e2, _, s2⟩ := DataW.trod_string Tryz.underlying9 h2
      obtain ⟨d_val, rfl, rfl, rfl, vok3⟩ := rd_val h3
      simp only [List.cons.injEq, and_true] at e0 e1 e2
      subst e0 e1 e2
      exact ⟨⟨d_kind, d_op, d_var, d_val⟩, rfl, ⟨s2, vok3.2.2⟩⟩

theorem rd_Terms {n : Nat} {cs : List Value} {x : DataW H × List MemPlace} (h : DataW.trod enc Tryz.prog w base spare held n 179 cs = some x) :
    ∃ a c, ∃ vs : List Tm, cs = [.slice a vs.length c] ∧ TmsAt none w a vs ∧ vs.length ≤ c ∧ vs.length ≤ maxLen ∧ ∀ v ∈ vs, Tm.le maxLen v :=
  rd_rows (⟨0, 0, ByteArray.empty, (0, 0, ByteArray.empty)⟩ : Tm) 179 256 90 6 Tryz.underlying179 cellsLTerm (by omega) (fun _ _ _ h hc => rd_Term h hc) h

theorem rd_Pattern {n : Nat} {cs : List Value} {x : DataW H × List MemPlace} (h : DataW.trod enc Tryz.prog w base spare held n 181 cs = some x) (hc : cs.length = 3) : ∃ v : Pt, (Pt.R none) w cs v ∧ Pt.le maxLen v := by
  match cs, hc with
  | [v_neg, v_cls, v_terms], _ =>
    obtain ⟨xs, n', _, rfl, _, hlen, hf⟩ := DataW.trod_struct Tryz.underlying181 h
    match xs, hlen with
    | [y0, y1, y2], _ =>
      have h0 := (hf 0 _ rfl).trans (show _ = some y0 from rfl)
      have h1 := (hf 1 _ rfl).trans (show _ = some y1 from rfl)
      have h2 := (hf 2 _ rfl).trans (show _ = some y2 from rfl)
      simp [cellsB] at h0
      simp [cellsS] at h1
      simp [cellsSTerm] at h2
      obtain ⟨d_neg, e0, _⟩ := DataW.trod_bool Tryz.underlying4 h0
      obtain ⟨d_cls, e1, _, s1⟩ := DataW.trod_string Tryz.underlying9 h1
      obtain ⟨a_terms, c_terms, d_terms, e2, at2, cap2, len2, ok2⟩ := rd_Terms h2
      simp only [List.cons.injEq, and_true] at e0 e1 e2
      subst e0 e1 e2
      exact ⟨⟨d_neg, d_cls, d_terms⟩, ⟨a_terms, c_terms, rfl, at2, cap2⟩, ⟨s1, ⟨len2, fun v hv => ok2 v hv⟩⟩⟩

theorem rd_Patterns {n : Nat} {cs : List Value} {x : DataW H × List MemPlace} (h : DataW.trod enc Tryz.prog w base spare held n 77 cs = some x) :
    ∃ a c, ∃ vs : List Pt, cs = [.slice a vs.length c] ∧ PtsAt none w a vs ∧ vs.length ≤ c ∧ vs.length ≤ maxLen ∧ ∀ v ∈ vs, Pt.le maxLen v :=
  rd_rows (⟨false, ByteArray.empty, []⟩ : Pt) 77 181 86 3 Tryz.underlying77 cellsLPattern (by omega) (fun _ _ _ h hc => rd_Pattern h hc) h

end
end Go.Proofs.YtfgpcjdjbbhdmaaGreatDoor

namespace Go.Proofs.YtfgpcjdjbbhdmaaGreatDoor
open Go.RowKit Go.Deep

theorem cellsU8 : Tryz.prog.cellsOf 5 = 1 := by kernel_rfl
theorem cellsLI : Tryz.prog.cellsOf 92 = 1 := by kernel_rfl
theorem cellsLExpr : Tryz.prog.cellsOf 185 = 8 := by kernel_rfl
theorem cellsSExpr : Tryz.prog.cellsOf 78 = 1 := by kernel_rfl
theorem cellsLAction : Tryz.prog.cellsOf 187 = 4 := by kernel_rfl
theorem cellsSAction : Tryz.prog.cellsOf 79 = 1 := by kernel_rfl
theorem cellsLRule : Tryz.prog.cellsOf 81 = 5 := by kernel_rfl
theorem cellsSRule : Tryz.prog.cellsOf 39 = 1 := by kernel_rfl

theorem wfU8 {a : Int} (h : (Lit.int .u8 a).wf = true) : 0 ≤ a ∧ a < 256 := by
  have h0 : IntKind.u8.min = 0 := rfl
  have h1 : IntKind.u8.max = 255 := rfl
  simp [Lit.wf] at h
  omega

section
variable {H : Type} {enc : TypeId × Value → H} {w : World} {base : Nat} {spare : Nat → Bool} {held : Bool}

theorem rd_Expr {n : Nat} {cs : List Value} {x : DataW H × List MemPlace} (h : DataW.trod enc Tryz.prog w base spare held n 185 cs = some x) (hc : cs.length = 8) : ∃ v : Ex, Ex.R w cs v ∧ (fun x : Ex => x.le maxLen ∧ 0 ≤ x.op ∧ x.op < 256) v := by
  match cs, hc with
  | [v_kind, v_op, v_var, v_val0, v_val1, v_val2, v_a, v_b], _ =>
    obtain ⟨xs, n', _, rfl, _, hlen, hf⟩ := DataW.trod_struct Tryz.underlying185 h
    match xs, hlen with
    | [y0, y1, y2, y3, y4, y5], _ =>
      have h0 := (hf 0 _ rfl).trans (show _ = some y0 from rfl)
      have h1 := (hf 1 _ rfl).trans (show _ = some y1 from rfl)
      have h2 := (hf 2 _ rfl).trans (show _ = some y2 from rfl)
      have h3 := (hf 3 _ rfl).trans (show _ = some y3 from rfl)
      have h4 := (hf 4 _ rfl).trans (show _ = some y4 from rfl)
      have h5 := (hf 5 _ rfl).trans (show _ = some y5 from rfl)
      simp [cellsI] at h0
      simp [cellsU8] at h1
      simp [cellsS] at h2
      simp [cellsLV] at h3
      simp [cellsI] at h4
      simp [cellsI] at h5
      obtain ⟨d_kind, e0, _, _⟩ := DataW.trod_int Tryz.underlying3 h0
      obtain ⟨d_op, e1, _, wf1⟩ := DataW.trod_int Tryz.underlying5 h1
      obtain ⟨d_var, e2, _, s2⟩ := DataW.trod_string Tryz.underlying9 h2
      obtain ⟨d_val, rfl, rfl, rfl, vok3⟩ := rd_val h3
      obtain ⟨d_a, e4, _, _⟩ := DataW.trod_int Tryz.underlying3 h4
      obtain ⟨d_b, e5, _, _⟩ := DataW.trod_int Tryz.underlying3 h5
      simp only [List.cons.injEq, and_true] at e0 e1 e2 e4 e5
      subst e0 e1 e2 e4 e5
      have hw := wfU8 wf1
      exact ⟨⟨d_kind, d_op, d_var, d_val, d_a, d_b⟩, rfl, ⟨⟨s2, vok3.2.2⟩, hw⟩⟩

theorem rd_Exprs {n : Nat} {cs : List Value} {x : DataW H × List MemPlace} (h : DataW.trod enc Tryz.prog w base spare held n 78 cs = some x) :
    ∃ a c, ∃ vs : List Ex, cs = [.slice a vs.length c] ∧ ExsAt none w a vs ∧ vs.length ≤ c ∧ vs.length ≤ maxLen ∧ ∀ v ∈ vs, (fun x : Ex => x.le maxLen ∧ 0 ≤ x.op ∧ x.op < 256) v :=
  rd_rows (⟨0, 0, ByteArray.empty, (0, 0, ByteArray.empty), 0, 0⟩ : Ex) 78 185 145 8 Tryz.underlying78 cellsLExpr (by omega) (fun _ _ _ h hc => rd_Expr h hc) h

theorem rd_Action {n : Nat} {cs : List Value} {x : DataW H × List MemPlace} (h : DataW.trod enc Tryz.prog w base spare held n 187 cs = some x) (hc : cs.length = 4) : ∃ v : Ac, (Ac.R none) w cs v ∧ Ac.le maxLen v := by
  match cs, hc with
  | [v_kind, v_k, v_cls, v_args], _ =>
    obtain ⟨xs, n', _, rfl, _, hlen, hf⟩ := DataW.trod_struct Tryz.underlying187 h
    match xs, hlen with
    | [y0, y1, y2, y3], _ =>
      have h0 := (hf 0 _ rfl).trans (show _ = some y0 from rfl)
      have h1 := (hf 1 _ rfl).trans (show _ = some y1 from rfl)
      have h2 := (hf 2 _ rfl).trans (show _ = some y2 from rfl)
      have h3 := (hf 3 _ rfl).trans (show _ = some y3 from rfl)
      simp [cellsI] at h0
      simp [cellsI] at h1
      simp [cellsS] at h2
      simp [cellsLI] at h3
      obtain ⟨d_kind, e0, _, _⟩ := DataW.trod_int Tryz.underlying3 h0
      obtain ⟨d_k, e1, _, _⟩ := DataW.trod_int Tryz.underlying3 h1
      obtain ⟨d_cls, e2, _, s2⟩ := DataW.trod_string Tryz.underlying9 h2
      obtain ⟨a_args, c_args, d_args, e3, at3, cap3, len3, _⟩ := rd_ints h3
      simp only [List.cons.injEq, and_true] at e0 e1 e2 e3
      subst e0 e1 e2 e3
      exact ⟨⟨d_kind, d_k, d_cls, d_args⟩, ⟨a_args, c_args, rfl, at3⟩, ⟨s2, len3⟩⟩

theorem rd_Actions {n : Nat} {cs : List Value} {x : DataW H × List MemPlace} (h : DataW.trod enc Tryz.prog w base spare held n 79 cs = some x) :
    ∃ a c, ∃ vs : List Ac, cs = [.slice a vs.length c] ∧ AcsAt none w a vs ∧ vs.length ≤ c ∧ vs.length ≤ maxLen ∧ ∀ v ∈ vs, Ac.le maxLen v :=
  rd_rows (⟨0, 0, ByteArray.empty, []⟩ : Ac) 79 187 94 4 Tryz.underlying79 cellsLAction (by omega) (fun _ _ _ h hc => rd_Action h hc) h

theorem rd_Rule {n : Nat} {cs : List Value} {x : DataW H × List MemPlace} (h : DataW.trod enc Tryz.prog w base spare held n 81 cs = some x) (hc : cs.length = 5) : ∃ v : Ru, (Ru.R none) w cs v ∧ (fun x : Ru => x.le maxLen ∧ OpsOk x.exprs) v := by
  match cs, hc with
  | [v_name, v_sal, v_pats, v_exprs, v_acts], _ =>
    obtain ⟨xs, n', _, rfl, _, hlen, hf⟩ := DataW.trod_struct Tryz.underlying81 h
    match xs, hlen with
    | [y0, y1, y2, y3, y4], _ =>
      have h0 := (hf 0 _ rfl).trans (show _ = some y0 from rfl)
      have h1 := (hf 1 _ rfl).trans (show _ = some y1 from rfl)
      have h2 := (hf 2 _ rfl).trans (show _ = some y2 from rfl)
      have h3 := (hf 3 _ rfl).trans (show _ = some y3 from rfl)
      have h4 := (hf 4 _ rfl).trans (show _ = some y4 from rfl)
      simp [cellsS] at h0
      simp [cellsI64] at h1
      simp [cellsSPattern] at h2
      simp [cellsSExpr] at h3
      simp [cellsSAction] at h4
      obtain ⟨d_name, e0, _, s0⟩ := DataW.trod_string Tryz.underlying9 h0
      obtain ⟨d_sal, e1, _, _⟩ := DataW.trod_int Tryz.underlying2 h1
      obtain ⟨a_pats, c_pats, d_pats, e2, at2, cap2, len2, ok2⟩ := rd_Patterns h2
      obtain ⟨a_exprs, c_exprs, d_exprs, e3, at3, cap3, len3, ok3⟩ := rd_Exprs h3
      obtain ⟨a_acts, c_acts, d_acts, e4, at4, cap4, len4, ok4⟩ := rd_Actions h4
      simp only [List.cons.injEq, and_true] at e0 e1 e2 e3 e4
      subst e0 e1 e2 e3 e4
      exact ⟨⟨d_name, d_sal, d_pats, d_exprs, d_acts⟩, ⟨a_pats, c_pats, a_exprs, c_exprs, a_acts, c_acts, rfl, at2, at3, at4, cap3⟩, ⟨⟨s0, ⟨len2, fun v hv => ok2 v hv⟩, ⟨len3, fun v hv => (ok3 v hv).1⟩, ⟨len4, fun v hv => ok4 v hv⟩⟩, fun v hv => (ok3 v hv).2⟩⟩

theorem rd_Rules {n : Nat} {cs : List Value} {x : DataW H × List MemPlace} (h : DataW.trod enc Tryz.prog w base spare held n 39 cs = some x) :
    ∃ a c, ∃ vs : List Ru, cs = [.slice a vs.length c] ∧ RusAt none w a vs ∧ vs.length ≤ c ∧ vs.length ≤ maxLen ∧ ∀ v ∈ vs, (fun x : Ru => x.le maxLen ∧ OpsOk x.exprs) v :=
  rd_rows (⟨ByteArray.empty, 0, [], [], []⟩ : Ru) 39 81 53 5 Tryz.underlying39 cellsLRule (by omega) (fun _ _ _ h hc => rd_Rule h hc) h

end
end Go.Proofs.YtfgpcjdjbbhdmaaGreatDoor
