/-
  OUR OWN TEXT. RdG, RdR, LawC, RowC, one behind the other.
-/
import Derived.Test.YtkofbgdcgoajeaaRd
import Derived.Test.YtkofbgdcgoajeaaTy
import Derived.Test.YtkofbgdcgoajeaaIc6
import Derived.Test.YtkofbgdcgoajeaaSzR
import Derived.Test.YtkofbgdcgoajeaaToR
import Derived.Test.YtkofbgdcgoajeaaEqR
import Derived.Test.YtkofbgdcgoajeaaJl
import Derived.WalkKit
import Derived.ProofKit
import Derived.OpenShut
import Derived.ShutString
import Derived.ChangeOld
import Derived.Below
namespace Go.Proofs.Ytkofbgdcgoajeaa
open Go.RowKit Go.Deep

theorem cellsB : Try.prog.cellsOf 4 = 1 := by kernel_rfl
theorem cellsLTerm : Try.prog.cellsOf 177 = 6 := by kernel_rfl
theorem cellsSTerm : Try.prog.cellsOf 60 = 1 := by kernel_rfl
theorem cellsLPattern : Try.prog.cellsOf 62 = 3 := by kernel_rfl
theorem cellsSPattern : Try.prog.cellsOf 114 = 1 := by kernel_rfl

section
variable {H : Type} {enc : TypeId × Value → H} {w : World} {base : Nat} {spare : Nat → Bool} {held : Bool}

/-- A list of rows that came in. -/
theorem rd_rows {α : Type} (d : α) {R : World → List Value → α → Prop} {Ok : α → Prop} (t e T : TypeId) (m : Nat) (ht : Try.prog.underlying t = some (.slice e)) (ce : Try.prog.cellsOf e = m) (hm0 : 0 < m)
    (each : ∀ (n : Nat) (cs : List Value) (x : DataW H × List MemPlace), DataW.trod enc Try.prog w base spare held n e cs = some x → cs.length = m → ∃ v : α, R w cs v ∧ Ok v)
    {n : Nat} {cs : List Value} {x : DataW H × List MemPlace} (h : DataW.trod enc Try.prog w base spare held n t cs = some x) :
    ∃ a c, ∃ vs : List α, cs = [.slice a vs.length c] ∧ RowsAt R none T m w a vs ∧ vs.length ≤ c ∧ vs.length ≤ maxLen ∧ ∀ v ∈ vs, Ok v := by
  rcases open_slice ht h with ⟨rfl, _⟩ | ⟨a, len, cap, mm, k, D, Pl, rfl, _, hl, hm, hmm, _, hx⟩
  · exact ⟨none, 0, [], rfl, RowsAt.nil, Nat.zero_le _, Nat.zero_le _, fun v hv => by simp at hv⟩
  have hlm : len ≤ mm := by rw [hmm]; split <;> omega
  have one : ∀ i, i < len → ∃ v : α, (∃ r, r.length = m ∧ (∀ j u, r[j]? = some u → w.cell? (a.add (i * m + j)) = some u) ∧ R w r v) ∧ Ok v := by
    intro i hi
    obtain ⟨cs', h1, h2⟩ := hx i (by omega)
    rw [ce] at h1
    obtain ⟨_, hlen, hcell⟩ := World.cells?_some h1
    obtain ⟨v, hR, hO⟩ := each _ _ _ h2 hlen
    refine ⟨v, ⟨cs', hlen, fun j u hj => ?_, hR⟩, hO⟩
    have hjm : j < m := by rw [← hlen]; exact (List.getElem?_eq_some_iff.1 hj).1
    have := hcell j hjm
    rw [add_add] at this
    rw [this, hj]
  have : Nonempty (Inhabited α) := ⟨⟨d⟩⟩
  obtain ⟨inh⟩ := this
  obtain ⟨f, hf⟩ := choose_lt one
  refine ⟨some a, cap, (List.range len).map f, by simp, ?_, by simp; omega, by simp; omega, ?_⟩
  · intro i v hv
    obtain ⟨hji, rfl⟩ := map_range_at hv
    obtain ⟨⟨r, hr, hc, hR⟩, _⟩ := hf i hji
    obtain ⟨b, o, sp⟩ := a
    obtain ⟨⟨r0, hr0, hc0, _⟩, _⟩ := hf 0 (by omega)
    obtain ⟨u0, hu0⟩ : ∃ u, r0[0]? = some u := ⟨r0[0]'(by omega), by simp⟩
    obtain ⟨u1, hu1⟩ : ∃ u, r[0]? = some u := ⟨r[0]'(by omega), by simp⟩
    have hsp : sp = none := spot_none (by simpa using hc0 0 u0 hu0) (hc 0 u1 hu1)
    subst hsp
    refine ⟨b, o, r, rfl, Qb.bare _ _ _, hr, fun j u hj => ?_, hR⟩
    have := hc j u hj
    rw [Addr.add_mid] at this
    rwa [Nat.add_assoc]
  · intro v hv
    obtain ⟨i, hi, rfl⟩ := List.mem_map.1 hv
    exact (hf i (List.mem_range.1 hi)).2

theorem rd_ints {n : Nat} {cs : List Value} {x : DataW H × List MemPlace} (h : DataW.trod enc Try.prog w base spare held n 125 cs = some x) :
    ∃ a c, ∃ vs : List Int, cs = [.slice a vs.length c] ∧ IntsAt none w a vs ∧ vs.length ≤ c ∧ vs.length ≤ maxLen ∧ ∀ v ∈ vs, True :=
  rd_rows (0 : Int) 125 3 3 1 Try.underlying125 cellsI (by omega) (fun n cs x h hc => by
    match cs, hc with
    | [v0], _ =>
      obtain ⟨k, e0, _, _⟩ := DataW.trod_int Try.underlying3 h
      exact ⟨k, e0, trivial⟩) h

theorem rd_Term {n : Nat} {cs : List Value} {x : DataW H × List MemPlace} (h : DataW.trod enc Try.prog w base spare held n 177 cs = some x) (hc : cs.length = 6) : ∃ v : Tm, Tm.R w cs v ∧ Tm.le maxLen v := by
  match cs, hc with
  | [v_kind, v_op, v_var, v_val0, v_val1, v_val2], _ =>
    obtain ⟨xs, n', _, rfl, _, hlen, hf⟩ := DataW.trod_struct Try.underlying177 h
    match xs, hlen with
    | [y0, y1, y2, y3], _ =>
      have h0 := (hf 0 _ rfl).trans (show _ = some y0 from rfl)
      have h1 := (hf 1 _ rfl).trans (show _ = some y1 from rfl)
      have h2 := (hf 2 _ rfl).trans (show _ = some y2 from rfl)
      have h3 := (hf 3 _ rfl).trans (show _ = some y3 from rfl)
      simp [cellsI] at h0
      simp [cellsI] at h1
      simp [cellsS] at h2
      simp [cellsLV] at h3
      obtain ⟨d_kind, e0, _, _⟩ := DataW.trod_int Try.underlying3 h0
      obtain ⟨d_op, e1, _, _⟩ := DataW.trod_int Try.underlying3 h1
      obtain ⟨d_var, e2, _, s2⟩ := DataW.trod_string Try.underlying9 h2
      obtain ⟨d_val, rfl, rfl, rfl, vok3⟩ := rd_val h3
      simp only [List.cons.injEq, and_true] at e0 e1 e2
      subst e0 e1 e2
      exact ⟨⟨d_kind, d_op, d_var, d_val⟩, rfl, ⟨s2, vok3.2.2⟩⟩

theorem rd_Terms {n : Nat} {cs : List Value} {x : DataW H × List MemPlace} (h : DataW.trod enc Try.prog w base spare held n 60 cs = some x) :
    ∃ a c, ∃ vs : List Tm, cs = [.slice a vs.length c] ∧ TmsAt none w a vs ∧ vs.length ≤ c ∧ vs.length ≤ maxLen ∧ ∀ v ∈ vs, Tm.le maxLen v :=
  rd_rows (⟨0, 0, ByteArray.empty, (0, 0, ByteArray.empty)⟩ : Tm) 60 177 135 6 Try.underlying60 cellsLTerm (by omega) (fun _ _ _ h hc => rd_Term h hc) h

theorem rd_Pattern {n : Nat} {cs : List Value} {x : DataW H × List MemPlace} (h : DataW.trod enc Try.prog w base spare held n 62 cs = some x) (hc : cs.length = 3) : ∃ v : Pt, (Pt.R none) w cs v ∧ Pt.le maxLen v := by
  match cs, hc with
  | [v_neg, v_cls, v_terms], _ =>
    obtain ⟨xs, n', _, rfl, _, hlen, hf⟩ := DataW.trod_struct Try.underlying62 h
    match xs, hlen with
    | [y0, y1, y2], _ =>
      have h0 := (hf 0 _ rfl).trans (show _ = some y0 from rfl)
      have h1 := (hf 1 _ rfl).trans (show _ = some y1 from rfl)
      have h2 := (hf 2 _ rfl).trans (show _ = some y2 from rfl)
      simp [cellsB] at h0
      simp [cellsS] at h1
      simp [cellsSTerm] at h2
      obtain ⟨d_neg, e0, _⟩ := DataW.trod_bool Try.underlying4 h0
      obtain ⟨d_cls, e1, _, s1⟩ := DataW.trod_string Try.underlying9 h1
      obtain ⟨a_terms, c_terms, d_terms, e2, at2, cap2, len2, ok2⟩ := rd_Terms h2
      simp only [List.cons.injEq, and_true] at e0 e1 e2
      subst e0 e1 e2
      exact ⟨⟨d_neg, d_cls, d_terms⟩, ⟨a_terms, c_terms, rfl, at2⟩, ⟨s1, ⟨len2, fun v hv => ok2 v hv⟩⟩⟩

theorem rd_Patterns {n : Nat} {cs : List Value} {x : DataW H × List MemPlace} (h : DataW.trod enc Try.prog w base spare held n 114 cs = some x) :
    ∃ a c, ∃ vs : List Pt, cs = [.slice a vs.length c] ∧ PtsAt none w a vs ∧ vs.length ≤ c ∧ vs.length ≤ maxLen ∧ ∀ v ∈ vs, Pt.le maxLen v :=
  rd_rows (⟨false, ByteArray.empty, []⟩ : Pt) 114 62 70 3 Try.underlying114 cellsLPattern (by omega) (fun _ _ _ h hc => rd_Pattern h hc) h

end
end Go.Proofs.Ytkofbgdcgoajeaa

namespace Go.Proofs.Ytkofbgdcgoajeaa
open Go.RowKit Go.Deep

theorem cellsU8 : Try.prog.cellsOf 5 = 1 := by kernel_rfl
theorem cellsLI : Try.prog.cellsOf 125 = 1 := by kernel_rfl
theorem cellsLExpr : Try.prog.cellsOf 202 = 8 := by kernel_rfl
theorem cellsSExpr : Try.prog.cellsOf 115 = 1 := by kernel_rfl
theorem cellsLAction : Try.prog.cellsOf 204 = 4 := by kernel_rfl
theorem cellsSAction : Try.prog.cellsOf 116 = 1 := by kernel_rfl
theorem cellsLRule : Try.prog.cellsOf 118 = 5 := by kernel_rfl
theorem cellsSRule : Try.prog.cellsOf 50 = 1 := by kernel_rfl

theorem wfU8 {a : Int} (h : (Lit.int .u8 a).wf = true) : 0 ≤ a ∧ a < 256 := by
  have h0 : IntKind.u8.min = 0 := rfl
  have h1 : IntKind.u8.max = 255 := rfl
  simp [Lit.wf] at h
  omega

section
variable {H : Type} {enc : TypeId × Value → H} {w : World} {base : Nat} {spare : Nat → Bool} {held : Bool}

theorem rd_Expr {n : Nat} {cs : List Value} {x : DataW H × List MemPlace} (h : DataW.trod enc Try.prog w base spare held n 202 cs = some x) (hc : cs.length = 8) : ∃ v : Ex, Ex.R w cs v ∧ (fun x : Ex => x.le maxLen ∧ 0 ≤ x.op ∧ x.op < 256) v := by
  match cs, hc with
  | [v_kind, v_op, v_var, v_val0, v_val1, v_val2, v_a, v_b], _ =>
    obtain ⟨xs, n', _, rfl, _, hlen, hf⟩ := DataW.trod_struct Try.underlying202 h
    match xs, hlen with
    | [y0, y1, y2, y3, y4, y5], _ =>
      have h0 := (hf 0 _ rfl).trans (show _ = some y0 from rfl)
      have h1 := (hf 1 _ rfl).trans (show _ = some y1 from rfl)
      have h2 := (hf 2 _ rfl).trans (show _ = some y2 from rfl)
      have h3 := (hf 3 _ rfl).trans (show _ = some y3 from rfl)
      have h4 := (hf 4 _ rfl).trans (show _ = some y4 from rfl)
      have h5 := (hf 5 _ rfl).trans (show _ = some y5 from rfl)
      simp [cellsI] at h0
      simp [cellsU8] at h1
      simp [cellsS] at h2
      simp [cellsLV] at h3
      simp [cellsI] at h4
      simp [cellsI] at h5
      obtain ⟨d_kind, e0, _, _⟩ := DataW.trod_int Try.underlying3 h0
      obtain ⟨d_op, e1, _, wf1⟩ := DataW.trod_int Try.underlying5 h1
      obtain ⟨d_var, e2, _, s2⟩ := DataW.trod_string Try.underlying9 h2
      obtain ⟨d_val, rfl, rfl, rfl, vok3⟩ := rd_val h3
      obtain ⟨d_a, e4, _, _⟩ := DataW.trod_int Try.underlying3 h4
      obtain ⟨d_b, e5, _, _⟩ := DataW.trod_int Try.underlying3 h5
      simp only [List.cons.injEq, and_true] at e0 e1 e2 e4 e5
      subst e0 e1 e2 e4 e5
      have hw := wfU8 wf1
      exact ⟨⟨d_kind, d_op, d_var, d_val, d_a, d_b⟩, rfl, ⟨⟨s2, vok3.2.2⟩, hw⟩⟩

theorem rd_Exprs {n : Nat} {cs : List Value} {x : DataW H × List MemPlace} (h : DataW.trod enc Try.prog w base spare held n 115 cs = some x) :
    ∃ a c, ∃ vs : List Ex, cs = [.slice a vs.length c] ∧ ExsAt none w a vs ∧ vs.length ≤ c ∧ vs.length ≤ maxLen ∧ ∀ v ∈ vs, (fun x : Ex => x.le maxLen ∧ 0 ≤ x.op ∧ x.op < 256) v :=
  rd_rows (⟨0, 0, ByteArray.empty, (0, 0, ByteArray.empty), 0, 0⟩ : Ex) 115 202 166 8 Try.underlying115 cellsLExpr (by omega) (fun _ _ _ h hc => rd_Expr h hc) h

theorem rd_Action {n : Nat} {cs : List Value} {x : DataW H × List MemPlace} (h : DataW.trod enc Try.prog w base spare held n 204 cs = some x) (hc : cs.length = 4) : ∃ v : Ac, (Ac.R none) w cs v ∧ Ac.le maxLen v := by
  match cs, hc with
  | [v_kind, v_k, v_cls, v_args], _ =>
    obtain ⟨xs, n', _, rfl, _, hlen, hf⟩ := DataW.trod_struct Try.underlying204 h
    match xs, hlen with
    | [y0, y1, y2, y3], _ =>
      have h0 := (hf 0 _ rfl).trans (show _ = some y0 from rfl)
      have h1 := (hf 1 _ rfl).trans (show _ = some y1 from rfl)
      have h2 := (hf 2 _ rfl).trans (show _ = some y2 from rfl)
      have h3 := (hf 3 _ rfl).trans (show _ = some y3 from rfl)
      simp [cellsI] at h0
      simp [cellsI] at h1
      simp [cellsS] at h2
      simp [cellsLI] at h3
      obtain ⟨d_kind, e0, _, _⟩ := DataW.trod_int Try.underlying3 h0
      obtain ⟨d_k, e1, _, _⟩ := DataW.trod_int Try.underlying3 h1
      obtain ⟨d_cls, e2, _, s2⟩ := DataW.trod_string Try.underlying9 h2
      obtain ⟨a_args, c_args, d_args, e3, at3, cap3, len3, _⟩ := rd_ints h3
      simp only [List.cons.injEq, and_true] at e0 e1 e2 e3
      subst e0 e1 e2 e3
      exact ⟨⟨d_kind, d_k, d_cls, d_args⟩, ⟨a_args, c_args, rfl, at3⟩, ⟨s2, len3⟩⟩

theorem rd_Actions {n : Nat} {cs : List Value} {x : DataW H × List MemPlace} (h : DataW.trod enc Try.prog w base spare held n 116 cs = some x) :
    ∃ a c, ∃ vs : List Ac, cs = [.slice a vs.length c] ∧ AcsAt none w a vs ∧ vs.length ≤ c ∧ vs.length ≤ maxLen ∧ ∀ v ∈ vs, Ac.le maxLen v :=
  rd_rows (⟨0, 0, ByteArray.empty, []⟩ : Ac) 116 204 127 4 Try.underlying116 cellsLAction (by omega) (fun _ _ _ h hc => rd_Action h hc) h

theorem rd_Rule {n : Nat} {cs : List Value} {x : DataW H × List MemPlace} (h : DataW.trod enc Try.prog w base spare held n 118 cs = some x) (hc : cs.length = 5) : ∃ v : Ru, (Ru.R none) w cs v ∧ (fun x : Ru => x.le maxLen ∧ OpsOk x.exprs) v := by
  match cs, hc with
  | [v_name, v_sal, v_pats, v_exprs, v_acts], _ =>
    obtain ⟨xs, n', _, rfl, _, hlen, hf⟩ := DataW.trod_struct Try.underlying118 h
    match xs, hlen with
    | [y0, y1, y2, y3, y4], _ =>
      have h0 := (hf 0 _ rfl).trans (show _ = some y0 from rfl)
      have h1 := (hf 1 _ rfl).trans (show _ = some y1 from rfl)
      have h2 := (hf 2 _ rfl).trans (show _ = some y2 from rfl)
      have h3 := (hf 3 _ rfl).trans (show _ = some y3 from rfl)
      have h4 := (hf 4 _ rfl).trans (show _ = some y4 from rfl)
      simp [cellsS] at h0
      simp [cellsI64] at h1
      simp [cellsSPattern] at h2
      simp [cellsSExpr] at h3
      simp [cellsSAction] at h4
      obtain ⟨d_name, e0, _, s0⟩ := DataW.trod_string Try.underlying9 h0
      obtain ⟨d_sal, e1, _, _⟩ := DataW.trod_int Try.underlying2 h1
      obtain ⟨a_pats, c_pats, d_pats, e2, at2, cap2, len2, ok2⟩ := rd_Patterns h2
      obtain ⟨a_exprs, c_exprs, d_exprs, e3, at3, cap3, len3, ok3⟩ := rd_Exprs h3
      obtain ⟨a_acts, c_acts, d_acts, e4, at4, cap4, len4, ok4⟩ := rd_Actions h4
      simp only [List.cons.injEq, and_true] at e0 e1 e2 e3 e4
      subst e0 e1 e2 e3 e4
      exact ⟨⟨d_name, d_sal, d_pats, d_exprs, d_acts⟩, ⟨a_pats, c_pats, a_exprs, c_exprs, a_acts, c_acts, rfl, at2, at3, at4, cap3⟩, ⟨⟨s0, ⟨len2, fun v hv => ok2 v hv⟩, ⟨len3, fun v hv => (ok3 v hv).1⟩, ⟨len4, fun v hv => ok4 v hv⟩⟩, fun v hv => (ok3 v hv).2⟩⟩

theorem rd_Rules {n : Nat} {cs : List Value} {x : DataW H × List MemPlace} (h : DataW.trod enc Try.prog w base spare held n 50 cs = some x) :
    ∃ a c, ∃ vs : List Ru, cs = [.slice a vs.length c] ∧ RusAt none w a vs ∧ vs.length ≤ c ∧ vs.length ≤ maxLen ∧ ∀ v ∈ vs, (fun x : Ru => x.le maxLen ∧ OpsOk x.exprs) v :=
  rd_rows (⟨ByteArray.empty, 0, [], [], []⟩ : Ru) 50 118 123 5 Try.underlying50 cellsLRule (by omega) (fun _ _ _ h hc => rd_Rule h hc) h

end
end Go.Proofs.Ytkofbgdcgoajeaa

namespace Go.Proofs.Ytkofbgdcgoajeaa
open Go.RowKit
attribute [local go_sem ↓] Go.wp_at_zero Go.wp_at_succ

set_option maxHeartbeats 400000 in
theorem eqCheck_same (p : Int × Int × Int) (w : World) :
    Calls Try.prog 33 #[.agg #[.int .i64 p.1, .int .i64 p.2.1, .int .i64 p.2.2], .agg #[.int .i64 p.1, .int .i64 p.2.1, .int .i64 p.2.2]] w fun e w' => e = .returned (.bool true) ∧ Below w.heap.size w w' := by
  go_enter Try.func33, Try.ntmps33
  go_wp2
  go_ret
  exact ⟨rfl, ((Below.refl _ _).alloc (Nat.le_refl _) _).alloc (by simp) _⟩

/-- What is asked of the model's CheckRules. -/
def SCk : Prop := ∀ (a : Option Addr) (c : Nat) (rs : List Ru) (q : Option Nat) (w : World), RusAt q w a rs → rs.length ≤ c → ListLe Ru.le 1048576 rs → (∀ x ∈ rs, OpsOk x.exprs) →
  Calls Try.prog 30 #[.slice a rs.length c] w fun e w' => e = .returned (ckV (chk rs)) ∧ Below w.heap.size w w'

set_option maxHeartbeats 1600000 in
theorem law_cr (SC : SCk) (a : Option Addr) (c : Nat) (rs : List Ru) (w : World) (hv : RusAt none w a rs) (hs0 : ListLe Ru.le maxLen rs) (ho : ∀ x ∈ rs, OpsOk x.exprs) :
    Calls Try.prog 7 #[.slice a rs.length c] w fun e w' => e = .returned (.bool true) ∧ Below w.heap.size w w' := by
  have HO := hideH ho
  have HC := hideH SC
  clear ho SC
  obtain ⟨p, hp⟩ : ∃ p, chk rs = p := ⟨_, rfl⟩
  go_enter Try.func7, Try.ntmps7
  go_wp2_with (go_at_call 29; refine (szRuleS_any a c rs 1048576 _ hv hs0 (by omega) (by omega)).mono ?_; rintro e w1 ⟨⟨r, rfl, hr1⟩, hb1⟩)
  · go_ret
    exact ⟨rfl, hb1⟩
  · have hsz : szL Ru.sz rs ≤ 1048576 := by
      rcases hr1 with h | ⟨_, h⟩
      · omega
      · omega
    have hle : ListLe Ru.le 1048576 rs := listLe Ru.le_sz hsz
    clear hr1 hs0 hsz
    refine (toRuleS_any a c rs w1 (hv.below hb1) hle).mono ?_
    rintro e w2 ⟨⟨g2, hg2, rfl, ho2⟩, hb2⟩
    go_wp2_with fail
    refine (HC.out (some ⟨g2, 0, none⟩) rs.length rs _ w2 ho2 (Nat.le_refl _) hle HO.out).mono ?_
    rintro e w3 ⟨rfl, hb3⟩
    rw [hp]
    unfold ckV
    have hB3 : Below w.heap.size w w3 := hb1.trans ((hb2.trans (hb3.mono hb2.size)).mono hb1.size)
    go_wp2_with fail
    have hA3 : ∀ o, Below w.heap.size w (w3.alloc o) := fun o => hB3.alloc hB3.size _
    refine (toRuleS_any a c rs _ (hv.below (hA3 _)) hle).mono ?_
    rintro e w4 ⟨⟨g4, hg4, rfl, ho4⟩, hb4⟩
    have r0 : w4.cell? ⟨w3.heap.size, 0, none⟩ = some (.int .i64 p.1) := cell_below hb4 (by simp [go_sem])
    have r1 : w4.cell? ⟨w3.heap.size, 1, none⟩ = some (.int .i64 p.2.1) := cell_below hb4 (by simp [go_sem])
    have r2 : w4.cell? ⟨w3.heap.size, 2, none⟩ = some (.int .i64 p.2.2) := cell_below hb4 (by simp [go_sem])
    have hB4 : Below w.heap.size w w4 := (hA3 _).trans (hb4.mono (hA3 _).size)
    go_wp2_with fail
    refine (iCheckRules_any (some ⟨g4, 0, none⟩) rs.length rs w4 ho4 (Nat.le_refl _) hle HO.out).mono ?_
    rintro e w5 ⟨rfl, hb5⟩
    rw [hp]
    unfold ckV
    have s0 := cell_below hb5 r0
    have s1 := cell_below hb5 r1
    have s2 := cell_below hb5 r2
    have hB5 : Below w.heap.size w w5 := hB4.trans (hb5.mono hB4.size)
    have ho5 := ho4.below hb5
    have hs35 : w3.heap.size < w5.heap.size := cell_lt s0
    have hA5 : ∀ o, Below w5.heap.size w5 (w5.alloc o) := fun o => (Below.refl _ _).alloc (Nat.le_refl _) _
    clear r0 r1 r2
    have t0 : ∀ o, (w5.alloc o).cell? ⟨w3.heap.size, 0, none⟩ = some (.int .i64 p.1) := fun o => cell_below (hA5 o) s0
    have t1 : ∀ o, (w5.alloc o).cell? ⟨w3.heap.size, 1, none⟩ = some (.int .i64 p.2.1) := fun o => cell_below (hA5 o) s1
    have t2 : ∀ o, (w5.alloc o).cell? ⟨w3.heap.size, 2, none⟩ = some (.int .i64 p.2.2) := fun o => cell_below (hA5 o) s2
    clear s0 s1 s2
    go_wp2_with fail
    refine (eqCheck_same p _).mono ?_
    rintro e w6 ⟨rfl, hb6⟩
    have hB6 : Below w.heap.size w w6 := (hB5.alloc hB5.size _).trans (hb6.mono (by simp; have := hB5.size; omega))
    have ho6 := (ho5.below (hA5 _)).below hb6
    go_wp2_with fail
    refine (toRuleS_any a c rs w6 (hv.below hB6) hle).mono ?_
    rintro e w7 ⟨⟨g7, hg7, rfl, ho7⟩, hb7⟩
    go_wp2_with fail
    refine (eqRuleS_same (some ⟨g4, 0, none⟩) (some ⟨g7, 0, none⟩) rs.length rs.length rs w7 (ho6.below hb7) ho7 hle).mono ?_
    rintro e w8 ⟨rfl, hb8⟩
    have hB7 : Below w.heap.size w w7 := hB6.trans (hb7.mono hB6.size)
    go_wp2
    go_ret
    exact ⟨rfl, hB7.trans (hb8.mono hB7.size)⟩
end Go.Proofs.Ytkofbgdcgoajeaa

namespace Go.Proofs.Ytkofbgdcgoajeaa
open Go.ChangeShapes Go.WideShapes Go.ChangeAt Go.RowKit Go.Joins
open Go.ChangeMaps (open_string shut_string)

theorem ownC : ownKnob Try.prog.godebug = none := by kernel_rfl

set_option maxRecDepth 100000 in
theorem cr_lifted (SC : SCk) (os : Os) (started : os.Started) (H : Type) (enc : TypeId × Value → H) :
    ReturnsInHanded {} Try.checked os 7 .any (Rows.fnExactCheckRulesSpec.pre6 enc Try.prog Try.f7 Rows.fnExactCheckRulesRow.domain false) (Rows.fnExactCheckRulesSpec.post enc Try.prog Try.f7 false true false false) := by
  refine returnsInHanded_of_change (C := Try.checked) ownC started (by kernel_rfl) Try.func7
    (ChangeSpec.witness6 (enc := enc) (C := Try.checked) false ⟨#[], #[.slice none 0 0], []⟩ 8 (by kernel_rfl) (by kernel_rfl) (by kernel_rfl) (by kernel_rfl)) ?_
  intro W base args ds gs before hval0 hW hcnd _
  have hval : ∀ (j : Nat) t v, Try.f7.params[j]? = some t → args[j]? = some v → Value.okWide Try.prog W .any base t v := hval0
  have hW' := hW
  obtain ⟨p, q, hA0, hV, rfl, hfz, hnd⟩ := hW
  have hA : DataW.TrodAll enc Try.prog W 0 (fun _ => true) true Try.f7.params.toList args.toList ds p := hA0
  rw [Try.params7] at hA hval
  obtain ⟨v0, vs0, d0, ds0, p0, q0, hargs, rfl, rfl, h0, r0⟩ := trodAll_cons hA
  obtain ⟨rfl, rfl, rfl⟩ := trodAll_nil r0
  obtain rfl : args = #[v0] := by cases args; simp_all
  obtain ⟨rfl, rfl⟩ := trodVars_none hV
  have k0 := h0
  have lt0 : ∀ x ∈ p0, x.block < W.heap.size := by obtain ⟨m, hm⟩ := k0; exact DataW.trod_lt m _ _ _ hm
  obtain ⟨sa, sn, sc, rfl⟩ := okWide_slice Try.underlying50 (hval 0 50 v0 rfl rfl)
  obtain ⟨m2, hm2⟩ := h0
  obtain ⟨sa', sc', rs, e4, hsv, _, hvm, hvs⟩ := rd_Rules hm2
  simp only [Value.cells, List.cons.injEq, and_true, Value.slice.injEq] at e4
  obtain ⟨rfl, rfl, rfl⟩ := e4
  clear hA0 hval0
  refine (law_cr SC _ _ rs W hsv ⟨hvm, fun v hv => (hvs v hv).1⟩ (fun v hv => (hvs v hv).2)).mono fun e W' ⟨he, bel⟩ => ?_
  subst he
  exact ⟨_, rfl, _, _, _, [], _, [], hW', trodAll_mk1 (shut_bool Try.underlying4 _), (trodAll_cons_mk (Below.trod laidOut (by kernel_rfl) (of_decide_eq_true (by kernel_rfl)) k0 bel lt0) trodAll_mk0), rfl, bel.frame _, fun h => by cases h⟩

theorem fnExactCheckRules_of (SC : SCk) : Rows.FnExactCheckRulesSaid :=
  OpenClaim.holds_of_wide 7 Try.f7 rfl rfl rfl rfl rfl rfl rfl ⟨rfl, rfl, rfl, rfl, rfl⟩ rfl rfl rfl rfl rfl (by kernel_rfl) Try.func7 (by kernel_rfl)
    (of_decide_eq_true (by kernel_rfl)) (by unfold Func.isWrapper; first | (rw [if_pos (by decide +kernel)]; kernel_rfl) | (rw [if_neg (by decide +kernel)]; exact ⟨rfl, rfl⟩))
    (fun os started H enc _ => cr_lifted SC os started H enc)
end Go.Proofs.Ytkofbgdcgoajeaa
