/-
  OUR OWN TEXT. L2c, Mm5, one behind the other.
-/
import Derived.Test.YtognpkdgphebeaaGreatJx
import Derived.Test.YtognpkdgphebeaaGreatMs1m
import Derived.Test.YtognpkdgphebeaaGreatUf
import Derived.Test.YtognpkdgphebeaaGreatUi
namespace Go.Proofs.YtognpkdgphebeaaGreat
open Go.RowKit
attribute [local go_sem ↓] Go.wp_at_zero Go.wp_at_succ

theorem chkGo_zeroN : ∀ (l pre : List Ru) (k : Nat), (chkGo pre l k).1 = 0 → chkGo pre l k = (0, 0, 0)
  | [], _, _, _ => rfl
  | r :: s, pre, k, h => by
    unfold chkGo at h ⊢
    split
    · rename_i h0
      rw [if_pos h0] at h
      exact chkGo_zeroN s _ _ h
    · rename_i h0
      rw [if_neg h0] at h
      exact absurd h h0
theorem chk_zeroN {rs : List Ru} (h : (chk rs).1 = 0) : chk rs = (0, 0, 0) := by
  unfold chk at h ⊢
  split
  · rename_i h0
    rw [if_pos h0] at h
    exact chkGo_zeroN rs [] 0 h
  · rename_i h0
    rw [if_neg h0] at h
    simp at h
set_option maxHeartbeats 800000 in
theorem l2Checked_anyN (rs : List Ru) (a : Option Addr) (c : Nat) {q : Option Nat} (w : World) (hv : RusAt q w a rs) (hc : rs.length ≤ c) (hle : ListLe Ru.le 1048576 rs) (ho : ∀ x ∈ rs, OpsOk x.exprs) :
    Calls Tryz.prog 70 #[.slice a rs.length c] w fun e w' => e = .returned (.bool (decide ((chk rs).1 = 0))) ∧ Below w.heap.size w w' := by
  have HC : Hid (Calls Tryz.prog 101 #[.slice a rs.length c] w fun e w' => e = .returned (ckV (chk rs)) ∧ Below w.heap.size w w') := sCheckRules_any a c rs q w hv hc hle ho
  unfold ckV at HC
  by_cases hp : (chk rs).1 = 0
  · have hz := chk_zeroN hp
    rw [hz] at HC ⊢
    go_enter Tryz.func70, Tryz.ntmps70
    go_wp2_with (go_at_call 101; with_reducible refine HC.out.mono ?_; rintro e w1 ⟨rfl, hb1⟩)
    go_ret
    exact ⟨rfl, hb1⟩
  · generalize (chk rs).1 = p0 at HC hp ⊢
    generalize (chk rs).2.1 = p1 at HC
    generalize (chk rs).2.2 = p2 at HC
    go_enter Tryz.func70, Tryz.ntmps70
    go_wp2_with (go_at_call 101; with_reducible refine HC.out.mono ?_; rintro e w1 ⟨rfl, hb1⟩)
    go_ret
    exact ⟨ret_bool (by simp [hp]), hb1⟩
end Go.Proofs.YtognpkdgphebeaaGreat

namespace Go.Proofs.YtognpkdgphebeaaGreat
open Go.RowKit
attribute [local go_sem ↓] Go.wp_at_zero Go.wp_at_succ

theorem allM_small (fs : List F) : ∀ (ps : List Pt) (xs : List Pm) (n t b : Nat), (∀ x ∈ xs, x.tags.length ≤ t ∧ x.binds.length ≤ b) → (∀ p ∈ ps, p.terms.length ≤ 6) → ∀ y ∈ (allM ps fs xs n).1, y.tags.length ≤ t + ps.length ∧ y.binds.length ≤ b + 6 * ps.length
  | [], xs, n, t, b, h, _, y, hy => by
    simp only [allM] at hy
    simpa using h y hy
  | p :: ps, xs, n, t, b, h, h6, y, hy => by
    simp only [allM] at hy
    have hp := h6 p List.mem_cons_self
    have := allM_small fs ps (nextM p fs xs) _ (t + 1) (b + 6) (fun x hx => by have := nextM_small h x hx; omega) (fun q hq => h6 q (List.mem_cons_of_mem _ hq)) y hy
    rw [List.length_cons]
    omega
/-- The rules are checked, the facts good. -/
def ready (rs : List Ru) (fs : List F) : Bool := decide ((chk rs).1 = 0) && gFacts fs
theorem ready_small {rs : List Ru} {fs : List F} (h : ready rs fs = true) : (chk rs).1 = 0 ∧ gFacts fs = true ∧ fs.length ≤ 40 := by
  unfold ready at h
  simp at h
  refine ⟨h.1, h.2, ?_⟩
  have h2 := h.2
  unfold gFacts at h2
  simp at h2
  exact h2.1
theorem RusAt.one {w : World} {k : Nat} {x : Ru} {a_p a_e a_a : Option Addr} {c_p c_e c_a : Nat} (h : w.heap[k]? = some (.cells #[.string x.name, .int .i64 x.sal, .slice a_p x.pats.length c_p, .slice a_e x.exprs.length c_e, .slice a_a x.acts.length c_a] 36 (0, 0))) (h_p : PtsAt none w a_p x.pats) (h_e : ExsAt none w a_e x.exprs) (h_a : AcsAt none w a_a x.acts) (hc : x.exprs.length ≤ c_e) : RusAt none w (some ⟨k, 0, none⟩) [x] := by
  intro i y hi
  rcases i with _ | i
  · simp at hi
    subst hi
    refine ⟨k, 0, _, rfl, Qb.bare _ _ _, rfl, ?_, a_p, c_p, a_e, c_e, a_a, c_a, rfl, h_p, h_e, h_a, hc⟩
    intro j v hj
    rcases j with _ | _ | _ | _ | _ | j
    all_goals simp at hj
    all_goals subst hj
    all_goals simp [World.cell?, h]
  · simp at hi
set_option maxHeartbeats 1600000 in
theorem l4Ready_any (rs : List Ru) (fs : List F) (a : Option Addr) (c : Nat) (fa : Option Addr) (fc : Nat) {q : Option Nat} (w : World) (hv : RusAt q w a rs) (hc : rs.length ≤ c) (hle : ListLe Ru.le 1048576 rs) (ho : ∀ x ∈ rs, OpsOk x.exprs) (hf : FactsAt w fa fs) (hl : fs.length ≤ 1048576) (hs : ∀ f ∈ fs, Sized f) :
    Calls Tryz.prog 40 #[.slice a rs.length c, .slice fa fs.length fc] w fun e w' => e = .returned (.bool (ready rs fs)) ∧ Below w.heap.size w w' := by
  have HC := hidM (l2Checked_anyN rs a c w hv hc hle ho)
  have HF := hidM hf
  have HS := hidM hs
  clear hf hs hle ho hv
  by_cases hck : (chk rs).1 = 0
  · have HR := hidM (show ready rs fs = gFacts fs by unfold ready; rw [decide_eq_true hck]; simp)
    rw [decide_eq_true hck] at HC
    clear hck
    go_enter Tryz.func40, Tryz.ntmps40
    go_wp2_with fail
    refine HC.out.mono ?_
    rintro e w1 ⟨rfl, hb1⟩
    have HG := hidM (l1GoodFacts_any fa fc fs w1 (HF.out.below hb1) hl HS.out)
    have B1 := hidM hb1
    clear HC hb1
    go_wp2_with fail
    refine HG.out.mono ?_
    rintro e w2 ⟨rfl, hb2⟩
    have B2 := hidM (B1.out.trans (hb2.mono B1.out.size))
    clear HG hb2
    go_wp2_with fail
    go_ret
    exact ⟨ret_bool HR.out.symm, B2.out⟩
  · have HR := hidM (show ready rs fs = false by unfold ready; rw [decide_eq_false hck]; simp)
    rw [decide_eq_false hck] at HC
    clear hck
    go_enter Tryz.func40, Tryz.ntmps40
    go_wp2_with fail
    refine HC.out.mono ?_
    rintro e w1 ⟨rfl, hb1⟩
    have B1 := hidM hb1
    clear HC hb1
    go_wp2_with fail
    go_ret
    exact ⟨ret_bool HR.out.symm, B1.out⟩
end Go.Proofs.YtognpkdgphebeaaGreat
