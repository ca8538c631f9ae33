/-
  OUR OWN TEXT. L2c, Ao1s, one behind the other.
-/
import Derived.Test.YtmmdlgjmplddiaaGreatSc7m
import Derived.Test.YtmmdlgjmplddiaaGreatGam
import Derived.Test.YtmmdlgjmplddiaaGreatGal
namespace Go.Proofs.YtmmdlgjmplddiaaGreat
open Go.RowKit
attribute [local go_sem ↓] Go.wp_at_zero Go.wp_at_succ

theorem chkGo_zeroN : ∀ (l pre : List Ru) (k : Nat), (chkGo pre l k).1 = 0 → chkGo pre l k = (0, 0, 0)
  | [], _, _, _ => rfl
  | r :: s, pre, k, h => by
    unfold chkGo at h ⊢
    split
    · rename_i h0
      rw [if_pos h0] at h
      exact chkGo_zeroN s _ _ h
    · rename_i h0
      rw [if_neg h0] at h
      exact absurd h h0
theorem chk_zeroN {rs : List Ru} (h : (chk rs).1 = 0) : chk rs = (0, 0, 0) := by
  unfold chk at h ⊢
  split
  · rename_i h0
    rw [if_pos h0] at h
    exact chkGo_zeroN rs [] 0 h
  · rename_i h0
    rw [if_neg h0] at h
    simp at h
set_option maxHeartbeats 800000 in
theorem l2Checked_anyN (rs : List Ru) (a : Option Addr) (c : Nat) {q : Option Nat} (w : World) (hv : RusAt q w a rs) (hc : rs.length ≤ c) (hle : ListLe Ru.le 1048576 rs) (ho : ∀ x ∈ rs, OpsOk x.exprs) :
    Calls Tryz.prog 46 #[.slice a rs.length c] w fun e w' => e = .returned (.bool (decide ((chk rs).1 = 0))) ∧ Below w.heap.size w w' := by
  have HC : Hid (Calls Tryz.prog 81 #[.slice a rs.length c] w fun e w' => e = .returned (ckV (chk rs)) ∧ Below w.heap.size w w') := sCheckRules_any a c rs q w hv hc hle ho
  unfold ckV at HC
  by_cases hp : (chk rs).1 = 0
  · have hz := chk_zeroN hp
    rw [hz] at HC ⊢
    go_enter Tryz.func46, Tryz.ntmps46
    go_wp2_with (go_at_call 81; with_reducible refine HC.out.mono ?_; rintro e w1 ⟨rfl, hb1⟩)
    go_ret
    exact ⟨rfl, hb1⟩
  · generalize (chk rs).1 = p0 at HC hp ⊢
    generalize (chk rs).2.1 = p1 at HC
    generalize (chk rs).2.2 = p2 at HC
    go_enter Tryz.func46, Tryz.ntmps46
    go_wp2_with (go_at_call 81; with_reducible refine HC.out.mono ?_; rintro e w1 ⟨rfl, hb1⟩)
    go_ret
    exact ⟨ret_bool (by simp [hp]), hb1⟩
end Go.Proofs.YtmmdlgjmplddiaaGreat

namespace Go.Proofs.YtmmdlgjmplddiaaGreat
open Go.RowKit
attribute [local go_sem ↓] Go.wp_at_zero Go.wp_at_succ

set_option maxHeartbeats 1600000 in
theorem l3Earlier_any (p : Pt) (a_terms : Option Addr) (c_terms : Nat) {q : Option Nat} (i : Nat) (name : ByteArray) (w : World) (h_terms : TmsAt q w a_terms p.terms) (hi : i ≤ p.terms.length) (hl : p.terms.length ≤ 1048576) :
    Calls Tryz.prog 37 #[.agg #[.bool p.neg, .string p.cls, .slice a_terms p.terms.length c_terms], .int .i64 (i : Int), .string name] w fun e w' => e = .returned (.int .i64 (atI (earlier p.terms i name))) ∧ Below w.heap.size w w' := by
  have B0 : ∀ o, Below w.heap.size w (w.alloc o) := fun o => (Below.refl _ _).alloc (Nat.le_refl _) _
  have hlen : (p.terms.take i).length = i := by simp; omega
  go_enter Tryz.func37, Tryz.ntmps37
  go_wp2
  go_loopw [7] (fun v wr => ∃ (k : Nat), k ≤ i ∧ v = .int .i64 k ∧ earlier p.terms i name = firstVar name ((p.terms.take i).drop k) k ∧ wr.cell? ⟨w.heap.size, 2, none⟩ = some (.slice a_terms p.terms.length c_terms) ∧ Below w.heap.size w wr) (fun v _ => i - (intOf v).toNat)
  case atStart => exact ⟨0, by omega, rfl, rfl, by simp [go_sem], B0 _⟩
  case round =>
    obtain ⟨k, hk, rfl, hG, hc2, hb⟩ := hrel
    have HG := hidO hG
    clear hG
    by_cases hkl : k < i
    · obtain ⟨t, htk⟩ : ∃ t, p.terms[k]? = some t := ⟨p.terms[k]'(by omega), by simp⟩
      have htk' : (p.terms.take i)[k]? = some t := by rw [List.getElem?_take, if_pos hkl, htk]
      have HD : Hid ((p.terms.take i).drop k = t :: (p.terms.take i).drop (k + 1)) := drop_cons htk'
      obtain ⟨b, o, ea, hq, c0, c1, c2, c3, c4, c5⟩ := (h_terms.below hb).get htk
      subst ea
      have z0 : (0 : Int) ≤ (k : Int) := by omega
      have z1 : (k : Int) < (p.terms.length : Int) := by omega
      have z2 : (k : Int) < (i : Int) := by omega
      by_cases k2 : t.kind = 2
      · rw [k2] at c0
        cases hn : (t.var.toList == name.toList)
        · have HX : Hid (earlier p.terms i name = firstVar name ((p.terms.take i).drop (k + 1)) (k + 1)) := show earlier p.terms i name = _ from by rw [HG.out, HD.out, firstVar_cons]; simp [isVar, hn]
          go_wp2
          go_roundw
          case rel => exact ⟨k + 1, by omega, by go_num, HX.out, hc2, hb⟩
          case measure => simp [intOf]; omega
        · have HX : Hid (earlier p.terms i name = some k) := show earlier p.terms i name = _ from by rw [HG.out, HD.out, firstVar_cons]; simp [isVar, k2, hn]
          go_wp2
          go_ret
          exact ⟨ret_int (by rw [HX.out]; rfl), hb⟩
      · have HX : Hid (earlier p.terms i name = firstVar name ((p.terms.take i).drop (k + 1)) (k + 1)) := show earlier p.terms i name = _ from by rw [HG.out, HD.out, firstVar_cons]; simp [isVar, k2]
        go_wp2
        go_roundw
        case rel => exact ⟨k + 1, by omega, by go_num, HX.out, hc2, hb⟩
        case measure => simp [intOf]; omega
    · have z2 : ¬ (k : Int) < (i : Int) := by omega
      go_wp2
      go_ret
      exact ⟨ret_int (by rw [HG.out, List.drop_eq_nil_of_le (by omega)]; rfl), hb⟩
end Go.Proofs.YtmmdlgjmplddiaaGreat
