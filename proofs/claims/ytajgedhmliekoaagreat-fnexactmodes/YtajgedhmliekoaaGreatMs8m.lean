/-
  OUR OWN TEXT. Modes: the model's side, for all rules and ways.
-/
import Derived.Test.YtajgedhmliekoaaGreatMs7m
import Derived.Test.YtajgedhmliekoaaGreatMs6m
namespace Go.Proofs.YtajgedhmliekoaaGreat
open Go.RowKit
attribute [local go_sem ↓] Go.wp_at_zero Go.wp_at_succ

set_option maxHeartbeats 800000 in
theorem sModes_no (rs : List Ru) (a : Option Addr) (c : Nat) (how : Int) (t : Bool) (w : World) (hC : Calls Tryz.prog 22 #[.slice a rs.length c] w fun e w'' => e = .returned (.bool t) ∧ Below w.heap.size w w'') (hno : how < 0 ∨ (0 ≤ how ∧ 3 < how) ∨ (0 ≤ how ∧ how ≤ 3 ∧ t = false)) :
    Calls Tryz.prog 13 #[.slice a rs.length c, .int .i64 how] w fun e w' => e = .returned (.slice none 0 0) ∧ Below w.heap.size w w' := by
  have HC := hideH hC
  clear hC
  rcases hno with h1 | ⟨h1, h2⟩ | ⟨h1, h2, rfl⟩
  · go_enter Tryz.func13, Tryz.ntmps13
    go_wp2
    go_ret
    exact ⟨rfl, Below.refl _ _⟩
  · go_enter Tryz.func13, Tryz.ntmps13
    go_wp2
    go_ret
    exact ⟨rfl, Below.refl _ _⟩
  · go_enter Tryz.func13, Tryz.ntmps13
    go_wp2_with (first | (go_at_call 22; refine HC.out.mono ?_; rintro e w1 ⟨rfl, hb1⟩) | fail)
    go_ret
    exact ⟨rfl, hb1⟩

theorem sModes_any (rs : List Ru) (a : Option Addr) (c : Nat) (how : Int) (w : World) {q : Option Nat} (hv : RusAt q w a rs) (hc : rs.length ≤ c) (hle : ListLe Ru.le 1048576 rs) (ho : ∀ x ∈ rs, OpsOk x.exprs) :
    Calls Tryz.prog 13 #[.slice a rs.length c, .int .i64 how] w fun e w' =>
      (∃ a' c', e = .returned (.slice a' (modesOf rs how).length c') ∧ w'.ownsRow w.heap.size 3 1 (.slice a' (modesOf rs how).length c') (modesOf rs how).length (icells (modesOf rs how))) ∧ Below w.heap.size w w' := by
  have hC : ∀ w', Below w.heap.size w w' → Calls Tryz.prog 22 #[.slice a rs.length c] w' fun e w'' => e = .returned (.bool (decide ((chk rs).1 = 0))) ∧ Below w'.heap.size w' w'' := fun w' h => l2Checked_any rs a c w' (hv.below h) hc hle ho
  by_cases hy : 0 ≤ how ∧ how ≤ 3 ∧ (chk rs).1 = 0
  · obtain ⟨h0, h3, hk⟩ := hy
    rw [modesOf_yes ⟨h0, h3, hk⟩]
    rw [decide_eq_true hk] at hC
    have hl := (chk_each hk).1
    have hh : how = 0 ∨ how = 1 ∨ how = 2 ∨ how = 3 := by omega
    rcases hh with rfl | rfl | rfl | rfl
    · exact sModes_0 rs a c w hv hl hC hk
    · exact sModes_1 rs a c w hv hl hC hk
    · exact sModes_2 rs a c w hv hl hC hk
    · exact sModes_3 rs a c w hv hl hC hk
  · rw [modesOf_no hy]
    refine (sModes_no rs a c how _ w (hC w (Below.refl _ _)) ?_).mono ?_
    · by_cases h0 : 0 ≤ how
      · by_cases h3 : how ≤ 3
        · exact .inr (.inr ⟨h0, h3, decide_eq_false (fun hk => hy ⟨h0, h3, hk⟩)⟩)
        · exact .inr (.inl ⟨h0, by omega⟩)
      · exact .inl (by omega)
    · rintro e w' ⟨rfl, hb⟩
      exact ⟨⟨none, 0, rfl, World.ownsRow_nil _ _ _ _⟩, hb⟩
end Go.Proofs.YtajgedhmliekoaaGreat
