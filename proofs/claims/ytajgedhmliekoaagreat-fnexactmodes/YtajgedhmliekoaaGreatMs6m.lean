/-
  OUR OWN TEXT. Modes: the program's side, for all rules and ways.
-/
import Derived.Test.YtajgedhmliekoaaGreatMs5m
import Derived.Test.YtajgedhmliekoaaGreatJl
namespace Go.Proofs.YtajgedhmliekoaaGreat
open Go.RowKit
attribute [local go_sem ↓] Go.wp_at_zero Go.wp_at_succ

theorem chkGo_zeroM : ∀ (l pre : List Ru) (k : Nat), (chkGo pre l k).1 = 0 → chkGo pre l k = (0, 0, 0)
  | [], _, _, _ => rfl
  | r :: s, pre, k, h => by
    unfold chkGo at h ⊢
    split at h
    · rename_i h0
      rw [if_pos h0]
      exact chkGo_zeroM s _ _ h
    · rename_i h0
      exact absurd h h0
theorem chk_zeroM {rs : List Ru} (h : (chk rs).1 = 0) : chk rs = (0, 0, 0) := by
  unfold chk at h ⊢
  split at h
  · rename_i hl
    rw [if_pos hl]
    exact chkGo_zeroM rs [] 0 h
  · simp at h
theorem le_pats {rs : List Ru} (hle : ListLe Ru.le 1048576 rs) {x : Ru} (hx : x ∈ rs) : ListLe Pt.le maxLen x.pats := (hle.2 x hx).2.1.mono mega_le (Pt.mono mega_le)

set_option maxRecDepth 100000 in
set_option maxHeartbeats 1600000 in
theorem iModes_no (rs : List Ru) (a : Option Addr) (c : Nat) (how p0 p1 p2 : Int) (w : World) (hC : ∀ w', Below w.heap.size w w' → Calls Tryz.prog 26 #[.slice a rs.length c] w' fun e w'' => e = .returned (.agg #[.int .i64 p0, .int .i64 p1, .int .i64 p2]) ∧ Below w'.heap.size w' w'') (hno : p0 ≠ 0 ∨ (p0 = 0 ∧ how < 0) ∨ (p0 = 0 ∧ 0 ≤ how ∧ 4 ≤ how)) :
    Calls Tryz.prog 14 #[.slice a rs.length c, .int .i64 how] w fun e w' => e = .returned (.slice none 0 0) ∧ Below w.heap.size w w' := by
  have B0 : ∀ o, Below w.heap.size w (w.alloc o) := fun o => (Below.refl _ _).alloc (Nat.le_refl _) _
  have HC := hideH hC
  have hfd : ∀ w : World, (Instr.field 57 (.agg #[.int .i64 p0, .int .i64 p1, .int .i64 p2]) 0).run Tryz.prog w = .ok (.int .i64 p0) w := fun _ => by kernel_rfl
  clear hC
  rcases hno with h1 | ⟨h1, h2⟩ | ⟨h1, h2, h3⟩
  all_goals
    (try subst h1)
    go_enter Tryz.func14, Tryz.ntmps14
    go_wp2_with (first | (refine wpList_store_blk (by rfl) 68 (.tmp 5) (.tmp 9) (by rfl) w.heap.size wys (by rfl) (by rfl) _ 68 (new_blkM _ _ _ rfl) (by rfl) infoW wys_one ?_; intro w0 hb0 ht0; have hB0 : Below w.heap.size w w0 := (B0 _).trans (ht0.out.below (Nat.le_refl _))) | (go_at_call 26; refine (HC.out _ hB0).mono ?_; rintro e w1 ⟨rfl, hb1⟩) | fail)
    go_ret
    exact ⟨rfl, hB0.trans (hb1.mono hB0.size)⟩

theorem iModes_any (rs : List Ru) (a : Option Addr) (c : Nat) (how : Int) (w : World) {q : Option Nat} (hv : RusAt q w a rs) (hc : rs.length ≤ c) (hle : ListLe Ru.le 1048576 rs) (ho : ∀ x ∈ rs, OpsOk x.exprs) :
    Calls Tryz.prog 14 #[.slice a rs.length c, .int .i64 how] w fun e w' =>
      (∃ a' c', e = .returned (.slice a' (modesOf rs how).length c') ∧ w'.ownsRow w.heap.size 3 1 (.slice a' (modesOf rs how).length c') (modesOf rs how).length (icells (modesOf rs how))) ∧ Below w.heap.size w w' := by
  have hC : ∀ w', Below w.heap.size w w' → Calls Tryz.prog 26 #[.slice a rs.length c] w' fun e w'' => e = .returned (.agg #[.int .i64 (chk rs).1, .int .i64 (chk rs).2.1, .int .i64 (chk rs).2.2]) ∧ Below w'.heap.size w' w'' := fun w' h => iCheckRules_any a c rs w' (hv.below h) hc hle ho
  by_cases hy : 0 ≤ how ∧ how ≤ 3 ∧ (chk rs).1 = 0
  · obtain ⟨h0, h3, hk⟩ := hy
    rw [modesOf_yes ⟨h0, h3, hk⟩]
    rw [chk_zeroM hk] at hC
    have hl := (chk_each hk).1
    have hh : how = 0 ∨ how = 1 ∨ how = 2 ∨ how = 3 := by omega
    rcases hh with rfl | rfl | rfl | rfl
    · exact iModes_0 rs a c w hv hl hC (fun i x a1 c1 a2 c2 a3 c3 w _ _ => modes1_any i x a1 c1 a2 c2 a3 c3 w)
    · exact iModes_1 rs a c w hv hl hC (fun i x a1 c1 a2 c2 a3 c3 w _ _ => modes2_any i x a1 c1 a2 c2 a3 c3 w)
    · exact iModes_2 rs a c w hv hl hC (fun i x a1 c1 a2 c2 a3 c3 w hx hp => by
        have hm := List.mem_of_getElem? hx
        obtain ⟨k1, k2, k3⟩ := chk_small hk hm
        exact modes3_any i x a1 c1 a2 c2 a3 c3 w hp (le_pats hle hm) k1 k2 k3)
    · exact iModes_3 rs a c w hv hl hC (fun i x a1 c1 a2 c2 a3 c3 w hx _ => modes4_any i (by have := (List.getElem?_eq_some_iff.1 hx).1; omega) x a1 c1 a2 c2 a3 c3 w)
  · rw [modesOf_no hy]
    refine (iModes_no rs a c how _ _ _ w hC (by omega)).mono ?_
    rintro e w' ⟨rfl, hb⟩
    exact ⟨⟨none, 0, rfl, World.ownsRow_nil _ _ _ _⟩, hb⟩
end Go.Proofs.YtajgedhmliekoaaGreat
