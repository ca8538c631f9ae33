/-
  OUR OWN TEXT. Before: the model's side.
-/
import Derived.Test.YtajgedhmliekoaaGreatJg
import Derived.Test.YtajgedhmliekoaaGreatRc2m
import Derived.Test.YtajgedhmliekoaaGreatSc7m
import Derived.Test.YtajgedhmliekoaaGreatJl
import Derived.BigQuiet
namespace Go.Proofs.YtajgedhmliekoaaGreat
open Go.RowKit
attribute [local go_sem ↓] Go.wp_at_zero Go.wp_at_succ

theorem hidS {p : Prop} (h : p) : Hid p := h
theorem retIs {a b : Int} (h : b = a) : Ending.returned (.int .i64 a) = .returned (.int .i64 b) := by rw [h]
theorem lexT_drop {xs ys : List Int} {k : Nat} {x y : Int} (hx : xs[k]? = some x) (hy : ys[k]? = some y) : lexT (xs.drop k) (ys.drop k) = if x < y then -1 else if y < x then 1 else lexT (xs.drop (k + 1)) (ys.drop (k + 1)) := by
  rw [drop_cons hx, drop_cons hy, lexT]
theorem lexT_end {xs ys : List Int} {k : Nat} (hx : k ≤ xs.length) (hy : k ≤ ys.length) (h : k = xs.length ∨ k = ys.length) : lexT (xs.drop k) (ys.drop k) = (xs.length : Int) - (ys.length : Int) := by
  rcases h with h | h
  · rw [(List.drop_eq_nil_of_le (by omega) : xs.drop k = []), lexT, List.length_drop]
    omega
  · rw [(List.drop_eq_nil_of_le (by omega) : ys.drop k = [])]
    cases hd : xs.drop k with
    | nil =>
      have : xs.length - k = 0 := by rw [← List.length_drop, hd]; rfl
      simp [lexT]
      omega
    | cons z r =>
      have : (z :: r).length = xs.length - k := by rw [← hd, List.length_drop]
      rw [lexT, this]
      omega

set_option maxHeartbeats 1600000 in
theorem l5Tags_any (a a' : Option Addr) (c c' : Nat) (xs ys : List Int) (w : World) {q q' : Option Nat} (hv : IntsAt q w a xs) (hv' : IntsAt q' w a' ys) (hl : xs.length ≤ 1048576) (hl' : ys.length ≤ 1048576) :
    Calls Tryz.prog 47 #[.slice a xs.length c, .slice a' ys.length c'] w fun e w' => e = .returned (.int .i64 (lexT xs ys)) ∧ Below w.heap.size w w' := by
  go_enter Tryz.func47, Tryz.ntmps47
  go_wp2
  go_loopw [5] (fun i wr => ∃ (k : Nat), k ≤ xs.length ∧ k ≤ ys.length ∧ i = .int .i64 k ∧ lexT xs ys = lexT (xs.drop k) (ys.drop k) ∧ Below w.heap.size w wr) (fun i _ => xs.length - (intOf i).toNat)
  case atStart => exact ⟨0, by omega, by omega, rfl, rfl, Below.refl _ _⟩
  case round =>
    obtain ⟨k, hk, hk', rfl, hG, hb⟩ := hrel
    have HG := hidS hG
    clear hG
    by_cases hkl : k < xs.length
    · obtain ⟨x, hxk⟩ : ∃ x, xs[k]? = some x := ⟨xs[k], by simp [hkl]⟩
      obtain ⟨b, o, rfl, hq, d0⟩ := (hv.below hb).get hxk
      by_cases hkl' : k < ys.length
      · obtain ⟨y, hyk⟩ : ∃ y, ys[k]? = some y := ⟨ys[k], by simp [hkl']⟩
        obtain ⟨b', o', rfl, hq', d1⟩ := (hv'.below hb).get hyk
        have HL := hidS (lexT_drop hxk hyk)
        have z0 : (k : Int) < (xs.length : Int) := by omega
        have z1 : (k : Int) < (ys.length : Int) := by omega
        by_cases h1 : x < y
        · have HE := hidS (show lexT xs ys = -1 from by rw [HG.out, HL.out, if_pos h1])
          go_wp2
          go_region
          go_wp2
          go_ret
          exact ⟨retIs HE.out, hb.drew⟩
        · by_cases h2 : y < x
          · have HE := hidS (show lexT xs ys = 1 from by rw [HG.out, HL.out, if_neg h1, if_pos h2])
            go_wp2
            go_region
            go_wp2
            go_region
            go_wp2
            go_ret
            exact ⟨retIs HE.out, hb.drew.drew⟩
          · have HE := hidS (show lexT xs ys = lexT (xs.drop (k + 1)) (ys.drop (k + 1)) from by rw [HG.out, HL.out, if_neg h1, if_neg h2])
            go_wp2
            go_region
            go_wp2
            go_region
            go_wp2
            go_roundw
            case rel => exact ⟨k + 1, by omega, by omega, by go_num, HE.out, hb.drew.drew⟩
            case measure => simp [intOf]; omega
      · have HE := hidS (lexT_end hk hk' (.inr (by omega)))
        have z1 : ¬ (k : Int) < (ys.length : Int) := by omega
        have hw : IntKind.i64.wrap ((xs.length : Int) - (ys.length : Int)) = (xs.length : Int) - (ys.length : Int) := by rw [IntKind.wrap_i64]; omega
        go_wp2
        go_ret
        exact ⟨retIs (by rw [HG.out, HE.out]), hb⟩
    · have HE := hidS (lexT_end hk hk' (.inl (by omega)))
      have z1 : ¬ (k : Int) < (xs.length : Int) := by omega
      have hw : IntKind.i64.wrap ((xs.length : Int) - (ys.length : Int)) = (xs.length : Int) - (ys.length : Int) := by rw [IntKind.wrap_i64]; omega
      go_wp2
      go_ret
      exact ⟨retIs (by rw [HG.out, HE.out]), hb⟩

set_option maxHeartbeats 800000 in
theorem l5There_any (rs : List Ru) (a : Option Addr) (c : Nat) (x : In) (at' : Option Addr) (ct : Nat) (w : World) (hl : rs.length ≤ 1048576) (ht : x.tags.length ≤ 1048576) :
    Calls Tryz.prog 21 #[.slice a rs.length c, .agg #[.int .i64 x.rule, .slice at' x.tags.length ct]] w fun e w' => e = .returned (.bool (placedI rs x)) ∧ Below w.heap.size w w' := by
  have HP : Hid (placedI rs x = (decide (0 ≤ x.rule) && (decide (x.rule < (rs.length : Int)) && decide (x.tags.length ≤ 3)))) := rfl
  have B0 : ∀ o, Below w.heap.size w (w.alloc o) := fun o => (Below.refl _ _).alloc (Nat.le_refl _) _
  by_cases h1 : 0 ≤ x.rule <;> by_cases h2 : x.rule < (rs.length : Int) <;> by_cases h3 : x.tags.length ≤ 3
  all_goals
    first
    | (exfalso; omega; done)
    | (go_enter Tryz.func21, Tryz.ntmps21
       go_wp2
       go_ret
       exact ⟨ret_bool (by rw [HP.out]; first | (simp [h1, h2, h3]; done) | (simp [h1, h2, h3]; omega)), B0 _⟩)

set_option maxHeartbeats 800000 in
theorem l2Checked_any (rs : List Ru) (a : Option Addr) (c : Nat) {q : Option Nat} (w : World) (hv : RusAt q w a rs) (hc : rs.length ≤ c) (hle : ListLe Ru.le 1048576 rs) (ho : ∀ x ∈ rs, OpsOk x.exprs) :
    Calls Tryz.prog 22 #[.slice a rs.length c] w fun e w' => e = .returned (.bool (decide ((chk rs).1 = 0))) ∧ Below w.heap.size w w' := by
  have HC := hidS (sCheckRules_any a c rs q w hv hc hle ho)
  unfold ckV at HC
  by_cases hp : (chk rs).1 = 0
  · have hz := chk_zero hp
    rw [hz] at HC ⊢
    go_enter Tryz.func22, Tryz.ntmps22
    go_wp2_with (go_at_call 46; with_reducible refine HC.out.mono ?_; rintro e w1 ⟨rfl, hb1⟩)
    go_ret
    exact ⟨rfl, hb1⟩
  · generalize (chk rs).1 = p0 at HC hp ⊢
    generalize (chk rs).2.1 = p1 at HC
    generalize (chk rs).2.2 = p2 at HC
    go_enter Tryz.func22, Tryz.ntmps22
    go_wp2_with (go_at_call 46; with_reducible refine HC.out.mono ?_; rintro e w1 ⟨rfl, hb1⟩)
    go_ret
    exact ⟨ret_bool (by simp [hp]), hb1⟩
end Go.Proofs.YtajgedhmliekoaaGreat
