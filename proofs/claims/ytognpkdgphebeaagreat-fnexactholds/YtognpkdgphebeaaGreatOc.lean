/-
  OUR OWN TEXT. Ic5, Bx, one behind the other.
-/
import Derived.Test.YtognpkdgphebeaaGreatJd
import Derived.Test.YtognpkdgphebeaaGreatJb
namespace Go.Proofs.YtognpkdgphebeaaGreat
open Go.RowKit
attribute [local go_sem ↓] Go.wp_at_zero Go.wp_at_succ

set_option maxHeartbeats 800000 in
theorem positives_any (x : Ru) (a_pats : Option Addr) (c_pats : Nat) (a_exprs : Option Addr) (c_exprs : Nat) (a_acts : Option Addr) (c_acts : Nat) {q : Option Nat} (w : World) (h_pats : PtsAt q w a_pats x.pats) (hl : x.pats.length ≤ 1048576) :
    Calls Tryz.prog 77 #[.agg #[.string x.name, .int .i64 x.sal, .slice a_pats x.pats.length c_pats, .slice a_exprs x.exprs.length c_exprs, .slice a_acts x.acts.length c_acts]] w fun e w' =>
      e = .returned (.int .i64 (positives x.pats : Int)) ∧ Below w.heap.size w w' := by
  go_enter Tryz.func77, Tryz.ntmps77
  go_wp2
  go_loopw [3, 9] (fun l i wr => ∃ (k : Nat), k ≤ x.pats.length ∧ i = .int .i64 k ∧ l = .int .i64 (positives (x.pats.take k) : Int) ∧ Below w.heap.size w wr) (fun _ i _ => x.pats.length - (intOf i).toNat)
  case atStart => exact ⟨0, by omega, rfl, by simp [positives], (Below.refl _ _).alloc (Nat.le_refl _) _⟩
  case round =>
    obtain ⟨k, hk, rfl, rfl, hb⟩ := hrel
    have hp : positives (x.pats.take k) ≤ x.pats.length := Nat.le_trans List.countP_le_length (by simp; omega)
    by_cases hkl : k < x.pats.length
    · obtain ⟨p, hpk⟩ : ∃ p, x.pats[k]? = some p := ⟨x.pats[k], by simp [hkl]⟩
      obtain ⟨b, o, a_terms, c_terms, rfl, hq, c0, c1, c2, h_terms⟩ := (h_pats.below hb).get hpk
      have HT : Hid (x.pats.take (k + 1) = x.pats.take k ++ [p]) := take_succ' _ _ _ hpk
      have B1 : ∀ o, Below w.heap.size w (wr.alloc o) := fun o => hb.alloc hb.size _
      cases hn : p.neg
      all_goals
        rw [hn] at c0
        go_wp2
        go_roundw
        case rel => exact ⟨k + 1, by omega, by go_num, by rw [HT.out]; simp [positives, pos1, hn], B1 _⟩
        case measure => simp [intOf]; omega
    · go_wp2
      go_ret
      rw [List.take_of_length_le (by omega)]
      exact ⟨rfl, hb⟩

theorem firstBad_cons {α : Type} (f : α → Bool) (x : α) (r : List α) (k : Nat) : firstBad f (x :: r) k = if f x then firstBad f r (k + 1) else some k := rfl
/-- An item, 0 for none. -/
def item0 : Option Nat → Int
  | none => 0
  | some i => (i : Int)

set_option maxHeartbeats 800000 in
theorem wrongRef_any (x : Ru) (a_pats : Option Addr) (c_pats : Nat) (a_exprs : Option Addr) (c_exprs : Nat) (a_acts : Option Addr) (c_acts : Nat) {q : Option Nat} (w : World) (h_pats : PtsAt q w a_pats x.pats) (h_acts : AcsAt q w a_acts x.acts) (hl : x.pats.length ≤ 1048576) (hla : x.acts.length ≤ 1048576) :
    Calls Tryz.prog 129 #[.agg #[.string x.name, .int .i64 x.sal, .slice a_pats x.pats.length c_pats, .slice a_exprs x.exprs.length c_exprs, .slice a_acts x.acts.length c_acts]] w fun e w' =>
      e = .returned (.int .i64 (item0 (refs x))) ∧ Below w.heap.size w w' := by
  have B0 : ∀ o, Below w.heap.size w (w.alloc o) := fun o => (Below.refl _ _).alloc (Nat.le_refl _) _
  have hpos : positives x.pats ≤ x.pats.length := List.countP_le_length
  go_enter Tryz.func129, Tryz.ntmps129
  go_wp2_with (go_at_call 77; refine (positives_any x a_pats c_pats a_exprs c_exprs a_acts c_acts _ (h_pats.below (B0 _)) hl).mono ?_; rintro e w1 ⟨rfl, hb1⟩; have q2 : w1.cell? ⟨w.heap.size, 2, none⟩ = some (.slice a_pats x.pats.length c_pats) := cell_below hb1 (by simp [go_sem]); have q4 : w1.cell? ⟨w.heap.size, 4, none⟩ = some (.slice a_acts x.acts.length c_acts) := cell_below hb1 (by simp [go_sem]))
  have hB1 : Below w.heap.size w w1 := (B0 _).trans (hb1.mono (by simp))
  have hs1 : w.heap.size < w1.heap.size := by have := hb1.size; simp at this; omega
  clear hb1 q4
  go_loopw [12] (fun i wr => ∃ (k : Nat), k ≤ x.acts.length ∧ i = .int .i64 k ∧ refs x = firstBad (refOk (positives x.pats)) (x.acts.drop k) (x.pats.length + 1 + k) ∧ wr.cell? ⟨w.heap.size, 2, none⟩ = some (.slice a_pats x.pats.length c_pats) ∧ w.heap.size < wr.heap.size ∧ Below w.heap.size w wr) (fun i _ => x.acts.length - (intOf i).toNat)
  case atStart => exact ⟨0, by omega, rfl, rfl, q2, hs1, hB1⟩
  case round =>
    obtain ⟨k, hk, rfl, hG, hq2, hws, hb⟩ := hrel
    have HG : Hid (refs x = firstBad (refOk (positives x.pats)) (x.acts.drop k) (x.pats.length + 1 + k)) := hG
    clear hG
    by_cases hkl : k < x.acts.length
    · obtain ⟨y, hyk⟩ : ∃ y, x.acts[k]? = some y := ⟨x.acts[k], by simp [hkl]⟩
      obtain ⟨b, o, a_args, c_args, rfl, hq, c0, c1, c2, c3, h_args⟩ := (h_acts.below hb).get hyk
      have HD : Hid (x.acts.drop k = y :: x.acts.drop (k + 1)) := drop_cons hyk
      have B1 : ∀ o, Below w.heap.size w (wr.alloc o) := fun o => hb.alloc hb.size _
      have hqA : ∀ o, (wr.alloc o).cell? ⟨w.heap.size, 2, none⟩ = some (.slice a_pats x.pats.length c_pats) := fun o => by
        have : Below wr.heap.size wr (wr.alloc o) := (Below.refl _ _).alloc (Nat.le_refl _) _
        exact cell_below this hq2
      have hwA : ∀ o, w.heap.size < (wr.alloc o).heap.size := fun o => by simp; omega
      have good : refOk (positives x.pats) y = true → refs x = firstBad (refOk (positives x.pats)) (x.acts.drop (k + 1)) (x.pats.length + 1 + (k + 1)) := fun h => by
        rw [HG.out, HD.out, firstBad_cons, h]
        rfl
      have bad : refOk (positives x.pats) y = false → refs x = some (x.pats.length + 1 + k) := fun h => by
        rw [HG.out, HD.out, firstBad_cons, h]
        rfl
      obtain ⟨GD⟩ : Nonempty (Hid ((refOk (positives x.pats) y = true → refs x = firstBad (refOk (positives x.pats)) (x.acts.drop (k + 1)) (x.pats.length + 1 + (k + 1))) ∧ (refOk (positives x.pats) y = false → refs x = some (x.pats.length + 1 + k)))) := ⟨⟨good, bad⟩⟩
      clear good bad
      by_cases k23 : y.kind = 2 ∨ y.kind = 3
      · by_cases r0 : y.k < 1
        · have HB : Hid (refs x = some (x.pats.length + 1 + k)) := GD.out.2 (by
            rcases k23 with h | h <;> simp [refOk, h] <;> omega)
          rcases k23 with h | h
          all_goals
            go_wp2
            go_ret
            exact ⟨ret_int (by rw [HB.out]; simp [item0]; omega), B1 _⟩
        · by_cases r1 : (positives x.pats : Int) < y.k
          · have HB : Hid (refs x = some (x.pats.length + 1 + k)) := GD.out.2 (by
              rcases k23 with h | h <;> simp [refOk, h] <;> omega)
            rcases k23 with h | h
            all_goals
              go_wp2
              go_ret
              exact ⟨ret_int (by rw [HB.out]; simp [item0]; omega), B1 _⟩
          · have HB : Hid (refs x = firstBad (refOk (positives x.pats)) (x.acts.drop (k + 1)) (x.pats.length + 1 + (k + 1))) := GD.out.1 (by
              rcases k23 with h | h <;> simp [refOk, h] <;> omega)
            rcases k23 with h | h
            all_goals
              go_wp2
              go_roundw
              case rel => exact ⟨k + 1, by omega, by go_num, HB.out, hqA _, hwA _, B1 _⟩
              case measure => simp [intOf]; omega
      · have h2 : (y.kind == 2) = false := by simp; omega
        have h3 : (y.kind == 3) = false := by simp; omega
        have HB : Hid (refs x = firstBad (refOk (positives x.pats)) (x.acts.drop (k + 1)) (x.pats.length + 1 + (k + 1))) := GD.out.1 (by simp [refOk, h2, h3])
        go_wp2
        go_roundw
        case rel => exact ⟨k + 1, by omega, by go_num, HB.out, hqA _, hwA _, B1 _⟩
        case measure => simp [intOf]; omega
    · go_wp2
      go_ret
      exact ⟨ret_int (by rw [HG.out, List.drop_eq_nil_of_le (by omega)]; rfl), hb⟩
end Go.Proofs.YtognpkdgphebeaaGreat

namespace Go.Proofs.YtognpkdgphebeaaGreat
open Go.RowKit

theorem ListLe.mono {α : Type} {le : Nat → α → Prop} {N M : Nat} (h : N ≤ M) (hm : ∀ x, le N x → le M x) {xs : List α} (hx : ListLe le N xs) : ListLe le M xs := ⟨Nat.le_trans hx.1 h, fun x hm' => hm x (hx.2 x hm')⟩
theorem Tm.mono {N M : Nat} (h : N ≤ M) (x : Tm) (hx : x.le N) : x.le M := ⟨Nat.le_trans hx.1 h, Nat.le_trans hx.2 h⟩
theorem Ex.mono {N M : Nat} (h : N ≤ M) (x : Ex) (hx : x.le N) : x.le M := ⟨Nat.le_trans hx.1 h, Nat.le_trans hx.2 h⟩
theorem mega_le : 1048576 ≤ maxLen := by unfold maxLen; omega

/-- A rule lies in box b. -/
def RuBox (w : World) (b : Nat) (x : Ru) (a_pats : Option Addr) (c_pats : Nat) (a_exprs : Option Addr) (c_exprs : Nat) (a_acts : Option Addr) (c_acts : Nat) : Prop :=
  w.cell? ⟨b, 0, none⟩ = some (.string x.name) ∧ w.cell? ⟨b, 1, none⟩ = some (.int .i64 x.sal) ∧ w.cell? ⟨b, 2, none⟩ = some (.slice a_pats x.pats.length c_pats) ∧ w.cell? ⟨b, 3, none⟩ = some (.slice a_exprs x.exprs.length c_exprs) ∧ w.cell? ⟨b, 4, none⟩ = some (.slice a_acts x.acts.length c_acts)
theorem RuBox.below {w w' : World} {b : Nat} {x : Ru} {a_pats : Option Addr} {c_pats : Nat} {a_exprs : Option Addr} {c_exprs : Nat} {a_acts : Option Addr} {c_acts : Nat} (h : RuBox w b x a_pats c_pats a_exprs c_exprs a_acts c_acts) (hb : Below w.heap.size w w') : RuBox w' b x a_pats c_pats a_exprs c_exprs a_acts c_acts :=
  ⟨cell_below hb h.1, cell_below hb h.2.1, cell_below hb h.2.2.1, cell_below hb h.2.2.2.1, cell_below hb h.2.2.2.2⟩
theorem RuBox.made (w : World) (t : TypeId) (x : Ru) (a_pats : Option Addr) (c_pats : Nat) (a_exprs : Option Addr) (c_exprs : Nat) (a_acts : Option Addr) (c_acts : Nat) : RuBox (w.alloc (.cells #[.string x.name, .int .i64 x.sal, .slice a_pats x.pats.length c_pats, .slice a_exprs x.exprs.length c_exprs, .slice a_acts x.acts.length c_acts] t)) w.heap.size x a_pats c_pats a_exprs c_exprs a_acts c_acts := by
  refine ⟨?_, ?_, ?_, ?_, ?_⟩ <;> simp [go_sem]
end Go.Proofs.YtognpkdgphebeaaGreat
