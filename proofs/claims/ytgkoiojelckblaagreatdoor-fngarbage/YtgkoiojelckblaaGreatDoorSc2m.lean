/-
  OUR OWN TEXT. The model's side of the checker: a list that holds a string; what an expr covers; how many patterns are positive.
-/
import Derived.Test.YtgkoiojelckblaaGreatDoorKag
import Derived.Test.YtgkoiojelckblaaGreatDoorKah
namespace Go.Proofs.YtgkoiojelckblaaGreatDoor
open Go.RowKit
attribute [local go_sem ↓] Go.wp_at_zero Go.wp_at_succ

/-- Strings that lie in memory. -/
def strR (_ : World) (r : List Value) (x : ByteArray) : Prop := r = [.string x]
theorem strR_any {w w' : World} {r : List Value} {x : ByteArray} (h : strR w r x) : strR w' r x := h
abbrev StrsAt (q : Option Nat) (w : World) (a : Option Addr) (xs : List ByteArray) : Prop := RowsAt strR q 9 1 w a xs
theorem StrsAt.below {q : Option Nat} {w w' : World} {a : Option Addr} {xs : List ByteArray} (h : StrsAt q w a xs) (hb : Below w.heap.size w w') : StrsAt q w' a xs := RowsAt.below h (fun _ _ _ h => strR_any h) hb
theorem StrsAt.get {q : Option Nat} {w : World} {a : Option Addr} {xs : List ByteArray} {i : Nat} {x : ByteArray} (h : StrsAt q w a xs) (hi : xs[i]? = some x) : ∃ b o, a = some ⟨b, o, none⟩ ∧ Qb q w 9 b ∧ w.cell? ⟨b, o + i, none⟩ = some (.string x) := by
  obtain ⟨b, o, r, h1, h2, h3, h4, h5⟩ := h i x hi
  unfold strR at h5
  subst h5
  exact ⟨b, o, h1, h2, by simpa using h4 0 _ rfl⟩

set_option maxHeartbeats 800000 in
theorem l2Is_any (s : ByteArray) (a : Option Addr) (c : Nat) (xs : List ByteArray) (w : World) {q : Option Nat} (hv : StrsAt q w a xs) (hl : xs.length ≤ 1048576) :
    Calls Tryz.prog 98 #[.string s, .slice a xs.length c] w fun e w' => e = .returned (.bool (memB s xs)) ∧ w' = w := by
  go_enter Tryz.func98, Tryz.ntmps98
  go_wp2
  go_loopw [9] (fun i wr => ∃ (k : Nat), k ≤ xs.length ∧ i = .int .i64 k ∧ memB s xs = memB s (xs.drop k) ∧ wr = w) (fun i _ => xs.length - (intOf i).toNat)
  case atStart => exact ⟨0, by omega, rfl, rfl, rfl⟩
  case round =>
    obtain ⟨k, hk, rfl, hG, hb⟩ := hrel
    subst hb
    have HG : Hid (memB s xs = memB s (xs.drop k)) := hG
    clear hG
    by_cases hkl : k < xs.length
    · obtain ⟨x, hxk⟩ : ∃ x, xs[k]? = some x := ⟨xs[k], by simp [hkl]⟩
      obtain ⟨b, o, rfl, hq, c0⟩ := hv.get hxk
      have HD : Hid (xs.drop k = x :: xs.drop (k + 1)) := drop_cons hxk
      cases e1 : (s.toList == x.toList)
      all_goals go_wp2
      · go_roundw
        case rel =>
          refine ⟨k + 1, by omega, by go_num, ?_, (by first | rfl | trivial)⟩
          rw [bytes_beq] at e1
          have : x ≠ s := fun h => by subst h; simp at e1
          rw [HG.out, HD.out]
          simp [memB, this]
        case measure => simp [intOf]; omega
      · go_ret
        rw [bytes_beq] at e1
        have e2 : s = x := by simpa using e1
        exact ⟨ret_bool (by rw [HG.out, HD.out]; simp [memB, e2]), rfl⟩
    · go_wp2
      go_ret
      exact ⟨ret_bool (by rw [HG.out, List.drop_eq_nil_of_le (by omega)]; rfl), rfl⟩

set_option maxHeartbeats 800000 in
theorem l2First_any (a : Option Addr) (c : Nat) (es : List Ex) (S : List Sp) (x : Nat) (s : Sp) (w : World) {q : Option Nat} (hv : ExsAt q w a es) (hS : Spans es S) (hx : S[x]? = some s) :
    Calls Tryz.prog 99 #[.slice a es.length c, .int .i64 (x : Int)] w fun e w' => e = .returned (.int .i64 (s.1 : Int)) ∧ w' = w := by
  have hSl := hS.1
  go_enter Tryz.func99, Tryz.ntmps99
  go_wp2
  go_loopw [1] (fun i wr => ∃ (k : Nat) (t : Sp), i = .int .i64 k ∧ S[k]? = some t ∧ t.1 = s.1 ∧ wr = w) (fun i _ => (intOf i).toNat)
  case atStart => exact ⟨x, s, rfl, hx, rfl, rfl⟩
  case round =>
    obtain ⟨k, t, rfl, hk, ht, hb⟩ := hrel
    subst hb
    have hkS : k < S.length := (List.getElem?_eq_some_iff.1 hk).1
    obtain ⟨e, hek⟩ : ∃ e, es[k]? = some e := ⟨es[k]'(by omega), by simp⟩
    have hkl : k < es.length := by omega
    obtain ⟨b, o, rfl, hq, c0, c1, c2, c3, c4, c5, c6, c7⟩ := hv.get hek
    by_cases hk2 : e.kind = 2
    · obtain ⟨ea, eb, sa, sb, e1, e2, h1, h2, h3, h4, h5⟩ := hS.op hk hek hk2
      rw [e1] at c6
      go_wp2
      go_roundw
      case rel => exact ⟨ea, sa, rfl, h3, (by rw [← ht, h5]), (by first | rfl | trivial)⟩
      case measure => simp [intOf]; omega
    · have h5 := hS.leaf hk hek hk2
      go_wp2
      go_ret
      refine ⟨?_, rfl⟩
      rw [← ht, h5]
      rfl

set_option maxHeartbeats 800000 in
theorem l2Depth_op (a : Option Addr) (c : Nat) (es : List Ex) {q : Option Nat} (x ea eb da db : Nat) (e : Ex) (w : World) (hv : ExsAt q w a es) (hek : es[x]? = some e) (hk2 : e.kind = 2) (e1 : e.a = (ea : Int)) (e2 : e.b = (eb : Int)) (d1 : da ≤ 20) (d2 : db ≤ 20)
    (I1 : Calls Tryz.prog 155 #[.slice a es.length c, .int .i64 (ea : Int)] w fun e w' => e = .returned (.int .i64 (da : Int)) ∧ w' = w)
    (I2 : Calls Tryz.prog 155 #[.slice a es.length c, .int .i64 (eb : Int)] w fun e w' => e = .returned (.int .i64 (db : Int)) ∧ w' = w) :
    Calls Tryz.prog 155 #[.slice a es.length c, .int .i64 (x : Int)] w fun e w' => e = .returned (.int .i64 ((1 + max da db : Nat) : Int)) ∧ w' = w := by
  have hkl : x < es.length := (List.getElem?_eq_some_iff.1 hek).1
  obtain ⟨b, o, rfl, hq, c0, c1, c2, c3, c4, c5, c6, c7⟩ := hv.get hek
  rw [e1] at c6
  rw [e2] at c7
  have tok : True := trivial
  clear hq c1 c2 c3 c4 c5 hv e1 e2 hek
  by_cases hlt : (da : Int) < (db : Int)
  all_goals
    go_enter Tryz.func155, Tryz.ntmps155
    go_wp2_with (first | (go_at_call 155; have _t := tok; refine I1.mono ?_; rintro e' w1 ⟨rfl, hb1⟩; subst hb1; clear tok) | (go_at_call 155; refine I2.mono ?_; rintro e'' w2 ⟨rfl, hb2⟩; subst hb2))
    go_ret
    refine ⟨ret_int ?_, rfl⟩
    omega

set_option maxHeartbeats 800000 in
theorem l2Depth_any (a : Option Addr) (c : Nat) (es : List Ex) (S : List Sp) {q : Option Nat} (w : World) (hv : ExsAt q w a es) (hS : Spans es S) : ∀ (x : Nat) (s : Sp), S[x]? = some s →
    Calls Tryz.prog 155 #[.slice a es.length c, .int .i64 (x : Int)] w fun e w' => e = .returned (.int .i64 (s.2 : Int)) ∧ w' = w := by
  have hSl := hS.1
  intro x
  induction x using Nat.strongRecOn with
  | _ x ih =>
    intro s hk
    have hkS : x < S.length := (List.getElem?_eq_some_iff.1 hk).1
    obtain ⟨e, hek⟩ : ∃ e, es[x]? = some e := ⟨es[x]'(by omega), by simp⟩
    have hkl : x < es.length := by omega
    by_cases hk2 : e.kind = 2
    · obtain ⟨ea, eb, sa, sb, e1, e2, h1, h2, h3, h4, h5⟩ := hS.op hk hek hk2
      have := l2Depth_op a c es x ea eb sa.2 sb.2 e w hv hek hk2 e1 e2 (hS.depth_le ea sa h3) (hS.depth_le eb sb h4) (ih ea (by omega) sa h3) (ih eb (by omega) sb h4)
      rw [h5]
      exact this
    · have h5 := hS.leaf hk hek hk2
      obtain ⟨b, o, rfl, hq, c0, c1, c2, c3, c4, c5, c6, c7⟩ := hv.get hek
      go_enter Tryz.func155, Tryz.ntmps155
      go_wp2
      go_ret
      exact ⟨by rw [h5]; rfl, rfl⟩

set_option maxHeartbeats 800000 in
theorem l2Positive_any (x : Ru) (a_pats : Option Addr) (c_pats : Nat) (a_exprs : Option Addr) (c_exprs : Nat) (a_acts : Option Addr) (c_acts : Nat) {q : Option Nat} (w : World) (h_pats : PtsAt q w a_pats x.pats) (hl : x.pats.length ≤ 1048576) :
    Calls Tryz.prog 53 #[.agg #[.string x.name, .int .i64 x.sal, .slice a_pats x.pats.length c_pats, .slice a_exprs x.exprs.length c_exprs, .slice a_acts x.acts.length c_acts]] w fun e w' =>
      e = .returned (.int .i64 (positives x.pats : Int)) ∧ Below w.heap.size w w' := by
  go_enter Tryz.func53, Tryz.ntmps53
  go_wp2
  go_loopw [3, 9] (fun l i wr => ∃ (k : Nat), k ≤ x.pats.length ∧ i = .int .i64 k ∧ l = .int .i64 (positives (x.pats.take k) : Int) ∧ Below w.heap.size w wr) (fun _ i _ => x.pats.length - (intOf i).toNat)
  case atStart => exact ⟨0, by omega, rfl, by simp [positives], (Below.refl _ _).alloc (Nat.le_refl _) _⟩
  case round =>
    obtain ⟨k, hk, rfl, rfl, hb⟩ := hrel
    have hp : positives (x.pats.take k) ≤ x.pats.length := Nat.le_trans List.countP_le_length (by simp; omega)
    by_cases hkl : k < x.pats.length
    · obtain ⟨p, hpk⟩ : ∃ p, x.pats[k]? = some p := ⟨x.pats[k], by simp [hkl]⟩
      obtain ⟨b, o, a_terms, c_terms, rfl, hq, c0, c1, c2, h_terms⟩ := (h_pats.below hb).get hpk
      have HT : Hid (x.pats.take (k + 1) = x.pats.take k ++ [p]) := take_succ' _ _ _ hpk
      have B1 : ∀ o, Below w.heap.size w (wr.alloc o) := fun o => hb.alloc hb.size _
      cases hn : p.neg
      all_goals
        rw [hn] at c0
        go_wp2
        go_roundw
        case rel => exact ⟨k + 1, by omega, by go_num, by rw [HT.out]; simp [positives, pos1, hn], B1 _⟩
        case measure => simp [intOf]; omega
    · go_wp2
      go_ret
      rw [List.take_of_length_le (by omega)]
      exact ⟨rfl, hb⟩
end Go.Proofs.YtgkoiojelckblaaGreatDoor
