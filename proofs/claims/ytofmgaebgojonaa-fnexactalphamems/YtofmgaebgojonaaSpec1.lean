/-
  OUR OWN TEXT. The model's side of Chapter 1: good values, slots, facts.
-/
import Derived.Test.YtofmgaebgojonaaSym
import Derived.Test.YtofmgaebgojonaaVal
import Derived.Deep.RegionHeld3
import Derived.Deep.DrawnRows
namespace Go.Proofs.Ytofmgaebgojonaa
open Go.RowKit
attribute [local go_sem ↓] Go.wp_at_zero Go.wp_at_succ

set_option maxHeartbeats 800000 in
theorem l1GoodVal_any (v : V) (w : World) (hs : v.sym.size ≤ maxLen) :
    Calls Try.prog 116 #[.agg #[.int .i64 v.kind, .int .i64 v.num, .string v.sym]] w fun e w' =>
      e = .returned (.bool (gVal v)) ∧ Below w.heap.size w w' := by
  have B1 : ∀ o, Below w.heap.size w (w.alloc o) := fun o => (Below.refl _ _).alloc (Nat.le_refl _) _
  obtain ⟨G⟩ : Nonempty (Hid (gVal v = ((v.kind == 0 && v.sym.toList.isEmpty) || (v.kind == 1 && (v.num == 0 && gSym v.sym.data.toList))))) := ⟨rfl⟩
  have hg := l1GoodSym_any v.sym (w.alloc (.cells #[.int .i64 v.kind, .int .i64 v.num, .string v.sym] 119)) hs
  cases h1 : (v.kind == 0) <;> cases h2 : v.sym.toList.isEmpty <;> cases h3 : (v.kind == 1) <;> cases h4 : (v.num == 0)
  all_goals
    go_enter Try.func116, Try.ntmps116
    go_wp2_with (go_at_call 69; refine hg.mono ?_; rintro e w' ⟨rfl, rfl⟩)
  all_goals try go_ret
  all_goals exact ⟨ret_bool (by rw [G.out, h1, h2, h3, h4]; simp), B1 _⟩

set_option maxHeartbeats 800000 in
theorem l1GoodSlots_any (a : Option Addr) (c : Nat) (vs : List V) (w : World) (hv : ValsAt w a vs) (hl : vs.length ≤ 1048576) (hs : ∀ v ∈ vs, v.sym.size ≤ maxLen) :
    Calls Try.prog 70 #[.slice a vs.length c] w fun e w' =>
      e = .returned (.bool (gSlots vs)) ∧ Below w.heap.size w w' := by
  obtain ⟨G⟩ : Nonempty (Hid (gSlots vs = (decide (vs.length ≤ 6) && vs.all gVal))) := ⟨rfl⟩
  by_cases h6 : 6 < vs.length
  · have h6' : (6 : Int) < (vs.length : Int) := by omega
    go_enter Try.func70, Try.ntmps70
    go_wp2
    go_ret
    exact ⟨ret_bool (by rw [G.out, decide_eq_false (by omega)]; rfl), Below.refl _ _⟩
  · have h6' : ¬ (6 : Int) < (vs.length : Int) := by omega
    go_enter Try.func70, Try.ntmps70
    go_wp2
    go_loopw [10] (fun i wr => ∃ (k : Nat), k ≤ vs.length ∧ i = .int .i64 k ∧ gSlots vs = (vs.drop k).all gVal ∧ Below w.heap.size w wr) (fun i _ => vs.length - (intOf i).toNat)
    case atStart => exact ⟨0, by omega, rfl, by rw [G.out, decide_eq_true (by omega)]; rfl, Below.refl _ _⟩
    case round =>
      obtain ⟨k, hk, rfl, hG, hb⟩ := hrel
      have HG : Hid (gSlots vs = (vs.drop k).all gVal) := hG
      clear hG
      by_cases hkl : k < vs.length
      · obtain ⟨v, hvk⟩ : ∃ v, vs[k]? = some v := ⟨vs[k], by simp [hkl]⟩
        obtain ⟨b, o, rfl, c0, c1, c2⟩ := hv.below hb k v hvk
        have hsv : v.sym.size ≤ maxLen := hs v (List.mem_of_getElem? hvk)
        have HD : Hid (vs.drop k = v :: vs.drop (k + 1)) := by
          obtain ⟨h, rfl⟩ := List.getElem?_eq_some_iff.1 hvk
          exact List.drop_eq_getElem_cons h
        have B1 : ∀ o, Below wr.heap.size wr (wr.alloc o) := fun o => (Below.refl _ _).alloc (Nat.le_refl _) _
        cases hgv : gVal v
        all_goals
          go_wp2_with (go_at_call 116; refine (l1GoodVal_any v _ hsv).mono ?_; rintro e w' ⟨rfl, hb'⟩)
        · go_ret
          exact ⟨ret_bool (by rw [HG.out, HD.out, List.all_cons, hgv]; rfl), hb.trans (((B1 _).trans (hb'.mono (by simp))).mono hb.size)⟩
        · go_roundw
          case rel => exact ⟨k + 1, by omega, by go_num, by rw [HG.out, HD.out, List.all_cons, hgv]; rfl, hb.trans (((B1 _).trans (hb'.mono (by simp))).mono hb.size)⟩
          case measure => simp [intOf]; omega
      · go_wp2
        go_ret
        exact ⟨ret_bool (by rw [HG.out, List.drop_eq_nil_of_le (by omega)]; rfl), hb⟩
end Go.Proofs.Ytofmgaebgojonaa
