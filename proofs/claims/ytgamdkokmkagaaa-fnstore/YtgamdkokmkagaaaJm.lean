/-
  OUR OWN TEXT. Spec1, Spec2, Spec3, one behind the other.
-/
import Derived.Test.YtgamdkokmkagaaaJe
import Derived.Test.YtgamdkokmkagaaaJa
import Derived.Deep.RegionHeld3
import Derived.Deep.DrawnRows
namespace Go.Proofs.Ytgamdkokmkagaaa
open Go.RowKit
attribute [local go_sem ↓] Go.wp_at_zero Go.wp_at_succ

set_option maxHeartbeats 800000 in
theorem l1GoodSlots_any (a : Option Addr) (c : Nat) (vs : List V) (w : World) (hv : ValsAt w a vs) (hl : vs.length ≤ 1048576) (hs : ∀ v ∈ vs, v.sym.size ≤ maxLen) :
    Calls Try.prog 71 #[.slice a vs.length c] w fun e w' =>
      e = .returned (.bool (gSlots vs)) ∧ Below w.heap.size w w' := by
  obtain ⟨G⟩ : Nonempty (Hid (gSlots vs = (decide (vs.length ≤ 6) && vs.all gVal))) := ⟨rfl⟩
  by_cases h6 : 6 < vs.length
  · have h6' : (6 : Int) < (vs.length : Int) := by omega
    go_enter Try.func71, Try.ntmps71
    go_wp2
    go_ret
    exact ⟨ret_bool (by rw [G.out, decide_eq_false (by omega)]; rfl), Below.refl _ _⟩
  · have h6' : ¬ (6 : Int) < (vs.length : Int) := by omega
    go_enter Try.func71, Try.ntmps71
    go_wp2
    go_loopw [10] (fun i wr => ∃ (k : Nat), k ≤ vs.length ∧ i = .int .i64 k ∧ gSlots vs = (vs.drop k).all gVal ∧ Below w.heap.size w wr) (fun i _ => vs.length - (intOf i).toNat)
    case atStart => exact ⟨0, by omega, rfl, by rw [G.out, decide_eq_true (by omega)]; rfl, Below.refl _ _⟩
    case round =>
      obtain ⟨k, hk, rfl, hG, hb⟩ := hrel
      have HG : Hid (gSlots vs = (vs.drop k).all gVal) := hG
      clear hG
      by_cases hkl : k < vs.length
      · obtain ⟨v, hvk⟩ : ∃ v, vs[k]? = some v := ⟨vs[k], by simp [hkl]⟩
        obtain ⟨b, o, rfl, c0, c1, c2⟩ := hv.below hb k v hvk
        have hsv : v.sym.size ≤ maxLen := hs v (List.mem_of_getElem? hvk)
        have HD : Hid (vs.drop k = v :: vs.drop (k + 1)) := by
          obtain ⟨h, rfl⟩ := List.getElem?_eq_some_iff.1 hvk
          exact List.drop_eq_getElem_cons h
        have B1 : ∀ o, Below wr.heap.size wr (wr.alloc o) := fun o => (Below.refl _ _).alloc (Nat.le_refl _) _
        cases hgv : gVal v
        all_goals
          go_wp2_with (go_at_call 125; refine (l1GoodVal_any v _ hsv).mono ?_; rintro e w' ⟨rfl, hb'⟩)
        · go_ret
          exact ⟨ret_bool (by rw [HG.out, HD.out, List.all_cons, hgv]; rfl), hb.trans (((B1 _).trans (hb'.mono (by simp))).mono hb.size)⟩
        · go_roundw
          case rel => exact ⟨k + 1, by omega, by go_num, by rw [HG.out, HD.out, List.all_cons, hgv]; rfl, hb.trans (((B1 _).trans (hb'.mono (by simp))).mono hb.size)⟩
          case measure => simp [intOf]; omega
      · go_wp2
        go_ret
        exact ⟨ret_bool (by rw [HG.out, List.drop_eq_nil_of_le (by omega)]; rfl), hb⟩
end Go.Proofs.Ytgamdkokmkagaaa

namespace Go.Proofs.Ytgamdkokmkagaaa
open Go.RowKit
attribute [local go_sem ↓] Go.wp_at_zero Go.wp_at_succ

set_option maxHeartbeats 1600000 in
theorem l1SameSlots_any (a a' : Option Addr) (c c' : Nat) (vs us : List V) (w : World) (hv : ValsAt w a vs) (hv' : ValsAt w a' us) (hl : vs.length ≤ 1048576) :
    Calls Try.prog 68 #[.slice a vs.length c, .slice a' us.length c'] w fun e w' =>
      e = .returned (.bool (decide (vs = us))) ∧ Below w.heap.size w w' := by
  by_cases hll : vs.length = us.length
  · have t1 : ((vs.length : Int) != (us.length : Int)) = false := by simp; omega
    have HLL : Hid (vs.length = us.length) := hll
    have l1 : vs.length ≤ us.length := by omega
    have l2 : us.length ≤ vs.length := by omega
    clear hll
    go_enter Try.func68, Try.ntmps68
    go_wp2
    go_loopw [13] (fun i wr => ∃ (k : Nat), k ≤ vs.length ∧ i = .int .i64 k ∧ decide (vs = us) = decide (vs.drop k = us.drop k) ∧ Below w.heap.size w wr) (fun i _ => vs.length - (intOf i).toNat)
    case atStart => exact ⟨0, by omega, rfl, rfl, Below.refl _ _⟩
    case round =>
      obtain ⟨k, hk, rfl, hG, hb⟩ := hrel
      have HG : Hid (decide (vs = us) = decide (vs.drop k = us.drop k)) := hG
      clear hG
      by_cases hkl : k < vs.length
      · obtain ⟨v, hvk⟩ : ∃ v, vs[k]? = some v := ⟨vs[k], by simp [hkl]⟩
        obtain ⟨u, huk⟩ : ∃ u, us[k]? = some u := ⟨us[k]'(by omega), by simp⟩
        obtain ⟨b, o, rfl, c0, c1, c2⟩ := hv.below hb k v hvk
        obtain ⟨b', o', rfl, d0, d1, d2⟩ := hv'.below hb k u huk
        have HD : Hid (vs.drop k = v :: vs.drop (k + 1)) := drop_cons hvk
        have HD' : Hid (us.drop k = u :: us.drop (k + 1)) := drop_cons huk
        have z0 : (0 : Int) ≤ (k : Int) := by omega
        have z1 : (k : Int) < (vs.length : Int) := by omega
        have z2 : (k : Int) < (us.length : Int) := by omega
        cases e1 : (v.kind == u.kind) <;> cases e2 : (v.num == u.num) <;> cases e3 : (v.sym.toList == u.sym.toList)
        all_goals
          go_wp2
          go_region_held3 (fun w' => w'.cell? ⟨b, o + k * 3, none⟩ = some (.int .i64 v.kind) ∧ w'.cell? ⟨b, o + k * 3 + 1, none⟩ = some (.int .i64 v.num) ∧ w'.cell? ⟨b, o + k * 3 + 2, none⟩ = some (.string v.sym) ∧ w'.cell? ⟨b', o' + k * 3, none⟩ = some (.int .i64 u.kind) ∧ w'.cell? ⟨b', o' + k * 3 + 1, none⟩ = some (.int .i64 u.num) ∧ w'.cell? ⟨b', o' + k * 3 + 2, none⟩ = some (.string u.sym)) (go_keep) (fail)
          go_wp2
        all_goals
          first
          | (go_roundw
             case rel => exact ⟨k + 1, by omega, by go_num, by rw [HG.out, HD.out, HD'.out, cons_eq (veq e1 e2 e3)], hb.drew⟩
             case measure => simp [intOf]; omega)
          | (go_ret
             exact ⟨ret_bool (by rw [HG.out, HD.out, HD'.out, cons_ne (by rintro rfl; simp at e1 e2 e3)]), hb.drew⟩)
      · go_wp2
        go_ret
        exact ⟨ret_bool (by rw [HG.out, List.drop_eq_nil_of_le (by omega), List.drop_eq_nil_of_le (by omega)]; rfl), hb⟩
  · have t1 : ((vs.length : Int) != (us.length : Int)) = true := by simp; omega
    go_enter Try.func68, Try.ntmps68
    go_wp2
    go_ret
    exact ⟨ret_bool (by rw [decide_eq_false (fun e => hll (by rw [e]))]), Below.refl _ _⟩
end Go.Proofs.Ytgamdkokmkagaaa

namespace Go.Proofs.Ytgamdkokmkagaaa
open Go.RowKit

/-- Sizes that no string and no slot list passes. -/
def Sized (f : F) : Prop := f.cls.size ≤ maxLen ∧ f.slots.length ≤ 1048576 ∧ ∀ v ∈ f.slots, v.sym.size ≤ maxLen

set_option maxHeartbeats 1600000 in
theorem l1GoodFacts_any (a : Option Addr) (c : Nat) (fs : List F) (w : World) (hv : FactsAt w a fs) (hl : fs.length ≤ 1048576) (hs : ∀ f ∈ fs, Sized f) :
    Calls Try.prog 67 #[.slice a fs.length c] w fun e w' =>
      e = .returned (.bool (gFacts fs)) ∧ Below w.heap.size w w' := by
  obtain ⟨G⟩ : Nonempty (Hid (gFacts fs = (decide (fs.length ≤ 40) && gFrom 0 fs))) := ⟨rfl⟩
  by_cases h6 : 40 < fs.length
  · have h6' : (40 : Int) < (fs.length : Int) := by omega
    go_enter Try.func67, Try.ntmps67
    go_wp2
    go_ret
    exact ⟨ret_bool (by rw [G.out, decide_eq_false (by omega)]; rfl), Below.refl _ _⟩
  · have h6' : ¬ (40 : Int) < (fs.length : Int) := by omega
    go_enter Try.func67, Try.ntmps67
    go_wp2
    go_loopw [3, 11] (fun l i wr => ∃ (k : Nat) (last : Int), k ≤ fs.length ∧ i = .int .i64 k ∧ l = .int .i64 last ∧ gFacts fs = gFrom last (fs.drop k) ∧ Below w.heap.size w wr) (fun _ i _ => fs.length - (intOf i).toNat)
    case atStart => exact ⟨0, 0, by omega, rfl, rfl, by rw [G.out, decide_eq_true (by omega)]; rfl, Below.refl _ _⟩
    case round =>
      obtain ⟨k, last, hk, rfl, rfl, hG, hb⟩ := hrel
      have HG : Hid (gFacts fs = gFrom last (fs.drop k)) := hG
      clear hG
      by_cases hkl : k < fs.length
      · obtain ⟨f, hfk⟩ : ∃ f, fs[k]? = some f := ⟨fs[k], by simp [hkl]⟩
        obtain ⟨b, o, rfl, c0, c1, s, cs, c2, hsl⟩ := hv.below hb k f hfk
        obtain ⟨hs1, hs2, hs3⟩ := hs f (List.mem_of_getElem? hfk)
        have HD : Hid (fs.drop k = f :: fs.drop (k + 1)) := drop_cons hfk
        have HO : Hid (okF last f = (decide (last < f.tag) && (decide (f.tag ≤ 1000000) && (gSym f.cls.data.toList && gSlots f.slots)))) := rfl
        have B1 : ∀ o, Below wr.heap.size wr (wr.alloc o) := fun o => (Below.refl _ _).alloc (Nat.le_refl _) _
        have bad : Hid (okF last f = false → gFacts fs = false) := fun e => by rw [HG.out, HD.out, gFrom, e]; rfl
        have good : Hid (okF last f = true → gFacts fs = gFrom f.tag (fs.drop (k + 1))) := fun e => by rw [HG.out, HD.out, gFrom, e]; rfl
        by_cases h1 : f.tag ≤ last
        · have HB : Hid (gFacts fs = false) := bad.out (by rw [HO.out, decide_eq_false (by omega)]; rfl)
          go_wp2
          go_ret
          exact ⟨ret_bool HB.out.symm, hb.trans ((B1 _).mono hb.size)⟩
        · by_cases h2 : 1000000 < f.tag
          · have HB : Hid (gFacts fs = false) := bad.out (by rw [HO.out, decide_eq_false (p := f.tag ≤ 1000000) (by omega)]; simp)
            go_wp2
            go_ret
            exact ⟨ret_bool HB.out.symm, hb.trans ((B1 _).mono hb.size)⟩
          · cases h3 : gSym f.cls.data.toList
            · have HB : Hid (gFacts fs = false) := bad.out (by rw [HO.out, h3]; simp)
              go_wp2_with (go_at_call 70; refine (l1GoodSym_any f.cls _ hs1).mono ?_; rintro e w' ⟨rfl, rfl⟩)
              go_ret
              exact ⟨ret_bool HB.out.symm, hb.trans ((B1 _).mono hb.size)⟩
            · cases h4 : gSlots f.slots
              · have HB : Hid (gFacts fs = false) := bad.out (by rw [HO.out, h4]; simp)
                go_wp2_with (first | (go_at_call 70; refine (l1GoodSym_any f.cls _ hs1).mono ?_; rintro e w' ⟨rfl, rfl⟩) | (go_at_call 71; refine (l1GoodSlots_any s cs f.slots _ (hsl.below (B1 _)) hs2 hs3).mono ?_; rintro e w1 ⟨rfl, hb'⟩))
                go_ret
                exact ⟨ret_bool HB.out.symm, hb.trans (((B1 _).trans (hb'.mono (by simp))).mono hb.size)⟩
              · have HB : Hid (gFacts fs = gFrom f.tag (fs.drop (k + 1))) := good.out (by rw [HO.out, h3, h4, decide_eq_true (by omega), decide_eq_true (by omega)]; rfl)
                go_wp2_with (first | (go_at_call 70; refine (l1GoodSym_any f.cls _ hs1).mono ?_; rintro e w' ⟨rfl, rfl⟩) | (go_at_call 71; refine (l1GoodSlots_any s cs f.slots _ (hsl.below (B1 _)) hs2 hs3).mono ?_; rintro e w1 ⟨rfl, hb'⟩; obtain ⟨hc, hf⟩ := bcell hb'))
                go_roundw
                case rel => exact ⟨k + 1, f.tag, by omega, by go_num, rfl, HB.out, hb.trans (((B1 _).trans (hb'.mono (by simp))).mono hb.size)⟩
                case measure => simp [intOf]; omega
      · go_wp2
        go_ret
        exact ⟨ret_bool (by rw [HG.out, List.drop_eq_nil_of_le (by omega)]; rfl), hb⟩
end Go.Proofs.Ytgamdkokmkagaaa
