/-
  OUR OWN TEXT. Spec1, Spec3, Impl1, one behind the other.
-/
import Derived.Test.YtognpkdgphebeaaGreatJc
import Derived.Test.YtognpkdgphebeaaGreatJa
import Derived.Deep.RegionHeld3
import Derived.Deep.DrawnRows
namespace Go.Proofs.YtognpkdgphebeaaGreat
open Go.RowKit
attribute [local go_sem ↓] Go.wp_at_zero Go.wp_at_succ

set_option maxHeartbeats 800000 in
theorem l1GoodSlots_any (a : Option Addr) (c : Nat) (vs : List V) (w : World) (hv : ValsAt w a vs) (hl : vs.length ≤ 1048576) (hs : ∀ v ∈ vs, v.sym.size ≤ maxLen) :
    Calls Tryz.prog 103 #[.slice a vs.length c] w fun e w' =>
      e = .returned (.bool (gSlots vs)) ∧ Below w.heap.size w w' := by
  obtain ⟨G⟩ : Nonempty (Hid (gSlots vs = (decide (vs.length ≤ 6) && vs.all gVal))) := ⟨rfl⟩
  by_cases h6 : 6 < vs.length
  · have h6' : (6 : Int) < (vs.length : Int) := by omega
    go_enter Tryz.func103, Tryz.ntmps103
    go_wp2
    go_ret
    exact ⟨ret_bool (by rw [G.out, decide_eq_false (by omega)]; rfl), Below.refl _ _⟩
  · have h6' : ¬ (6 : Int) < (vs.length : Int) := by omega
    go_enter Tryz.func103, Tryz.ntmps103
    go_wp2
    go_loopw [10] (fun i wr => ∃ (k : Nat), k ≤ vs.length ∧ i = .int .i64 k ∧ gSlots vs = (vs.drop k).all gVal ∧ Below w.heap.size w wr) (fun i _ => vs.length - (intOf i).toNat)
    case atStart => exact ⟨0, by omega, rfl, by rw [G.out, decide_eq_true (by omega)]; rfl, Below.refl _ _⟩
    case round =>
      obtain ⟨k, hk, rfl, hG, hb⟩ := hrel
      have HG : Hid (gSlots vs = (vs.drop k).all gVal) := hG
      clear hG
      by_cases hkl : k < vs.length
      · obtain ⟨v, hvk⟩ : ∃ v, vs[k]? = some v := ⟨vs[k], by simp [hkl]⟩
        obtain ⟨b, o, rfl, c0, c1, c2⟩ := hv.below hb k v hvk
        have hsv : v.sym.size ≤ maxLen := hs v (List.mem_of_getElem? hvk)
        have HD : Hid (vs.drop k = v :: vs.drop (k + 1)) := by
          obtain ⟨h, rfl⟩ := List.getElem?_eq_some_iff.1 hvk
          exact List.drop_eq_getElem_cons h
        have B1 : ∀ o, Below wr.heap.size wr (wr.alloc o) := fun o => (Below.refl _ _).alloc (Nat.le_refl _) _
        cases hgv : gVal v
        all_goals
          go_wp2_with (go_at_call 121; refine (l1GoodVal_any v _ hsv).mono ?_; rintro e w' ⟨rfl, hb'⟩)
        · go_ret
          exact ⟨ret_bool (by rw [HG.out, HD.out, List.all_cons, hgv]; rfl), hb.trans (((B1 _).trans (hb'.mono (by simp))).mono hb.size)⟩
        · go_roundw
          case rel => exact ⟨k + 1, by omega, by go_num, by rw [HG.out, HD.out, List.all_cons, hgv]; rfl, hb.trans (((B1 _).trans (hb'.mono (by simp))).mono hb.size)⟩
          case measure => simp [intOf]; omega
      · go_wp2
        go_ret
        exact ⟨ret_bool (by rw [HG.out, List.drop_eq_nil_of_le (by omega)]; rfl), hb⟩
end Go.Proofs.YtognpkdgphebeaaGreat

namespace Go.Proofs.YtognpkdgphebeaaGreat
open Go.RowKit

/-- Sizes that no string and no slot list passes. -/
def Sized (f : F) : Prop := f.cls.size ≤ maxLen ∧ f.slots.length ≤ 1048576 ∧ ∀ v ∈ f.slots, v.sym.size ≤ maxLen

set_option maxHeartbeats 1600000 in
theorem l1GoodFacts_any (a : Option Addr) (c : Nat) (fs : List F) (w : World) (hv : FactsAt w a fs) (hl : fs.length ≤ 1048576) (hs : ∀ f ∈ fs, Sized f) :
    Calls Tryz.prog 71 #[.slice a fs.length c] w fun e w' =>
      e = .returned (.bool (gFacts fs)) ∧ Below w.heap.size w w' := by
  obtain ⟨G⟩ : Nonempty (Hid (gFacts fs = (decide (fs.length ≤ 40) && gFrom 0 fs))) := ⟨rfl⟩
  by_cases h6 : 40 < fs.length
  · have h6' : (40 : Int) < (fs.length : Int) := by omega
    go_enter Tryz.func71, Tryz.ntmps71
    go_wp2
    go_ret
    exact ⟨ret_bool (by rw [G.out, decide_eq_false (by omega)]; rfl), Below.refl _ _⟩
  · have h6' : ¬ (40 : Int) < (fs.length : Int) := by omega
    go_enter Tryz.func71, Tryz.ntmps71
    go_wp2
    go_loopw [3, 11] (fun l i wr => ∃ (k : Nat) (last : Int), k ≤ fs.length ∧ i = .int .i64 k ∧ l = .int .i64 last ∧ gFacts fs = gFrom last (fs.drop k) ∧ Below w.heap.size w wr) (fun _ i _ => fs.length - (intOf i).toNat)
    case atStart => exact ⟨0, 0, by omega, rfl, rfl, by rw [G.out, decide_eq_true (by omega)]; rfl, Below.refl _ _⟩
    case round =>
      obtain ⟨k, last, hk, rfl, rfl, hG, hb⟩ := hrel
      have HG : Hid (gFacts fs = gFrom last (fs.drop k)) := hG
      clear hG
      by_cases hkl : k < fs.length
      · obtain ⟨f, hfk⟩ : ∃ f, fs[k]? = some f := ⟨fs[k], by simp [hkl]⟩
        obtain ⟨b, o, rfl, c0, c1, s, cs, c2, hsl⟩ := hv.below hb k f hfk
        obtain ⟨hs1, hs2, hs3⟩ := hs f (List.mem_of_getElem? hfk)
        have HD : Hid (fs.drop k = f :: fs.drop (k + 1)) := drop_cons hfk
        have HO : Hid (okF last f = (decide (last < f.tag) && (decide (f.tag ≤ 1000000) && (gSym f.cls.data.toList && gSlots f.slots)))) := rfl
        have B1 : ∀ o, Below wr.heap.size wr (wr.alloc o) := fun o => (Below.refl _ _).alloc (Nat.le_refl _) _
        have bad : Hid (okF last f = false → gFacts fs = false) := fun e => by rw [HG.out, HD.out, gFrom, e]; rfl
        have good : Hid (okF last f = true → gFacts fs = gFrom f.tag (fs.drop (k + 1))) := fun e => by rw [HG.out, HD.out, gFrom, e]; rfl
        by_cases h1 : f.tag ≤ last
        · have HB : Hid (gFacts fs = false) := bad.out (by rw [HO.out, decide_eq_false (by omega)]; rfl)
          go_wp2
          go_ret
          exact ⟨ret_bool HB.out.symm, hb.trans ((B1 _).mono hb.size)⟩
        · by_cases h2 : 1000000 < f.tag
          · have HB : Hid (gFacts fs = false) := bad.out (by rw [HO.out, decide_eq_false (p := f.tag ≤ 1000000) (by omega)]; simp)
            go_wp2
            go_ret
            exact ⟨ret_bool HB.out.symm, hb.trans ((B1 _).mono hb.size)⟩
          · cases h3 : gSym f.cls.data.toList
            · have HB : Hid (gFacts fs = false) := bad.out (by rw [HO.out, h3]; simp)
              go_wp2_with (go_at_call 102; refine (l1GoodSym_any f.cls _ hs1).mono ?_; rintro e w' ⟨rfl, rfl⟩)
              go_ret
              exact ⟨ret_bool HB.out.symm, hb.trans ((B1 _).mono hb.size)⟩
            · cases h4 : gSlots f.slots
              · have HB : Hid (gFacts fs = false) := bad.out (by rw [HO.out, h4]; simp)
                go_wp2_with (first | (go_at_call 102; refine (l1GoodSym_any f.cls _ hs1).mono ?_; rintro e w' ⟨rfl, rfl⟩) | (go_at_call 103; refine (l1GoodSlots_any s cs f.slots _ (hsl.below (B1 _)) hs2 hs3).mono ?_; rintro e w1 ⟨rfl, hb'⟩))
                go_ret
                exact ⟨ret_bool HB.out.symm, hb.trans (((B1 _).trans (hb'.mono (by simp))).mono hb.size)⟩
              · have HB : Hid (gFacts fs = gFrom f.tag (fs.drop (k + 1))) := good.out (by rw [HO.out, h3, h4, decide_eq_true (by omega), decide_eq_true (by omega)]; rfl)
                go_wp2_with (first | (go_at_call 102; refine (l1GoodSym_any f.cls _ hs1).mono ?_; rintro e w' ⟨rfl, rfl⟩) | (go_at_call 103; refine (l1GoodSlots_any s cs f.slots _ (hsl.below (B1 _)) hs2 hs3).mono ?_; rintro e w1 ⟨rfl, hb'⟩; obtain ⟨hc, hf⟩ := bcell hb'))
                go_roundw
                case rel => exact ⟨k + 1, f.tag, by omega, by go_num, rfl, HB.out, hb.trans (((B1 _).trans (hb'.mono (by simp))).mono hb.size)⟩
                case measure => simp [intOf]; omega
      · go_wp2
        go_ret
        exact ⟨ret_bool (by rw [HG.out, List.drop_eq_nil_of_le (by omega)]; rfl), hb⟩
end Go.Proofs.YtognpkdgphebeaaGreat

namespace Go.Proofs.YtognpkdgphebeaaGreat
open Go.RowKit

set_option maxHeartbeats 800000 in
theorem goodSlots_any (a : Option Addr) (c : Nat) (vs : List V) (w : World) (hv : ValsAt w a vs) (hl : vs.length ≤ 1048576) (hs : ∀ v ∈ vs, v.sym.size ≤ maxLen) :
    Calls Tryz.prog 131 #[.slice a vs.length c] w fun e w' =>
      e = .returned (.bool (gSlots vs)) ∧ Below w.heap.size w w' := by
  obtain ⟨G⟩ : Nonempty (Hid (gSlots vs = (decide (vs.length ≤ 6) && vs.all gVal))) := ⟨rfl⟩
  by_cases h6 : 6 < vs.length
  · have h6' : (6 : Int) < (vs.length : Int) := by omega
    go_enter Tryz.func131, Tryz.ntmps131
    go_wp2
    go_ret
    exact ⟨ret_bool (by rw [G.out, decide_eq_false (by omega)]; rfl), Below.refl _ _⟩
  · have h6' : ¬ (6 : Int) < (vs.length : Int) := by omega
    go_enter Tryz.func131, Tryz.ntmps131
    go_wp2
    go_loopw [10] (fun i wr => ∃ (k : Nat), k ≤ vs.length ∧ i = .int .i64 k ∧ gSlots vs = (vs.drop k).all gVal ∧ Below w.heap.size w wr) (fun i _ => vs.length - (intOf i).toNat)
    case atStart => exact ⟨0, by omega, rfl, by rw [G.out, decide_eq_true (by omega)]; rfl, Below.refl _ _⟩
    case round =>
      obtain ⟨k, hk, rfl, hG, hb⟩ := hrel
      have HG : Hid (gSlots vs = (vs.drop k).all gVal) := hG
      clear hG
      by_cases hkl : k < vs.length
      · obtain ⟨v, hvk⟩ : ∃ v, vs[k]? = some v := ⟨vs[k], by simp [hkl]⟩
        obtain ⟨b, o, rfl, c0, c1, c2⟩ := hv.below hb k v hvk
        have hsv : v.sym.size ≤ maxLen := hs v (List.mem_of_getElem? hvk)
        have HD : Hid (vs.drop k = v :: vs.drop (k + 1)) := by
          obtain ⟨h, rfl⟩ := List.getElem?_eq_some_iff.1 hvk
          exact List.drop_eq_getElem_cons h
        have B1 : ∀ o, Below wr.heap.size wr (wr.alloc o) := fun o => (Below.refl _ _).alloc (Nat.le_refl _) _
        cases hgv : gVal v
        all_goals
          go_wp2_with (go_at_call 151; refine (valGood_any v _ hsv).mono ?_; rintro e w' ⟨rfl, hb'⟩)
        · go_ret
          exact ⟨ret_bool (by rw [HG.out, HD.out, List.all_cons, hgv]; rfl), hb.trans (((B1 _).trans (hb'.mono (by simp))).mono hb.size)⟩
        · go_roundw
          case rel => exact ⟨k + 1, by omega, by go_num, by rw [HG.out, HD.out, List.all_cons, hgv]; rfl, hb.trans (((B1 _).trans (hb'.mono (by simp))).mono hb.size)⟩
          case measure => simp [intOf]; omega
      · go_wp2
        go_ret
        exact ⟨ret_bool (by rw [HG.out, List.drop_eq_nil_of_le (by omega)]; rfl), hb⟩

set_option maxHeartbeats 800000 in
theorem factGood_any (f : F) (a : Option Addr) (c : Nat) (w : World) (hv : ValsAt w a f.slots) (hc : f.cls.size ≤ maxLen) (hl : f.slots.length ≤ 1048576) (hs : ∀ v ∈ f.slots, v.sym.size ≤ maxLen) :
    Calls Tryz.prog 110 #[.agg #[.int .i64 f.tag, .string f.cls, .slice a f.slots.length c]] w fun e w' =>
      e = .returned (.bool (fGood f)) ∧ Below w.heap.size w w' := by
  have B1 : ∀ o, Below w.heap.size w (w.alloc o) := fun o => (Below.refl _ _).alloc (Nat.le_refl _) _
  obtain ⟨G⟩ : Nonempty (Hid (fGood f = (decide (1 ≤ f.tag) && (decide (f.tag ≤ 1000000) && (gSym f.cls.data.toList && gSlots f.slots))))) := ⟨rfl⟩
  by_cases h1 : 1 ≤ f.tag
  · by_cases h2 : f.tag ≤ 1000000
    · have d1 : decide (1 ≤ f.tag) = true := decide_eq_true h1
      have d2 : decide (f.tag ≤ 1000000) = true := decide_eq_true h2
      cases h3 : gSym f.cls.data.toList <;> cases h4 : gSlots f.slots
      all_goals
        go_enter Tryz.func110, Tryz.ntmps110
        go_wp2_with (first | (go_at_call 130; refine (goodSymbol_any f.cls _ hc).mono ?_; rintro e w' ⟨rfl, rfl⟩) | (go_at_call 131; refine (goodSlots_any a c f.slots _ (hv.below (B1 _)) hl hs).mono ?_; rintro e w' ⟨rfl, hb'⟩))
        go_ret
        first
        | exact ⟨ret_bool (by rw [G.out, d1, d2, h3, h4]; rfl), B1 _⟩
        | exact ⟨ret_bool (by rw [G.out, d1, d2, h3, h4]; rfl), (B1 _).trans (hb'.mono (by simp))⟩
    · have d2 : decide (f.tag ≤ 1000000) = false := decide_eq_false h2
      go_enter Tryz.func110, Tryz.ntmps110
      go_wp2
      go_ret
      exact ⟨ret_bool (by rw [G.out, d2]; simp), B1 _⟩
  · have d1 : decide (1 ≤ f.tag) = false := decide_eq_false h1
    go_enter Tryz.func110, Tryz.ntmps110
    go_wp2
    go_ret
    exact ⟨ret_bool (by rw [G.out, d1]; rfl), B1 _⟩

set_option maxHeartbeats 1600000 in
theorem goodFacts_any (a : Option Addr) (c : Nat) (fs : List F) (w : World) (hv : FactsAt w a fs) (hl : fs.length ≤ 1048576) (hs : ∀ f ∈ fs, Sized f) :
    Calls Tryz.prog 87 #[.slice a fs.length c] w fun e w' =>
      e = .returned (.bool (gFacts fs)) ∧ Below w.heap.size w w' := by
  obtain ⟨G⟩ : Nonempty (Hid (gFacts fs = (decide (fs.length ≤ 40) && gFrom 0 fs))) := ⟨rfl⟩
  by_cases h6 : 40 < fs.length
  · have h6' : (40 : Int) < (fs.length : Int) := by omega
    go_enter Tryz.func87, Tryz.ntmps87
    go_wp2
    go_ret
    exact ⟨ret_bool (by rw [G.out, decide_eq_false (by omega)]; rfl), Below.refl _ _⟩
  · have h6' : ¬ (40 : Int) < (fs.length : Int) := by omega
    go_enter Tryz.func87, Tryz.ntmps87
    go_wp2
    go_loopw [3, 11] (fun l i wr => ∃ (k : Nat) (last : Int), 0 ≤ last ∧ k ≤ fs.length ∧ i = .int .i64 k ∧ l = .int .i64 last ∧ gFacts fs = gFrom last (fs.drop k) ∧ Below w.heap.size w wr) (fun _ i _ => fs.length - (intOf i).toNat)
    case atStart => exact ⟨0, 0, by omega, by omega, rfl, rfl, by rw [G.out, decide_eq_true (by omega)]; rfl, Below.refl _ _⟩
    case round =>
      obtain ⟨k, last, hla, hk, rfl, rfl, hG, hb⟩ := hrel
      have HG : Hid (gFacts fs = gFrom last (fs.drop k)) := hG
      clear hG
      by_cases hkl : k < fs.length
      · obtain ⟨f, hfk⟩ : ∃ f, fs[k]? = some f := ⟨fs[k], by simp [hkl]⟩
        obtain ⟨b, o, rfl, c0, c1, s, cs, c2, hsl⟩ := hv.below hb k f hfk
        obtain ⟨hs1, hs2, hs3⟩ := hs f (List.mem_of_getElem? hfk)
        have HD : Hid (fs.drop k = f :: fs.drop (k + 1)) := drop_cons hfk
        have HO : Hid (okF last f = (decide (last < f.tag) && (decide (f.tag ≤ 1000000) && (gSym f.cls.data.toList && gSlots f.slots)))) := rfl
        have B1 : ∀ o, Below wr.heap.size wr (wr.alloc o) := fun o => (Below.refl _ _).alloc (Nat.le_refl _) _
        have bad : Hid (okF last f = false → gFacts fs = false) := fun e => by rw [HG.out, HD.out, gFrom, e]; rfl
        have good : Hid (okF last f = true → gFacts fs = gFrom f.tag (fs.drop (k + 1))) := fun e => by rw [HG.out, HD.out, gFrom, e]; rfl
        by_cases h1 : f.tag ≤ last
        · have HB : Hid (gFacts fs = false) := bad.out (by rw [HO.out, decide_eq_false (by omega)]; rfl)
          go_wp2
          go_ret
          exact ⟨ret_bool HB.out.symm, hb.trans ((B1 _).mono hb.size)⟩
        · cases h3 : fGood f
          · have HB : Hid (gFacts fs = false) := bad.out (by rw [HO.out, fGood_rest (by omega : 1 ≤ f.tag) h3, Bool.and_false])
            go_wp2_with (go_at_call 110; refine (factGood_any f s cs _ (hsl.below (B1 _)) hs1 hs2 hs3).mono ?_; rintro e w1 ⟨rfl, hb'⟩)
            go_ret
            exact ⟨ret_bool HB.out.symm, hb.trans (((B1 _).trans (hb'.mono (by simp))).mono hb.size)⟩
          · have HB : Hid (gFacts fs = gFrom f.tag (fs.drop (k + 1))) := good.out (by rw [HO.out, fGood_rest (by omega : 1 ≤ f.tag) h3, decide_eq_true (by omega)]; rfl)
            go_wp2_with (go_at_call 110; refine (factGood_any f s cs _ (hsl.below (B1 _)) hs1 hs2 hs3).mono ?_; rintro e w1 ⟨rfl, hb'⟩; obtain ⟨hc, hf⟩ := bcell hb')
            go_roundw
            case rel => exact ⟨k + 1, f.tag, by omega, by omega, by go_num, rfl, HB.out, hb.trans (((B1 _).trans (hb'.mono (by simp))).mono hb.size)⟩
            case measure => simp [intOf]; omega
      · go_wp2
        go_ret
        exact ⟨ret_bool (by rw [HG.out, List.drop_eq_nil_of_le (by omega)]; rfl), hb⟩
end Go.Proofs.YtognpkdgphebeaaGreat
