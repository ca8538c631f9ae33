/-
  OUR OWN TEXT. Sz0, Sz, one behind the other.
-/
import Derived.Test.YtgamdkokmkagaaaMem
namespace Go.Proofs.Ytgamdkokmkagaaa
open Go.RowKit

/-- What the count leaves: -1, or no more than was there less n. -/
def Left (r left : Int) (n : Nat) : Prop := r = -1 ∨ 0 ≤ r ∧ r + n ≤ left

set_option maxHeartbeats 400000 in
theorem szValue_any (v : V) (left : Int) (w : World) (hs : v.sym.size ≤ maxLen) (h0 : 0 ≤ left) (h1 : left ≤ 1048576) :
    Calls Try.prog 69 #[.agg #[.int .i64 v.kind, .int .i64 v.num, .string v.sym], .int .i64 left] w fun e w' =>
      (∃ r : Int, e = .returned (.int .i64 r) ∧ Left r left (szV v)) ∧ Below w.heap.size w w' := by
  unfold maxLen at hs
  go_enter Try.func69, Try.ntmps69
  go_wp2
  all_goals go_ret
  · exact ⟨⟨-1, rfl, .inl rfl⟩, (Below.refl _ _).alloc (Nat.le_refl _) _⟩
  · exact ⟨⟨_, rfl, .inr ⟨by assumption, by unfold szV; omega⟩⟩, (Below.refl _ _).alloc (Nat.le_refl _) _⟩
end Go.Proofs.Ytgamdkokmkagaaa

namespace Go.Proofs.Ytgamdkokmkagaaa
open Go.RowKit

set_option maxHeartbeats 400000 in
theorem szValueS_any (a : Option Addr) (c : Nat) (vs : List V) (left : Int) (w : World) (hv : ValsAt w a vs) (hl : vs.length ≤ maxLen) (hs : ∀ v ∈ vs, v.sym.size ≤ maxLen) (h0 : 0 ≤ left) (h1 : left ≤ 1048576) :
    Calls Try.prog 23 #[.slice a vs.length c, .int .i64 left] w fun e w' =>
      (∃ r : Int, e = .returned (.int .i64 r) ∧ Left r left (szVs vs)) ∧ Below w.heap.size w w' := by
  unfold maxLen at hl
  by_cases hlt : left < vs.length
  · go_enter Try.func23, Try.ntmps23
    go_wp2
    go_ret
    exact ⟨⟨-1, rfl, .inl rfl⟩, Below.refl _ _⟩
  · go_enter Try.func23, Try.ntmps23
    go_wp2
    go_loopw [1, 5] (fun l i wr => ∃ (k : Nat) (r : Int), k ≤ vs.length ∧ i = .int .i64 k ∧ l = .int .i64 r ∧ 0 ≤ r ∧ r + vs.length + ((vs.take k).map szV).sum ≤ left ∧ Below w.heap.size w wr) (fun _ i _ => vs.length - (intOf i).toNat)
    case atStart => exact ⟨0, _, by omega, rfl, rfl, by omega, by simp, Below.refl _ _⟩
    case round =>
      obtain ⟨k, r, hk, rfl, rfl, hr0, hr1, hb⟩ := hrel
      by_cases hkl : k < vs.length
      · obtain ⟨v, hvk⟩ : ∃ v, vs[k]? = some v := ⟨vs[k], by simp [hkl]⟩
        obtain ⟨b, o, rfl, c0, c1, c2⟩ := hv.below hb k v hvk
        have hz := sum_take_succ szV vs k v hvk
        have HZ : Hid (((vs.take (k + 1)).map szV).sum = ((vs.take k).map szV).sum + szV v) := hz
        have hsv : v.sym.size ≤ maxLen := hs v (List.mem_of_getElem? hvk)
        clear hz
        go_wp2_with (go_at_call 69; refine (szValue_any v _ _ hsv (by omega) (by omega)).mono ?_; rintro e w' ⟨⟨r', rfl, hr'⟩, hb'⟩)
        · go_ret
          exact ⟨⟨-1, rfl, .inl rfl⟩, hb.trans (hb'.mono hb.size)⟩
        · go_roundw
          case rel =>
            refine ⟨k + 1, r', by omega, by go_num, rfl, by assumption, ?_, hb.trans (hb'.mono hb.size)⟩
            rw [HZ.out]
            rcases hr' with h | ⟨_, h⟩ <;> omega
          case measure => simp [intOf]; omega
      · go_wp2
        go_ret
        refine ⟨⟨r, rfl, .inr ⟨hr0, ?_⟩⟩, hb⟩
        rw [List.take_of_length_le (by omega)] at hr1
        unfold szVs
        omega

set_option maxHeartbeats 400000 in
theorem szFact_any (f : F) (a : Option Addr) (c : Nat) (left : Int) (w : World) (hv : ValsAt w a f.slots) (hc : f.cls.size ≤ maxLen) (hl : f.slots.length ≤ maxLen) (hs : ∀ v ∈ f.slots, v.sym.size ≤ maxLen) (h0 : 0 ≤ left) (h1 : left ≤ 1048576) :
    Calls Try.prog 102 #[.agg #[.int .i64 f.tag, .string f.cls, .slice a f.slots.length c], .int .i64 left] w fun e w' =>
      (∃ r : Int, e = .returned (.int .i64 r) ∧ Left r left (szF f)) ∧ Below w.heap.size w w' := by
  unfold maxLen at hc
  by_cases hlt : left < f.cls.size
  · go_enter Try.func102, Try.ntmps102
    go_wp2
    go_ret
    exact ⟨⟨-1, rfl, .inl rfl⟩, (Below.refl _ _).alloc (Nat.le_refl _) _⟩
  · go_enter Try.func102, Try.ntmps102
    have B1 : ∀ o, Below w.heap.size w (w.alloc o) := fun o => (Below.refl _ _).alloc (Nat.le_refl _) _
    go_wp2_with (go_at_call 23; refine (szValueS_any a c f.slots _ _ (hv.below (B1 _)) hl hs (by omega) (by omega)).mono ?_; rintro e w' ⟨⟨r', rfl, hr'⟩, hb'⟩)
    · go_ret
      exact ⟨⟨-1, rfl, .inl rfl⟩, (B1 _).trans (hb'.mono (by simp))⟩
    · go_ret
      refine ⟨⟨r', rfl, .inr ⟨by assumption, ?_⟩⟩, (B1 _).trans (hb'.mono (by simp))⟩
      unfold szF
      rcases hr' with h | ⟨_, h⟩ <;> omega

set_option maxHeartbeats 400000 in
theorem szFactS_any (a : Option Addr) (c : Nat) (fs : List F) (left : Int) (w : World) (hv : FactsAt w a fs) (hl : fs.length ≤ maxLen) (hs : ∀ f ∈ fs, f.cls.size ≤ maxLen ∧ f.slots.length ≤ maxLen ∧ ∀ v ∈ f.slots, v.sym.size ≤ maxLen) (h0 : 0 ≤ left) (h1 : left ≤ 1048576) :
    Calls Try.prog 50 #[.slice a fs.length c, .int .i64 left] w fun e w' =>
      (∃ r : Int, e = .returned (.int .i64 r) ∧ Left r left (szFs fs)) ∧ Below w.heap.size w w' := by
  unfold maxLen at hl
  by_cases hlt : left < fs.length
  · go_enter Try.func50, Try.ntmps50
    go_wp2
    go_ret
    exact ⟨⟨-1, rfl, .inl rfl⟩, Below.refl _ _⟩
  · go_enter Try.func50, Try.ntmps50
    go_wp2
    go_loopw [1, 5] (fun l i wr => ∃ (k : Nat) (r : Int), k ≤ fs.length ∧ i = .int .i64 k ∧ l = .int .i64 r ∧ 0 ≤ r ∧ r + fs.length + ((fs.take k).map szF).sum ≤ left ∧ Below w.heap.size w wr) (fun _ i _ => fs.length - (intOf i).toNat)
    case atStart => exact ⟨0, _, by omega, rfl, rfl, by omega, by simp, Below.refl _ _⟩
    case round =>
      obtain ⟨k, r, hk, rfl, rfl, hr0, hr1, hb⟩ := hrel
      by_cases hkl : k < fs.length
      · obtain ⟨f, hfk⟩ : ∃ f, fs[k]? = some f := ⟨fs[k], by simp [hkl]⟩
        obtain ⟨b, o, rfl, c0, c1, a', c', c2, hsl⟩ := hv.below hb k f hfk
        have hz := sum_take_succ szF fs k f hfk
        have HZ : Hid (((fs.take (k + 1)).map szF).sum = ((fs.take k).map szF).sum + szF f) := hz
        obtain ⟨hs1, hs2, hs3⟩ := hs f (List.mem_of_getElem? hfk)
        clear hz
        go_wp2_with (go_at_call 102; refine (szFact_any f a' c' _ _ hsl hs1 hs2 hs3 (by omega) (by omega)).mono ?_; rintro e w' ⟨⟨r', rfl, hr'⟩, hb'⟩)
        · go_ret
          exact ⟨⟨-1, rfl, .inl rfl⟩, hb.trans (hb'.mono hb.size)⟩
        · go_roundw
          case rel =>
            refine ⟨k + 1, r', by omega, by go_num, rfl, by assumption, ?_, hb.trans (hb'.mono hb.size)⟩
            rw [HZ.out]
            rcases hr' with h | ⟨_, h⟩ <;> omega
          case measure => simp [intOf]; omega
      · go_wp2
        go_ret
        refine ⟨⟨r, rfl, .inr ⟨hr0, ?_⟩⟩, hb⟩
        rw [List.take_of_length_le (by omega)] at hr1
        unfold szFs
        omega

set_option maxHeartbeats 400000 in
theorem szStore_any (a : Option Addr) (c : Nat) (fs : List F) (nx cp : Int) (sg : Bool) (left : Int) (w : World) (hv : FactsAt w a fs) (hl : fs.length ≤ maxLen) (hs : ∀ f ∈ fs, f.cls.size ≤ maxLen ∧ f.slots.length ≤ maxLen ∧ ∀ v ∈ f.slots, v.sym.size ≤ maxLen) (h0 : 0 ≤ left) (h1 : left ≤ 1048576) :
    Calls Try.prog 19 #[.agg #[.slice a fs.length c, .int .i64 nx, .int .i64 cp, .bool sg], .int .i64 left] w fun e w' =>
      (∃ r : Int, e = .returned (.int .i64 r) ∧ Left r left (szFs fs)) ∧ Below w.heap.size w w' := by
  have B1 : ∀ o, Below w.heap.size w (w.alloc o) := fun o => (Below.refl _ _).alloc (Nat.le_refl _) _
  go_enter Try.func19, Try.ntmps19
  go_wp2_with (go_at_call 50; refine (szFactS_any a c fs _ _ (hv.below (B1 _)) hl hs (by omega) (by omega)).mono ?_; rintro e w' ⟨⟨r', rfl, hr'⟩, hb'⟩)
  · go_ret
    exact ⟨⟨-1, rfl, .inl rfl⟩, (B1 _).trans (hb'.mono (by simp))⟩
  · go_ret
    exact ⟨⟨r', rfl, hr'⟩, (B1 _).trans (hb'.mono (by simp))⟩
end Go.Proofs.Ytgamdkokmkagaaa
