/-
  OUR OWN TEXT. The laws' own counts of the sizes of Alphas (made by lawgen2.py).
-/
import Derived.Test.YtofmgaebgojonaaTyA
import Derived.Test.YtofmgaebgojonaaSz
namespace Go.Proofs.Ytofmgaebgojonaa
open Go.RowKit

set_option maxHeartbeats 800000 in
theorem szAlphaTest_any (x : Tt) (left : Int) (w : World) (hs : x.le maxLen) (h0 : 0 ≤ left) (h1 : left ≤ 1048576) :
    Calls Try.prog 148 #[.agg #[.int .i64 x.slot, .int .i64 x.op, .int .i64 x.other, .int .i64 x.val.kind, .int .i64 x.val.num, .string x.val.sym], .int .i64 left] w fun e w' =>
      (∃ r : Int, e = .returned (.int .i64 r) ∧ Left r left x.sz) ∧ Below w.heap.size w w' := by
  have s_val := hs
  have B0 : ∀ o, Below w.heap.size w (w.alloc o) := fun o => (Below.refl _ _).alloc (Nat.le_refl _) _
  go_enter Try.func148, Try.ntmps148
  go_wp2_with (go_at_call 68; refine (szValue_any x.val _ _ s_val (by omega) (by omega)).mono ?_; rintro e w1 ⟨⟨r1, rfl, hr1⟩, hb1⟩; have u1 : r1 ≤ 1048576 := (by rcases hr1 with g | ⟨_, g⟩ <;> omega); have hB1 : Below w.heap.size w w1 := (B0 _).trans (hb1.mono (by simp)))
  all_goals go_ret
  all_goals first
    | exact ⟨⟨-1, rfl, .inl rfl⟩, hB1⟩
    | exact ⟨⟨-1, rfl, .inl rfl⟩, B0 _⟩
    | (refine ⟨⟨_, rfl, .inr ⟨by assumption, ?_⟩⟩, hB1⟩; unfold Tt.sz; rcases hr1 with g1 | ⟨_, g1⟩ <;> omega)

set_option maxHeartbeats 800000 in
theorem szAlphaTestS_any (a : Option Addr) (c : Nat) (xs : List Tt) (left : Int) (w : World) {q : Option Nat} (hv : TtsAt q w a xs) (hs : ListLe Tt.le maxLen xs) (h0 : 0 ≤ left) (h1 : left ≤ 1048576) :
    Calls Try.prog 100 #[.slice a xs.length c, .int .i64 left] w fun e w' =>
      (∃ r : Int, e = .returned (.int .i64 r) ∧ Left r left (szL Tt.sz xs)) ∧ Below w.heap.size w w' := by
  obtain ⟨hl, hs⟩ := hs
  unfold maxLen at hl
  by_cases hlt : left < xs.length
  · go_enter Try.func100, Try.ntmps100
    go_wp2
    go_ret
    exact ⟨⟨-1, rfl, .inl rfl⟩, Below.refl _ _⟩
  · go_enter Try.func100, Try.ntmps100
    go_wp2
    go_loopw [1, 5] (fun l i wr => ∃ (k : Nat) (r : Int), k ≤ xs.length ∧ i = .int .i64 k ∧ l = .int .i64 r ∧ 0 ≤ r ∧ r + xs.length + ((xs.take k).map Tt.sz).sum ≤ left ∧ Below w.heap.size w wr) (fun _ i _ => xs.length - (intOf i).toNat)
    case atStart => exact ⟨0, _, by omega, rfl, rfl, by omega, by simp, Below.refl _ _⟩
    case round =>
      obtain ⟨k, r, hk, rfl, rfl, hr0, hr1, hb⟩ := hrel
      by_cases hkl : k < xs.length
      · obtain ⟨x, hxk⟩ : ∃ x, xs[k]? = some x := ⟨xs[k], by simp [hkl]⟩
        obtain ⟨b, o, rfl, hq, c0, c1, c2, c3, c4, c5⟩ := (hv.below hb).get hxk
        have hz := sum_take_succ Tt.sz xs k x hxk
        have HZ : Hid (((xs.take (k + 1)).map Tt.sz).sum = ((xs.take k).map Tt.sz).sum + Tt.sz x) := hz
        have hsx := hs x (List.mem_of_getElem? hxk)
        clear hz
        go_wp2_with (go_at_call 148; refine (szAlphaTest_any x _ _ hsx (by omega) (by omega)).mono ?_; rintro e w' ⟨⟨r', rfl, hr'⟩, hb'⟩)
        · go_ret
          exact ⟨⟨-1, rfl, .inl rfl⟩, hb.trans (hb'.mono hb.size)⟩
        · go_roundw
          case rel =>
            refine ⟨k + 1, r', by omega, by go_num, rfl, by assumption, ?_, hb.trans (hb'.mono hb.size)⟩
            rw [HZ.out]
            rcases hr' with h | ⟨_, h⟩ <;> omega
          case measure => simp [intOf]; omega
      · go_wp2
        go_ret
        refine ⟨⟨r, rfl, .inr ⟨hr0, ?_⟩⟩, hb⟩
        rw [List.take_of_length_le (by omega)] at hr1
        unfold szL
        omega

set_option maxHeartbeats 800000 in
theorem szAlpha_any (x : Al) (a_tests : Option Addr) (c_tests : Nat) {q : Option Nat} (left : Int) (w : World) (h_tests : TtsAt q w a_tests x.tests) (hs : x.le maxLen) (h0 : 0 ≤ left) (h1 : left ≤ 1048576) :
    Calls Try.prog 45 #[.agg #[.string x.cls, .int .i64 x.arity, .slice a_tests x.tests.length c_tests], .int .i64 left] w fun e w' =>
      (∃ r : Int, e = .returned (.int .i64 r) ∧ Left r left x.sz) ∧ Below w.heap.size w w' := by
  obtain ⟨s_cls, s_tests⟩ := hs
  have t_cls := s_cls
  unfold maxLen at t_cls
  have B0 : ∀ o, Below w.heap.size w (w.alloc o) := fun o => (Below.refl _ _).alloc (Nat.le_refl _) _
  go_enter Try.func45, Try.ntmps45
  go_wp2_with (go_at_call 100; refine (szAlphaTestS_any a_tests c_tests x.tests _ _ (h_tests.below (B0 _)) s_tests (by omega) (by omega)).mono ?_; rintro e w1 ⟨⟨r1, rfl, hr1⟩, hb1⟩; have u1 : r1 ≤ 1048576 := (by rcases hr1 with g | ⟨_, g⟩ <;> omega); have hB1 : Below w.heap.size w w1 := (B0 _).trans (hb1.mono (by simp)))
  all_goals go_ret
  all_goals first
    | exact ⟨⟨-1, rfl, .inl rfl⟩, hB1⟩
    | exact ⟨⟨-1, rfl, .inl rfl⟩, B0 _⟩
    | (refine ⟨⟨_, rfl, .inr ⟨by assumption, ?_⟩⟩, hB1⟩; unfold Al.sz; rcases hr1 with g1 | ⟨_, g1⟩ <;> omega)

end Go.Proofs.Ytofmgaebgojonaa
