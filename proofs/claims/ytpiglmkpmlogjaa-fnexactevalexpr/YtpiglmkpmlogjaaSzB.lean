/-
  OUR OWN TEXT. The laws' own counts of sizes: Binds and values of exprs (made by lawgen4.py).
-/
import Derived.Test.YtpiglmkpmlogjaaTyB
import Derived.Test.YtpiglmkpmlogjaaSzR
namespace Go.Proofs.Ytpiglmkpmlogjaa
open Go.RowKit

set_option maxHeartbeats 800000 in
theorem szBind_any (x : Bd) (left : Int) (w : World) (hs : x.le maxLen) (h0 : 0 ≤ left) (h1 : left ≤ 1048576) :
    Calls Try.prog 134 #[.agg #[.string x.var, .int .i64 x.val.kind, .int .i64 x.val.num, .string x.val.sym], .int .i64 left] w fun e w' =>
      (∃ r : Int, e = .returned (.int .i64 r) ∧ Left r left x.sz) ∧ Below w.heap.size w w' := by
  obtain ⟨s_var, s_val⟩ := hs
  have t_var := s_var
  unfold maxLen at t_var
  have B0 : ∀ o, Below w.heap.size w (w.alloc o) := fun o => (Below.refl _ _).alloc (Nat.le_refl _) _
  go_enter Try.func134, Try.ntmps134
  go_wp2_with (go_at_call 85; refine (szValue_any x.val _ _ s_val (by omega) (by omega)).mono ?_; rintro e w1 ⟨⟨r1, rfl, hr1⟩, hb1⟩; have u1 : r1 ≤ 1048576 := (by rcases hr1 with g | ⟨_, g⟩ <;> omega); have hB1 : Below w.heap.size w w1 := (B0 _).trans (hb1.mono (by simp)))
  all_goals go_ret
  all_goals first
    | exact ⟨⟨-1, rfl, .inl rfl⟩, hB1⟩
    | exact ⟨⟨-1, rfl, .inl rfl⟩, B0 _⟩
    | (refine ⟨⟨_, rfl, .inr ⟨by assumption, ?_⟩⟩, hB1⟩; unfold Bd.sz; rcases hr1 with g1 | ⟨_, g1⟩ <;> omega)

set_option maxHeartbeats 800000 in
theorem szBindS_any (a : Option Addr) (c : Nat) (xs : List Bd) (left : Int) (w : World) {q : Option Nat} (hv : BdsAt q w a xs) (hs : ListLe Bd.le maxLen xs) (h0 : 0 ≤ left) (h1 : left ≤ 1048576) :
    Calls Try.prog 74 #[.slice a xs.length c, .int .i64 left] w fun e w' =>
      (∃ r : Int, e = .returned (.int .i64 r) ∧ Left r left (szL Bd.sz xs)) ∧ Below w.heap.size w w' := by
  obtain ⟨hl, hs⟩ := hs
  unfold maxLen at hl
  by_cases hlt : left < xs.length
  · go_enter Try.func74, Try.ntmps74
    go_wp2
    go_ret
    exact ⟨⟨-1, rfl, .inl rfl⟩, Below.refl _ _⟩
  · go_enter Try.func74, Try.ntmps74
    go_wp2
    go_loopw [1, 5] (fun l i wr => ∃ (k : Nat) (r : Int), k ≤ xs.length ∧ i = .int .i64 k ∧ l = .int .i64 r ∧ 0 ≤ r ∧ r + xs.length + ((xs.take k).map Bd.sz).sum ≤ left ∧ Below w.heap.size w wr) (fun _ i _ => xs.length - (intOf i).toNat)
    case atStart => exact ⟨0, _, by omega, rfl, rfl, by omega, by simp, Below.refl _ _⟩
    case round =>
      obtain ⟨k, r, hk, rfl, rfl, hr0, hr1, hb⟩ := hrel
      by_cases hkl : k < xs.length
      · obtain ⟨x, hxk⟩ : ∃ x, xs[k]? = some x := ⟨xs[k], by simp [hkl]⟩
        obtain ⟨b, o, rfl, hq, c0, c1, c2, c3⟩ := (hv.below hb).get hxk
        have hz := sum_take_succ Bd.sz xs k x hxk
        have HZ : Hid (((xs.take (k + 1)).map Bd.sz).sum = ((xs.take k).map Bd.sz).sum + Bd.sz x) := hz
        have hsx := hs x (List.mem_of_getElem? hxk)
        clear hz
        go_wp2_with (go_at_call 134; refine (szBind_any x _ _ hsx (by omega) (by omega)).mono ?_; rintro e w' ⟨⟨r', rfl, hr'⟩, hb'⟩)
        · go_ret
          exact ⟨⟨-1, rfl, .inl rfl⟩, hb.trans (hb'.mono hb.size)⟩
        · go_roundw
          case rel =>
            refine ⟨k + 1, r', by omega, by go_num, rfl, by assumption, ?_, hb.trans (hb'.mono hb.size)⟩
            rw [HZ.out]
            rcases hr' with h | ⟨_, h⟩ <;> omega
          case measure => simp [intOf]; omega
      · go_wp2
        go_ret
        refine ⟨⟨r, rfl, .inr ⟨hr0, ?_⟩⟩, hb⟩
        rw [List.take_of_length_le (by omega)] at hr1
        unfold szL
        omega

end Go.Proofs.Ytpiglmkpmlogjaa
