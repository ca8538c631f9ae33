/-
  OUR OWN TEXT. Sz0, SzR, one behind the other.
-/
import Derived.Test.YtfgpcjdjbbhdmaaGreatDoorZa
import Derived.Test.YtfgpcjdjbbhdmaaGreatDoorZc
namespace Go.Proofs.YtfgpcjdjbbhdmaaGreatDoor
open Go.RowKit

/-- What the count leaves: -1, or no more than was there less n. -/
def Left (r left : Int) (n : Nat) : Prop := r = -1 ∨ 0 ≤ r ∧ r + n ≤ left

set_option maxHeartbeats 400000 in
theorem szValue_any (v : V) (left : Int) (w : World) (hs : v.sym.size ≤ maxLen) (h0 : 0 ≤ left) (h1 : left ≤ 1048576) :
    Calls Tryz.prog 163 #[.agg #[.int .i64 v.kind, .int .i64 v.num, .string v.sym], .int .i64 left] w fun e w' =>
      (∃ r : Int, e = .returned (.int .i64 r) ∧ Left r left (szV v)) ∧ Below w.heap.size w w' := by
  unfold maxLen at hs
  go_enter Tryz.func163, Tryz.ntmps163
  go_wp2
  all_goals go_ret
  · exact ⟨⟨-1, rfl, .inl rfl⟩, (Below.refl _ _).alloc (Nat.le_refl _) _⟩
  · exact ⟨⟨_, rfl, .inr ⟨by assumption, by unfold szV; omega⟩⟩, (Below.refl _ _).alloc (Nat.le_refl _) _⟩
end Go.Proofs.YtfgpcjdjbbhdmaaGreatDoor

namespace Go.Proofs.YtfgpcjdjbbhdmaaGreatDoor
open Go.RowKit

set_option maxHeartbeats 400000 in
theorem szIntS_any (a : Option Addr) (c : Nat) (xs : List Int) (left : Int) (w : World) (hl : xs.length ≤ maxLen) (h0 : 0 ≤ left) (h1 : left ≤ 1048576) :
    Calls Tryz.prog 164 #[.slice a xs.length c, .int .i64 left] w fun e w' =>
      (∃ r : Int, e = .returned (.int .i64 r) ∧ Left r left xs.length) ∧ Below w.heap.size w w' := by
  unfold maxLen at hl
  go_enter Tryz.func164, Tryz.ntmps164
  go_wp2
  all_goals go_ret
  · exact ⟨⟨-1, rfl, .inl rfl⟩, Below.refl _ _⟩
  · exact ⟨⟨_, rfl, .inr ⟨by assumption, by omega⟩⟩, Below.refl _ _⟩

set_option maxHeartbeats 800000 in
theorem szTerm_any (x : Tm) (left : Int) (w : World) (hs : x.le maxLen) (h0 : 0 ≤ left) (h1 : left ≤ 1048576) :
    Calls Tryz.prog 195 #[.agg #[.int .i64 x.kind, .int .i64 x.op, .string x.var, .int .i64 x.val.kind, .int .i64 x.val.num, .string x.val.sym], .int .i64 left] w fun e w' =>
      (∃ r : Int, e = .returned (.int .i64 r) ∧ Left r left x.sz) ∧ Below w.heap.size w w' := by
  obtain ⟨s_var, s_val⟩ := hs
  have t_var := s_var
  unfold maxLen at t_var
  have B0 : ∀ o, Below w.heap.size w (w.alloc o) := fun o => (Below.refl _ _).alloc (Nat.le_refl _) _
  go_enter Tryz.func195, Tryz.ntmps195
  go_wp2_with (go_at_call 163; refine (szValue_any x.val _ _ s_val (by omega) (by omega)).mono ?_; rintro e w1 ⟨⟨r1, rfl, hr1⟩, hb1⟩; have u1 : r1 ≤ 1048576 := (by rcases hr1 with g | ⟨_, g⟩ <;> omega); have hB1 : Below w.heap.size w w1 := (B0 _).trans (hb1.mono (by simp)))
  all_goals go_ret
  all_goals first
    | exact ⟨⟨-1, rfl, .inl rfl⟩, hB1⟩
    | exact ⟨⟨-1, rfl, .inl rfl⟩, B0 _⟩
    | (refine ⟨⟨_, rfl, .inr ⟨by assumption, ?_⟩⟩, hB1⟩; unfold Tm.sz; rcases hr1 with g1 | ⟨_, g1⟩ <;> omega)

set_option maxHeartbeats 800000 in
theorem szTermS_any (a : Option Addr) (c : Nat) (xs : List Tm) (left : Int) (w : World) {q : Option Nat} (hv : TmsAt q w a xs) (hs : ListLe Tm.le maxLen xs) (h0 : 0 ≤ left) (h1 : left ≤ 1048576) :
    Calls Tryz.prog 162 #[.slice a xs.length c, .int .i64 left] w fun e w' =>
      (∃ r : Int, e = .returned (.int .i64 r) ∧ Left r left (szL Tm.sz xs)) ∧ Below w.heap.size w w' := by
  obtain ⟨hl, hs⟩ := hs
  unfold maxLen at hl
  by_cases hlt : left < xs.length
  · go_enter Tryz.func162, Tryz.ntmps162
    go_wp2
    go_ret
    exact ⟨⟨-1, rfl, .inl rfl⟩, Below.refl _ _⟩
  · go_enter Tryz.func162, Tryz.ntmps162
    go_wp2
    go_loopw [1, 5] (fun l i wr => ∃ (k : Nat) (r : Int), k ≤ xs.length ∧ i = .int .i64 k ∧ l = .int .i64 r ∧ 0 ≤ r ∧ r + xs.length + ((xs.take k).map Tm.sz).sum ≤ left ∧ Below w.heap.size w wr) (fun _ i _ => xs.length - (intOf i).toNat)
    case atStart => exact ⟨0, _, by omega, rfl, rfl, by omega, by simp, Below.refl _ _⟩
    case round =>
      obtain ⟨k, r, hk, rfl, rfl, hr0, hr1, hb⟩ := hrel
      by_cases hkl : k < xs.length
      · obtain ⟨x, hxk⟩ : ∃ x, xs[k]? = some x := ⟨xs[k], by simp [hkl]⟩
        obtain ⟨b, o, rfl, hq, c0, c1, c2, c3, c4, c5⟩ := (hv.below hb).get hxk
        have hz := sum_take_succ Tm.sz xs k x hxk
        have HZ : Hid (((xs.take (k + 1)).map Tm.sz).sum = ((xs.take k).map Tm.sz).sum + Tm.sz x) := hz
        have hsx := hs x (List.mem_of_getElem? hxk)
        clear hz
        go_wp2_with (go_at_call 195; refine (szTerm_any x _ _ hsx (by omega) (by omega)).mono ?_; rintro e w' ⟨⟨r', rfl, hr'⟩, hb'⟩)
        · go_ret
          exact ⟨⟨-1, rfl, .inl rfl⟩, hb.trans (hb'.mono hb.size)⟩
        · go_roundw
          case rel =>
            refine ⟨k + 1, r', by omega, by go_num, rfl, by assumption, ?_, hb.trans (hb'.mono hb.size)⟩
            rw [HZ.out]
            rcases hr' with h | ⟨_, h⟩ <;> omega
          case measure => simp [intOf]; omega
      · go_wp2
        go_ret
        refine ⟨⟨r, rfl, .inr ⟨hr0, ?_⟩⟩, hb⟩
        rw [List.take_of_length_le (by omega)] at hr1
        unfold szL
        omega

set_option maxHeartbeats 800000 in
theorem szPattern_any (x : Pt) (a_terms : Option Addr) (c_terms : Nat) {q : Option Nat} (left : Int) (w : World) (h_terms : TmsAt q w a_terms x.terms) (hs : x.le maxLen) (h0 : 0 ≤ left) (h1 : left ≤ 1048576) :
    Calls Tryz.prog 127 #[.agg #[.bool x.neg, .string x.cls, .slice a_terms x.terms.length c_terms], .int .i64 left] w fun e w' =>
      (∃ r : Int, e = .returned (.int .i64 r) ∧ Left r left x.sz) ∧ Below w.heap.size w w' := by
  obtain ⟨s_cls, s_terms⟩ := hs
  have t_cls := s_cls
  unfold maxLen at t_cls
  have B0 : ∀ o, Below w.heap.size w (w.alloc o) := fun o => (Below.refl _ _).alloc (Nat.le_refl _) _
  go_enter Tryz.func127, Tryz.ntmps127
  go_wp2_with (go_at_call 162; refine (szTermS_any a_terms c_terms x.terms _ _ (h_terms.below (B0 _)) s_terms (by omega) (by omega)).mono ?_; rintro e w1 ⟨⟨r1, rfl, hr1⟩, hb1⟩; have u1 : r1 ≤ 1048576 := (by rcases hr1 with g | ⟨_, g⟩ <;> omega); have hB1 : Below w.heap.size w w1 := (B0 _).trans (hb1.mono (by simp)))
  all_goals go_ret
  all_goals first
    | exact ⟨⟨-1, rfl, .inl rfl⟩, hB1⟩
    | exact ⟨⟨-1, rfl, .inl rfl⟩, B0 _⟩
    | (refine ⟨⟨_, rfl, .inr ⟨by assumption, ?_⟩⟩, hB1⟩; unfold Pt.sz; rcases hr1 with g1 | ⟨_, g1⟩ <;> omega)

set_option maxHeartbeats 800000 in
theorem szPatternS_any (a : Option Addr) (c : Nat) (xs : List Pt) (left : Int) (w : World) {q : Option Nat} (hv : PtsAt q w a xs) (hs : ListLe Pt.le maxLen xs) (h0 : 0 ≤ left) (h1 : left ≤ 1048576) :
    Calls Tryz.prog 80 #[.slice a xs.length c, .int .i64 left] w fun e w' =>
      (∃ r : Int, e = .returned (.int .i64 r) ∧ Left r left (szL Pt.sz xs)) ∧ Below w.heap.size w w' := by
  obtain ⟨hl, hs⟩ := hs
  unfold maxLen at hl
  by_cases hlt : left < xs.length
  · go_enter Tryz.func80, Tryz.ntmps80
    go_wp2
    go_ret
    exact ⟨⟨-1, rfl, .inl rfl⟩, Below.refl _ _⟩
  · go_enter Tryz.func80, Tryz.ntmps80
    go_wp2
    go_loopw [1, 5] (fun l i wr => ∃ (k : Nat) (r : Int), k ≤ xs.length ∧ i = .int .i64 k ∧ l = .int .i64 r ∧ 0 ≤ r ∧ r + xs.length + ((xs.take k).map Pt.sz).sum ≤ left ∧ Below w.heap.size w wr) (fun _ i _ => xs.length - (intOf i).toNat)
    case atStart => exact ⟨0, _, by omega, rfl, rfl, by omega, by simp, Below.refl _ _⟩
    case round =>
      obtain ⟨k, r, hk, rfl, rfl, hr0, hr1, hb⟩ := hrel
      by_cases hkl : k < xs.length
      · obtain ⟨x, hxk⟩ : ∃ x, xs[k]? = some x := ⟨xs[k], by simp [hkl]⟩
        obtain ⟨b, o, a_terms, c_terms, rfl, hq, c0, c1, c2, h_terms⟩ := (hv.below hb).get hxk
        have hz := sum_take_succ Pt.sz xs k x hxk
        have HZ : Hid (((xs.take (k + 1)).map Pt.sz).sum = ((xs.take k).map Pt.sz).sum + Pt.sz x) := hz
        have hsx := hs x (List.mem_of_getElem? hxk)
        clear hz
        go_wp2_with (go_at_call 127; refine (szPattern_any x a_terms c_terms _ _ h_terms hsx (by omega) (by omega)).mono ?_; rintro e w' ⟨⟨r', rfl, hr'⟩, hb'⟩)
        · go_ret
          exact ⟨⟨-1, rfl, .inl rfl⟩, hb.trans (hb'.mono hb.size)⟩
        · go_roundw
          case rel =>
            refine ⟨k + 1, r', by omega, by go_num, rfl, by assumption, ?_, hb.trans (hb'.mono hb.size)⟩
            rw [HZ.out]
            rcases hr' with h | ⟨_, h⟩ <;> omega
          case measure => simp [intOf]; omega
      · go_wp2
        go_ret
        refine ⟨⟨r, rfl, .inr ⟨hr0, ?_⟩⟩, hb⟩
        rw [List.take_of_length_le (by omega)] at hr1
        unfold szL
        omega

set_option maxHeartbeats 800000 in
theorem szExpr_any (x : Ex) (left : Int) (w : World) (hs : x.le maxLen) (h0 : 0 ≤ left) (h1 : left ≤ 1048576) :
    Calls Tryz.prog 128 #[.agg #[.int .i64 x.kind, .int .u8 x.op, .string x.var, .int .i64 x.val.kind, .int .i64 x.val.num, .string x.val.sym, .int .i64 x.a, .int .i64 x.b], .int .i64 left] w fun e w' =>
      (∃ r : Int, e = .returned (.int .i64 r) ∧ Left r left x.sz) ∧ Below w.heap.size w w' := by
  obtain ⟨s_var, s_val⟩ := hs
  have t_var := s_var
  unfold maxLen at t_var
  have B0 : ∀ o, Below w.heap.size w (w.alloc o) := fun o => (Below.refl _ _).alloc (Nat.le_refl _) _
  go_enter Tryz.func128, Tryz.ntmps128
  go_wp2_with (go_at_call 163; refine (szValue_any x.val _ _ s_val (by omega) (by omega)).mono ?_; rintro e w1 ⟨⟨r1, rfl, hr1⟩, hb1⟩; have u1 : r1 ≤ 1048576 := (by rcases hr1 with g | ⟨_, g⟩ <;> omega); have hB1 : Below w.heap.size w w1 := (B0 _).trans (hb1.mono (by simp)))
  all_goals go_ret
  all_goals first
    | exact ⟨⟨-1, rfl, .inl rfl⟩, hB1⟩
    | exact ⟨⟨-1, rfl, .inl rfl⟩, B0 _⟩
    | (refine ⟨⟨_, rfl, .inr ⟨by assumption, ?_⟩⟩, hB1⟩; unfold Ex.sz; rcases hr1 with g1 | ⟨_, g1⟩ <;> omega)

set_option maxHeartbeats 800000 in
theorem szExprS_any (a : Option Addr) (c : Nat) (xs : List Ex) (left : Int) (w : World) {q : Option Nat} (hv : ExsAt q w a xs) (hs : ListLe Ex.le maxLen xs) (h0 : 0 ≤ left) (h1 : left ≤ 1048576) :
    Calls Tryz.prog 81 #[.slice a xs.length c, .int .i64 left] w fun e w' =>
      (∃ r : Int, e = .returned (.int .i64 r) ∧ Left r left (szL Ex.sz xs)) ∧ Below w.heap.size w w' := by
  obtain ⟨hl, hs⟩ := hs
  unfold maxLen at hl
  by_cases hlt : left < xs.length
  · go_enter Tryz.func81, Tryz.ntmps81
    go_wp2
    go_ret
    exact ⟨⟨-1, rfl, .inl rfl⟩, Below.refl _ _⟩
  · go_enter Tryz.func81, Tryz.ntmps81
    go_wp2
    go_loopw [1, 5] (fun l i wr => ∃ (k : Nat) (r : Int), k ≤ xs.length ∧ i = .int .i64 k ∧ l = .int .i64 r ∧ 0 ≤ r ∧ r + xs.length + ((xs.take k).map Ex.sz).sum ≤ left ∧ Below w.heap.size w wr) (fun _ i _ => xs.length - (intOf i).toNat)
    case atStart => exact ⟨0, _, by omega, rfl, rfl, by omega, by simp, Below.refl _ _⟩
    case round =>
      obtain ⟨k, r, hk, rfl, rfl, hr0, hr1, hb⟩ := hrel
      by_cases hkl : k < xs.length
      · obtain ⟨x, hxk⟩ : ∃ x, xs[k]? = some x := ⟨xs[k], by simp [hkl]⟩
        obtain ⟨b, o, rfl, hq, c0, c1, c2, c3, c4, c5, c6, c7⟩ := (hv.below hb).get hxk
        have hz := sum_take_succ Ex.sz xs k x hxk
        have HZ : Hid (((xs.take (k + 1)).map Ex.sz).sum = ((xs.take k).map Ex.sz).sum + Ex.sz x) := hz
        have hsx := hs x (List.mem_of_getElem? hxk)
        clear hz
        go_wp2_with (go_at_call 128; refine (szExpr_any x _ _ hsx (by omega) (by omega)).mono ?_; rintro e w' ⟨⟨r', rfl, hr'⟩, hb'⟩)
        · go_ret
          exact ⟨⟨-1, rfl, .inl rfl⟩, hb.trans (hb'.mono hb.size)⟩
        · go_roundw
          case rel =>
            refine ⟨k + 1, r', by omega, by go_num, rfl, by assumption, ?_, hb.trans (hb'.mono hb.size)⟩
            rw [HZ.out]
            rcases hr' with h | ⟨_, h⟩ <;> omega
          case measure => simp [intOf]; omega
      · go_wp2
        go_ret
        refine ⟨⟨r, rfl, .inr ⟨hr0, ?_⟩⟩, hb⟩
        rw [List.take_of_length_le (by omega)] at hr1
        unfold szL
        omega

set_option maxHeartbeats 800000 in
theorem szAction_any (x : Ac) (a_args : Option Addr) (c_args : Nat) (left : Int) (w : World) (hs : x.le maxLen) (h0 : 0 ≤ left) (h1 : left ≤ 1048576) :
    Calls Tryz.prog 129 #[.agg #[.int .i64 x.kind, .int .i64 x.k, .string x.cls, .slice a_args x.args.length c_args], .int .i64 left] w fun e w' =>
      (∃ r : Int, e = .returned (.int .i64 r) ∧ Left r left x.sz) ∧ Below w.heap.size w w' := by
  obtain ⟨s_cls, s_args⟩ := hs
  have t_cls := s_cls
  unfold maxLen at t_cls
  have B0 : ∀ o, Below w.heap.size w (w.alloc o) := fun o => (Below.refl _ _).alloc (Nat.le_refl _) _
  go_enter Tryz.func129, Tryz.ntmps129
  go_wp2_with (go_at_call 164; refine (szIntS_any a_args c_args x.args _ _ s_args (by omega) (by omega)).mono ?_; rintro e w1 ⟨⟨r1, rfl, hr1⟩, hb1⟩; have u1 : r1 ≤ 1048576 := (by rcases hr1 with g | ⟨_, g⟩ <;> omega); have hB1 : Below w.heap.size w w1 := (B0 _).trans (hb1.mono (by simp)))
  all_goals go_ret
  all_goals first
    | exact ⟨⟨-1, rfl, .inl rfl⟩, hB1⟩
    | exact ⟨⟨-1, rfl, .inl rfl⟩, B0 _⟩
    | (refine ⟨⟨_, rfl, .inr ⟨by assumption, ?_⟩⟩, hB1⟩; unfold Ac.sz; rcases hr1 with g1 | ⟨_, g1⟩ <;> omega)

set_option maxHeartbeats 800000 in
theorem szActionS_any (a : Option Addr) (c : Nat) (xs : List Ac) (left : Int) (w : World) {q : Option Nat} (hv : AcsAt q w a xs) (hs : ListLe Ac.le maxLen xs) (h0 : 0 ≤ left) (h1 : left ≤ 1048576) :
    Calls Tryz.prog 82 #[.slice a xs.length c, .int .i64 left] w fun e w' =>
      (∃ r : Int, e = .returned (.int .i64 r) ∧ Left r left (szL Ac.sz xs)) ∧ Below w.heap.size w w' := by
  obtain ⟨hl, hs⟩ := hs
  unfold maxLen at hl
  by_cases hlt : left < xs.length
  · go_enter Tryz.func82, Tryz.ntmps82
    go_wp2
    go_ret
    exact ⟨⟨-1, rfl, .inl rfl⟩, Below.refl _ _⟩
  · go_enter Tryz.func82, Tryz.ntmps82
    go_wp2
    go_loopw [1, 5] (fun l i wr => ∃ (k : Nat) (r : Int), k ≤ xs.length ∧ i = .int .i64 k ∧ l = .int .i64 r ∧ 0 ≤ r ∧ r + xs.length + ((xs.take k).map Ac.sz).sum ≤ left ∧ Below w.heap.size w wr) (fun _ i _ => xs.length - (intOf i).toNat)
    case atStart => exact ⟨0, _, by omega, rfl, rfl, by omega, by simp, Below.refl _ _⟩
    case round =>
      obtain ⟨k, r, hk, rfl, rfl, hr0, hr1, hb⟩ := hrel
      by_cases hkl : k < xs.length
      · obtain ⟨x, hxk⟩ : ∃ x, xs[k]? = some x := ⟨xs[k], by simp [hkl]⟩
        obtain ⟨b, o, a_args, c_args, rfl, hq, c0, c1, c2, c3, h_args⟩ := (hv.below hb).get hxk
        have hz := sum_take_succ Ac.sz xs k x hxk
        have HZ : Hid (((xs.take (k + 1)).map Ac.sz).sum = ((xs.take k).map Ac.sz).sum + Ac.sz x) := hz
        have hsx := hs x (List.mem_of_getElem? hxk)
        clear hz
        go_wp2_with (go_at_call 129; refine (szAction_any x a_args c_args _ _ hsx (by omega) (by omega)).mono ?_; rintro e w' ⟨⟨r', rfl, hr'⟩, hb'⟩)
        · go_ret
          exact ⟨⟨-1, rfl, .inl rfl⟩, hb.trans (hb'.mono hb.size)⟩
        · go_roundw
          case rel =>
            refine ⟨k + 1, r', by omega, by go_num, rfl, by assumption, ?_, hb.trans (hb'.mono hb.size)⟩
            rw [HZ.out]
            rcases hr' with h | ⟨_, h⟩ <;> omega
          case measure => simp [intOf]; omega
      · go_wp2
        go_ret
        refine ⟨⟨r, rfl, .inr ⟨hr0, ?_⟩⟩, hb⟩
        rw [List.take_of_length_le (by omega)] at hr1
        unfold szL
        omega

set_option maxHeartbeats 800000 in
theorem szRule_any (x : Ru) (a_pats : Option Addr) (c_pats : Nat) (a_exprs : Option Addr) (c_exprs : Nat) (a_acts : Option Addr) (c_acts : Nat) {q : Option Nat} (left : Int) (w : World) (h_pats : PtsAt q w a_pats x.pats) (h_exprs : ExsAt q w a_exprs x.exprs) (h_acts : AcsAt q w a_acts x.acts) (hs : x.le maxLen) (h0 : 0 ≤ left) (h1 : left ≤ 1048576) :
    Calls Tryz.prog 39 #[.agg #[.string x.name, .int .i64 x.sal, .slice a_pats x.pats.length c_pats, .slice a_exprs x.exprs.length c_exprs, .slice a_acts x.acts.length c_acts], .int .i64 left] w fun e w' =>
      (∃ r : Int, e = .returned (.int .i64 r) ∧ Left r left x.sz) ∧ Below w.heap.size w w' := by
  obtain ⟨s_name, s_pats, s_exprs, s_acts⟩ := hs
  have t_name := s_name
  unfold maxLen at t_name
  have B0 : ∀ o, Below w.heap.size w (w.alloc o) := fun o => (Below.refl _ _).alloc (Nat.le_refl _) _
  go_enter Tryz.func39, Tryz.ntmps39
  go_wp2_with (first | (go_at_call 80; refine (szPatternS_any a_pats c_pats x.pats _ _ (h_pats.below (B0 _)) s_pats (by omega) (by omega)).mono ?_; rintro e w1 ⟨⟨r1, rfl, hr1⟩, hb1⟩; have u1 : r1 ≤ 1048576 := (by rcases hr1 with g | ⟨_, g⟩ <;> omega); have hB1 : Below w.heap.size w w1 := (B0 _).trans (hb1.mono (by simp)); have q1_3 : w1.cell? ⟨w.heap.size, 3, none⟩ = some (.slice a_exprs x.exprs.length c_exprs) := cell_below hb1 (by simp [go_sem]); have q1_4 : w1.cell? ⟨w.heap.size, 4, none⟩ = some (.slice a_acts x.acts.length c_acts) := cell_below hb1 (by simp [go_sem])) | (go_at_call 81; refine (szExprS_any a_exprs c_exprs x.exprs _ _ (h_exprs.below (hB1)) s_exprs (by omega) (by omega)).mono ?_; rintro e w2 ⟨⟨r2, rfl, hr2⟩, hb2⟩; have u2 : r2 ≤ 1048576 := (by rcases hr2 with g | ⟨_, g⟩ <;> omega); have hB2 : Below w.heap.size w w2 := (hB1).trans (hb2.mono (hB1).size); have q2_4 := cell_below hb2 q1_4) | (go_at_call 82; refine (szActionS_any a_acts c_acts x.acts _ _ (h_acts.below (hB2)) s_acts (by omega) (by omega)).mono ?_; rintro e w3 ⟨⟨r3, rfl, hr3⟩, hb3⟩; have u3 : r3 ≤ 1048576 := (by rcases hr3 with g | ⟨_, g⟩ <;> omega); have hB3 : Below w.heap.size w w3 := (hB2).trans (hb3.mono (hB2).size)))
  all_goals go_ret
  all_goals first
    | exact ⟨⟨-1, rfl, .inl rfl⟩, hB3⟩
    | exact ⟨⟨-1, rfl, .inl rfl⟩, hB2⟩
    | exact ⟨⟨-1, rfl, .inl rfl⟩, hB1⟩
    | exact ⟨⟨-1, rfl, .inl rfl⟩, B0 _⟩
    | (refine ⟨⟨_, rfl, .inr ⟨by assumption, ?_⟩⟩, hB3⟩; unfold Ru.sz; rcases hr1 with g1 | ⟨_, g1⟩ <;> rcases hr2 with g2 | ⟨_, g2⟩ <;> rcases hr3 with g3 | ⟨_, g3⟩ <;> omega)

set_option maxHeartbeats 800000 in
theorem szRuleS_any (a : Option Addr) (c : Nat) (xs : List Ru) (left : Int) (w : World) {q : Option Nat} (hv : RusAt q w a xs) (hs : ListLe Ru.le maxLen xs) (h0 : 0 ≤ left) (h1 : left ≤ 1048576) :
    Calls Tryz.prog 19 #[.slice a xs.length c, .int .i64 left] w fun e w' =>
      (∃ r : Int, e = .returned (.int .i64 r) ∧ Left r left (szL Ru.sz xs)) ∧ Below w.heap.size w w' := by
  obtain ⟨hl, hs⟩ := hs
  unfold maxLen at hl
  by_cases hlt : left < xs.length
  · go_enter Tryz.func19, Tryz.ntmps19
    go_wp2
    go_ret
    exact ⟨⟨-1, rfl, .inl rfl⟩, Below.refl _ _⟩
  · go_enter Tryz.func19, Tryz.ntmps19
    go_wp2
    go_loopw [1, 5] (fun l i wr => ∃ (k : Nat) (r : Int), k ≤ xs.length ∧ i = .int .i64 k ∧ l = .int .i64 r ∧ 0 ≤ r ∧ r + xs.length + ((xs.take k).map Ru.sz).sum ≤ left ∧ Below w.heap.size w wr) (fun _ i _ => xs.length - (intOf i).toNat)
    case atStart => exact ⟨0, _, by omega, rfl, rfl, by omega, by simp, Below.refl _ _⟩
    case round =>
      obtain ⟨k, r, hk, rfl, rfl, hr0, hr1, hb⟩ := hrel
      by_cases hkl : k < xs.length
      · obtain ⟨x, hxk⟩ : ∃ x, xs[k]? = some x := ⟨xs[k], by simp [hkl]⟩
        obtain ⟨b, o, a_pats, c_pats, a_exprs, c_exprs, a_acts, c_acts, rfl, hq, c0, c1, c2, c3, c4, h_pats, h_exprs, h_acts, cap_exprs⟩ := (hv.below hb).get hxk
        have hz := sum_take_succ Ru.sz xs k x hxk
        have HZ : Hid (((xs.take (k + 1)).map Ru.sz).sum = ((xs.take k).map Ru.sz).sum + Ru.sz x) := hz
        have hsx := hs x (List.mem_of_getElem? hxk)
        clear hz
        go_wp2_with (go_at_call 39; refine (szRule_any x a_pats c_pats a_exprs c_exprs a_acts c_acts _ _ h_pats h_exprs h_acts hsx (by omega) (by omega)).mono ?_; rintro e w' ⟨⟨r', rfl, hr'⟩, hb'⟩)
        · go_ret
          exact ⟨⟨-1, rfl, .inl rfl⟩, hb.trans (hb'.mono hb.size)⟩
        · go_roundw
          case rel =>
            refine ⟨k + 1, r', by omega, by go_num, rfl, by assumption, ?_, hb.trans (hb'.mono hb.size)⟩
            rw [HZ.out]
            rcases hr' with h | ⟨_, h⟩ <;> omega
          case measure => simp [intOf]; omega
      · go_wp2
        go_ret
        refine ⟨⟨r, rfl, .inr ⟨hr0, ?_⟩⟩, hb⟩
        rw [List.take_of_length_le (by omega)] at hr1
        unfold szL
        omega

end Go.Proofs.YtfgpcjdjbbhdmaaGreatDoor
