/-
  OUR OWN TEXT. The laws' own counts, comparisons, copies of lists of Alphas (made by lawgen2.py).
-/
import Derived.Test.YtofmgaebgojonaaSzA
import Derived.Test.YtofmgaebgojonaaEqA
import Derived.Test.YtofmgaebgojonaaToA
import Derived.Deep.RegionHeld3
import Derived.Deep.DrawnRows
namespace Go.Proofs.Ytofmgaebgojonaa
open Go.RowKit
attribute [local go_sem ↓] Go.wp_at_zero Go.wp_at_succ

set_option maxHeartbeats 800000 in
theorem szAlphaS_any (a : Option Addr) (c : Nat) (xs : List Al) (left : Int) (w : World) {q : Option Nat} (hv : AlsAt q w a xs) (hs : ListLe Al.le maxLen xs) (h0 : 0 ≤ left) (h1 : left ≤ 1048576) :
    Calls Try.prog 104 #[.slice a xs.length c, .int .i64 left] w fun e w' =>
      (∃ r : Int, e = .returned (.int .i64 r) ∧ Left r left (szL Al.sz xs)) ∧ Below w.heap.size w w' := by
  obtain ⟨hl, hs⟩ := hs
  unfold maxLen at hl
  by_cases hlt : left < xs.length
  · go_enter Try.func104, Try.ntmps104
    go_wp2
    go_ret
    exact ⟨⟨-1, rfl, .inl rfl⟩, Below.refl _ _⟩
  · go_enter Try.func104, Try.ntmps104
    go_wp2
    go_loopw [1, 5] (fun l i wr => ∃ (k : Nat) (r : Int), k ≤ xs.length ∧ i = .int .i64 k ∧ l = .int .i64 r ∧ 0 ≤ r ∧ r + xs.length + ((xs.take k).map Al.sz).sum ≤ left ∧ Below w.heap.size w wr) (fun _ i _ => xs.length - (intOf i).toNat)
    case atStart => exact ⟨0, _, by omega, rfl, rfl, by omega, by simp, Below.refl _ _⟩
    case round =>
      obtain ⟨k, r, hk, rfl, rfl, hr0, hr1, hb⟩ := hrel
      by_cases hkl : k < xs.length
      · obtain ⟨x, hxk⟩ : ∃ x, xs[k]? = some x := ⟨xs[k], by simp [hkl]⟩
        obtain ⟨b, o, a_tests, c_tests, rfl, hq, c0, c1, c2, h_tests⟩ := (hv.below hb).get hxk
        have hz := sum_take_succ Al.sz xs k x hxk
        have HZ : Hid (((xs.take (k + 1)).map Al.sz).sum = ((xs.take k).map Al.sz).sum + Al.sz x) := hz
        have hsx := hs x (List.mem_of_getElem? hxk)
        clear hz
        go_wp2_with (go_at_call 45; refine (szAlpha_any x a_tests c_tests _ _ h_tests hsx (by omega) (by omega)).mono ?_; rintro e w' ⟨⟨r', rfl, hr'⟩, hb'⟩)
        · go_ret
          exact ⟨⟨-1, rfl, .inl rfl⟩, hb.trans (hb'.mono hb.size)⟩
        · go_roundw
          case rel =>
            refine ⟨k + 1, r', by omega, by go_num, rfl, by assumption, ?_, hb.trans (hb'.mono hb.size)⟩
            rw [HZ.out]
            rcases hr' with h | ⟨_, h⟩ <;> omega
          case measure => simp [intOf]; omega
      · go_wp2
        go_ret
        refine ⟨⟨r, rfl, .inr ⟨hr0, ?_⟩⟩, hb⟩
        rw [List.take_of_length_le (by omega)] at hr1
        unfold szL
        omega

set_option maxHeartbeats 1600000 in
theorem eqAlphaS_same (a a' : Option Addr) (c c' : Nat) (xs : List Al) (w : World) {q q' : Option Nat} (hv : AlsAt q w a xs) (hv' : AlsAt q' w a' xs) (hs : ListLe Al.le 1048576 xs) :
    Calls Try.prog 111 #[.slice a xs.length c, .slice a' xs.length c'] w fun e w' =>
      e = .returned (.bool true) ∧ Below w.heap.size w w' := by
  obtain ⟨hl, hs⟩ := hs
  go_enter Try.func111, Try.ntmps111
  go_wp2
  go_loopw [5] (fun i wr => ∃ (k : Nat), k ≤ xs.length ∧ i = .int .i64 k ∧ Below w.heap.size w wr) (fun i _ => xs.length - (intOf i).toNat)
  case atStart => exact ⟨0, by omega, rfl, Below.refl _ _⟩
  case round =>
    obtain ⟨k, hk, rfl, hb⟩ := hrel
    by_cases hkl : k < xs.length
    · obtain ⟨x, hxk⟩ : ∃ x, xs[k]? = some x := ⟨xs[k], by simp [hkl]⟩
      obtain ⟨b, o, a_tests, c_tests, rfl, hq, c0, c1, c2, h_tests⟩ := (hv.below hb).get hxk
      obtain ⟨b', o', a_tests', c_tests', rfl, hq', d0, d1, d2, h_tests'⟩ := (hv'.below hb).get hxk
      have z0 : (0 : Int) ≤ (k : Int) := by omega
      have z1 : (k : Int) < (xs.length : Int) := by omega
      have hsx := hs x (List.mem_of_getElem? hxk)
      have B1 : Below wr.heap.size wr wr.drew := (Below.refl _ _).drew
      go_wp2
      go_region_held3 (fun w' => w'.cell? ⟨b, o + k * 3, none⟩ = some (.string x.cls) ∧ w'.cell? ⟨b, o + k * 3 + 1, none⟩ = some (.int .i64 x.arity) ∧ w'.cell? ⟨b, o + k * 3 + 2, none⟩ = some (.slice a_tests x.tests.length c_tests) ∧ w'.cell? ⟨b', o' + k * 3, none⟩ = some (.string x.cls) ∧ w'.cell? ⟨b', o' + k * 3 + 1, none⟩ = some (.int .i64 x.arity) ∧ w'.cell? ⟨b', o' + k * 3 + 2, none⟩ = some (.slice a_tests' x.tests.length c_tests')) ((go_split_ands; refine ⟨?_, ?_, ?_, ?_, ?_, ?_⟩ <;> first | (simp [*]; done) | exact cell_below hb' (by simp [*])))
        (first | (go_at_call 40; refine (eqAlpha_same x a_tests a_tests' c_tests c_tests' _ (h_tests.below B1) (h_tests'.below B1) hsx).mono ?_; rintro e w' ⟨rfl, hb'⟩))
      go_wp2
      go_roundw
      case rel => exact ⟨k + 1, by omega, by go_num, hb.drew.trans (hb'.mono hb.size)⟩
      case measure => simp [intOf]; omega
    · go_wp2
      go_ret
      exact ⟨rfl, hb⟩

set_option maxHeartbeats 1600000 in
theorem toAlphaS_any (a : Option Addr) (c : Nat) (xs : List Al) (w : World) {q : Option Nat} (hv : AlsAt q w a xs) (hs : ListLe Al.le 1048576 xs) :
    Calls Try.prog 106 #[.slice a xs.length c] w fun e w' =>
      (∃ g, w.heap.size ≤ g ∧ e = .returned (.slice (some ⟨g, 0, none⟩) xs.length xs.length) ∧ AlsAt (some w.heap.size) w' (some ⟨g, 0, none⟩) xs) ∧ Below w.heap.size w w' := by
  obtain ⟨hl, hs⟩ := hs
  have hmk := run_make_agg (P := Try.prog) 98 66 _ 3 48 Try.underlying98 infoAl xs.length (by omega) (by omega)
  go_enter Try.func106, Try.ntmps106
  go_wp2
  clear hmk
  go_loopw [4] (fun i wr => ∃ (k : Nat), k ≤ xs.length ∧ i = .int .i64 k ∧ RowsOwn (Al.R (some (w.heap.size + 1))) 66 3 wr w.heap.size xs.length (xs.take k) ∧ Below w.heap.size w wr) (fun i _ => xs.length - (intOf i).toNat)
  case atStart => exact ⟨0, by omega, rfl, RowsOwn.start _ _, (Below.refl _ _).alloc (Nat.le_refl _) _⟩
  case round =>
    obtain ⟨k, hk, rfl, ho, hb⟩ := hrel
    by_cases hkl : k < xs.length
    · obtain ⟨x, hxk⟩ : ∃ x, xs[k]? = some x := ⟨xs[k], by simp [hkl]⟩
      obtain ⟨b, o, a_tests, c_tests, rfl, hq, c0, c1, c2, h_tests⟩ := (hv.below hb).get hxk
      have hsx := hs x (List.mem_of_getElem? hxk)
      go_wp2_with (go_at_call 48; refine (toAlpha_any x a_tests c_tests _ h_tests hsx).mono ?_; rintro e w' ⟨⟨a_tests', c_tests', rfl, k_tests⟩, hb'⟩; have ho' := RowsOwn.below (w' := w') ho (fun _ _ _ ⟨a_tests, c_tests, e, h_tests⟩ => ⟨a_tests, c_tests, e, h_tests.below hb'⟩) hb'; obtain ⟨x0, y0⟩ := ho'.room hkl 0 (by omega); have f0 := ho'.free (k * 3 + 0); obtain ⟨x1, y1⟩ := ho'.room hkl 1 (by omega); have f1 := ho'.free (k * 3 + 1); obtain ⟨x2, y2⟩ := ho'.room hkl 2 (by omega); have f2 := ho'.free (k * 3 + 2); simp only [Nat.add_zero] at y0 f0)
      go_roundw
      case rel =>
        refine ⟨k + 1, by omega, by go_num, ?_, (((hb.trans (hb'.mono hb.size)).setCell (by exact Nat.le_refl _) _).setCell (by exact Nat.le_refl _) _).setCell (by exact Nat.le_refl _) _⟩
        rw [take_succ' xs k x hxk]
        have hput := ho'.put (x := x) (r := [.string x.cls, .int .i64 x.arity, .slice a_tests' x.tests.length c_tests']) (k := k) (by simp; omega) hkl rfl (⟨a_tests', c_tests', rfl, k_tests.older (by have := ho.lt; omega)⟩) (fun _ _ _ ⟨a_tests, c_tests, e, h_tests⟩ => ⟨a_tests, c_tests, e, h_tests.low (Low.setCells (by omega) _ _ _)⟩)
        rw [setCells3] at hput
        exact hput
      case measure => simp [intOf]; omega
    · go_wp2
      go_ret
      rw [List.take_of_length_le (by omega)] at ho
      exact ⟨⟨w.heap.size, Nat.le_refl _, rfl, RowsAt.weak (ho.at (B := w.heap.size) (Nat.le_refl _)) (fun _ h => h) (fun _ _ _ ⟨a_tests, c_tests, e, h_tests⟩ => ⟨a_tests, c_tests, e, h_tests.older (by omega)⟩)⟩, hb⟩

end Go.Proofs.Ytofmgaebgojonaa
