/-
  OUR OWN TEXT. Lists of lists of numbers: the laws' own counts, comparisons, copies of them.
-/
import Derived.Test.YtofmgaebgojonaaSzR
import Derived.Test.YtofmgaebgojonaaEqR
import Derived.Test.YtofmgaebgojonaaToR
import Derived.Test.YtofmgaebgojonaaLl
namespace Go.Proofs.Ytofmgaebgojonaa
open Go.RowKit
attribute [local go_sem ↓] Go.wp_at_zero Go.wp_at_succ

def Il.R (q : Option Nat) (w : World) (r : List Value) (xs : List Int) : Prop := ∃ a c, r = [.slice a xs.length c] ∧ IntsAt q w a xs
abbrev IlsAt (q : Option Nat) (w : World) (a : Option Addr) (xss : List (List Int)) : Prop := RowsAt (Il.R q) q 140 1 w a xss
theorem IlsAt.below {q : Option Nat} {w w' : World} {a : Option Addr} {xs : List (List Int)} (h : IlsAt q w a xs) (hb : Below w.heap.size w w') : IlsAt q w' a xs := RowsAt.below h (fun _ _ _ ⟨a, c, e, h⟩ => ⟨a, c, e, h.below hb⟩) hb
theorem IlsAt.older {B B' : Nat} (hB : B' ≤ B) {w : World} {a : Option Addr} {xs : List (List Int)} (h : IlsAt (some B) w a xs) : IlsAt (some B') w a xs := RowsAt.weak h (fun _ => Qb.older hB) (fun _ _ _ ⟨a, c, e, h⟩ => ⟨a, c, e, h.older hB⟩)
theorem IlsAt.bare {q : Option Nat} {w : World} {a : Option Addr} {xs : List (List Int)} (h : IlsAt q w a xs) : IlsAt none w a xs := RowsAt.weak h (fun b _ => Qb.bare _ _ b) (fun _ _ _ ⟨a, c, e, h⟩ => ⟨a, c, e, h.bare⟩)
theorem IlsAt.low {B : Nat} {w w' : World} {a : Option Addr} {xs : List (List Int)} (h : IlsAt (some B) w a xs) (hb : Low B w w') : IlsAt (some B) w' a xs := RowsAt.low h (fun _ _ _ ⟨a, c, e, h⟩ => ⟨a, c, e, h.low hb⟩) hb
theorem IlsAt.get {q : Option Nat} {w : World} {a : Option Addr} {xss : List (List Int)} {i : Nat} {xs : List Int} (h : IlsAt q w a xss) (hi : xss[i]? = some xs) : ∃ b o a' c', a = some ⟨b, o, none⟩ ∧ Qb q w 140 b ∧ w.cell? ⟨b, o + i, none⟩ = some (.slice a' xs.length c') ∧ IntsAt q w a' xs := by
  obtain ⟨b, o, r, h1, h2, h3, h4, h5⟩ := h i xs hi
  obtain ⟨a', c', rfl, h6⟩ := h5
  exact ⟨b, o, a', c', h1, h2, by simpa using h4 0 _ rfl, h6⟩
def Il.le (N : Nat) (xs : List Int) : Prop := xs.length ≤ N
def Il.sz (xs : List Int) : Nat := xs.length
theorem Il.le_sz (N : Nat) (xs : List Int) (h : Il.sz xs ≤ N) : Il.le N xs := h
theorem OLL.ils {w : World} {base : Nat} {a : Option Addr} {n c : Nat} {xss : List (List Int)} {vs : List Value} (h : OLL w base (.slice a n c) n xss vs) : IlsAt none w a xss := by
  intro i xs hx
  obtain ⟨b, o, a', c', e, hc, hi⟩ := h.at i xs hx
  refine ⟨b, o, [.slice a' xs.length c'], e, Qb.bare _ _ _, rfl, ?_, ⟨a', c', rfl, hi⟩⟩
  intro j v hj
  have hj0 : j = 0 := by
    have := (List.getElem?_eq_some_iff.1 hj).1
    simp at this
    exact this
  subst hj0
  simp at hj
  subst hj
  simpa using hc

set_option maxHeartbeats 800000 in
theorem szIntSS_any (a : Option Addr) (c : Nat) (xs : List (List Int)) (left : Int) (w : World) {q : Option Nat} (hv : IlsAt q w a xs) (hs : ListLe Il.le maxLen xs) (h0 : 0 ≤ left) (h1 : left ≤ 1048576) :
    Calls Try.prog 105 #[.slice a xs.length c, .int .i64 left] w fun e w' =>
      (∃ r : Int, e = .returned (.int .i64 r) ∧ Left r left (szL Il.sz xs)) ∧ Below w.heap.size w w' := by
  obtain ⟨hl, hs⟩ := hs
  unfold maxLen at hl
  by_cases hlt : left < xs.length
  · go_enter Try.func105, Try.ntmps105
    go_wp2
    go_ret
    exact ⟨⟨-1, rfl, .inl rfl⟩, Below.refl _ _⟩
  · go_enter Try.func105, Try.ntmps105
    go_wp2
    go_loopw [1, 5] (fun l i wr => ∃ (k : Nat) (r : Int), k ≤ xs.length ∧ i = .int .i64 k ∧ l = .int .i64 r ∧ 0 ≤ r ∧ r + xs.length + ((xs.take k).map Il.sz).sum ≤ left ∧ Below w.heap.size w wr) (fun _ i _ => xs.length - (intOf i).toNat)
    case atStart => exact ⟨0, _, by omega, rfl, rfl, by omega, by simp, Below.refl _ _⟩
    case round =>
      obtain ⟨k, r, hk, rfl, rfl, hr0, hr1, hb⟩ := hrel
      by_cases hkl : k < xs.length
      · obtain ⟨x, hxk⟩ : ∃ x, xs[k]? = some x := ⟨xs[k], by simp [hkl]⟩
        obtain ⟨b, o, a', c', ea, hq, c0, hi⟩ := (hv.below hb).get hxk
        subst ea
        have hz := sum_take_succ Il.sz xs k x hxk
        have HZ : Hid (((xs.take (k + 1)).map Il.sz).sum = ((xs.take k).map Il.sz).sum + x.length) := hz
        have hsx : x.length ≤ maxLen := hs x (List.mem_of_getElem? hxk)
        clear hz
        go_wp2_with (go_at_call 152; refine (szIntS_any a' c' x _ _ hsx (by omega) (by omega)).mono ?_; rintro e w' ⟨⟨r', rfl, hr'⟩, hb'⟩)
        · go_ret
          exact ⟨⟨-1, rfl, .inl rfl⟩, hb.trans (hb'.mono hb.size)⟩
        · go_roundw
          case rel =>
            refine ⟨k + 1, r', by omega, by go_num, rfl, by assumption, ?_, hb.trans (hb'.mono hb.size)⟩
            rw [HZ.out]
            rcases hr' with h | ⟨_, h⟩ <;> omega
          case measure => simp [intOf]; omega
      · go_wp2
        go_ret
        refine ⟨⟨r, rfl, .inr ⟨hr0, ?_⟩⟩, hb⟩
        rw [List.take_of_length_le (by omega)] at hr1
        unfold szL
        omega

set_option maxHeartbeats 1600000 in
theorem eqIntSS_same (a a' : Option Addr) (c c' : Nat) (xs : List (List Int)) (w : World) {q q' : Option Nat} (hv : IlsAt q w a xs) (hv' : IlsAt q' w a' xs) (hs : ListLe Il.le 1048576 xs) :
    Calls Try.prog 58 #[.slice a xs.length c, .slice a' xs.length c'] w fun e w' =>
      e = .returned (.bool true) ∧ Below w.heap.size w w' := by
  obtain ⟨hl, hs⟩ := hs
  go_enter Try.func58, Try.ntmps58
  go_wp2
  go_loopw [5] (fun i wr => ∃ (k : Nat), k ≤ xs.length ∧ i = .int .i64 k ∧ Below w.heap.size w wr) (fun i _ => xs.length - (intOf i).toNat)
  case atStart => exact ⟨0, by omega, rfl, Below.refl _ _⟩
  case round =>
    obtain ⟨k, hk, rfl, hb⟩ := hrel
    by_cases hkl : k < xs.length
    · obtain ⟨x, hxk⟩ : ∃ x, xs[k]? = some x := ⟨xs[k], by simp [hkl]⟩
      obtain ⟨b, o, a1, c1, ea, hq, c0, hi⟩ := (hv.below hb).get hxk
      subst ea
      obtain ⟨b', o', a2, c2, ea, hq', d0, hi'⟩ := (hv'.below hb).get hxk
      subst ea
      have z0 : (0 : Int) ≤ (k : Int) := by omega
      have z1 : (k : Int) < (xs.length : Int) := by omega
      have hsx : x.length ≤ 1048576 := hs x (List.mem_of_getElem? hxk)
      have B1 : Below wr.heap.size wr wr.drew := (Below.refl _ _).drew
      go_wp2
      go_region_held3 (fun w' => w'.cell? ⟨b, o + k, none⟩ = some (.slice a1 x.length c1) ∧ w'.cell? ⟨b', o' + k, none⟩ = some (.slice a2 x.length c2)) ((go_split_ands; refine ⟨?_, ?_⟩ <;> first | (simp [*]; done) | exact cell_below hb' (by simp [*])))
        (first | (go_at_call 110; refine (eqIntS_same a1 a2 c1 c2 x _ (hi.below B1) (hi'.below B1) hsx).mono ?_; rintro e w' ⟨rfl, hb'⟩))
      go_wp2
      go_roundw
      case rel => exact ⟨k + 1, by omega, by go_num, hb.drew.trans (hb'.mono hb.size)⟩
      case measure => simp [intOf]; omega
    · go_wp2
      go_ret
      exact ⟨rfl, hb⟩

theorem infoLI' : (Try.prog.info? 140).map (fun i => (i.zero, i.size, i.bytes)) = some (some (.slice none 0 0), 1, 24) := by kernel_rfl
/-- 'make([][]int, n)'. -/
theorem run_make_ils (n : Nat) (hb : 24 * n ≤ 281474976710656) (w : World) :
    (Instr.makeSlice 92 (.int .i64 (n : Int)) (.int .i64 (n : Int))).run Try.prog w = .ok (.slice (some ⟨w.heap.size, 0, none⟩) n n) (w.alloc (.cells (madeCells #[.slice none 0 0] n) 140)) := by
  obtain ⟨i, hi, hz0, hz1, hz2⟩ := info_parts infoLI'
  have hr := run_make (P := Try.prog) w 92 140 i _ Try.underlying92 hi hz0 .i64 .i64 n n (by omega) (Int.le_refl _) (by rw [hz2]; omega) (by omega)
  simp only [Int.toNat_natCast, hz1, Value.cells, Nat.mul_one] at hr
  exact hr

set_option maxHeartbeats 1600000 in
theorem toIntSS_any (a : Option Addr) (c : Nat) (xs : List (List Int)) (w : World) {q : Option Nat} (hv : IlsAt q w a xs) (hs : ListLe Il.le 1048576 xs) :
    Calls Try.prog 107 #[.slice a xs.length c] w fun e w' =>
      (∃ g, w.heap.size ≤ g ∧ e = .returned (.slice (some ⟨g, 0, none⟩) xs.length xs.length) ∧ IlsAt (some w.heap.size) w' (some ⟨g, 0, none⟩) xs) ∧ Below w.heap.size w w' := by
  obtain ⟨hl, hs⟩ := hs
  have hmk := run_make_ils xs.length (by omega)
  go_enter Try.func107, Try.ntmps107
  go_wp2
  clear hmk
  go_loopw [4] (fun i wr => ∃ (k : Nat), k ≤ xs.length ∧ i = .int .i64 k ∧ RowsOwn (Il.R (some (w.heap.size + 1))) 140 1 wr w.heap.size xs.length (xs.take k) ∧ Below w.heap.size w wr) (fun i _ => xs.length - (intOf i).toNat)
  case atStart =>
    refine ⟨0, by omega, rfl, ?_, (Below.refl _ _).alloc (Nat.le_refl _) _⟩
    have := RowsOwn.start (R := Il.R (some (w.heap.size + 1))) (t := 140) (m := 1) (w := w) #[.slice none 0 0] xs.length
    rwa [Nat.mul_one] at this
  case round =>
    obtain ⟨k, hk, rfl, ho, hb⟩ := hrel
    by_cases hkl : k < xs.length
    · obtain ⟨x, hxk⟩ : ∃ x, xs[k]? = some x := ⟨xs[k], by simp [hkl]⟩
      obtain ⟨b, o, a1, c1, ea, hq, c0, hi⟩ := (hv.below hb).get hxk
      subst ea
      have hsx : x.length ≤ 1048576 := hs x (List.mem_of_getElem? hxk)
      go_wp2_with (go_at_call 153; refine (toIntS_any a1 c1 x _ hi hsx).mono ?_; rintro e w' ⟨⟨g1, hg1, rfl, ho1⟩, hb'⟩; have ho' := RowsOwn.below (w' := w') ho (fun _ _ _ ⟨a, c, e, h⟩ => ⟨a, c, e, h.below hb'⟩) hb'; obtain ⟨x0, y0⟩ := ho'.room hkl 0 (by omega); have f0 := ho'.free (k * 1 + 0); simp only [Nat.mul_one, Nat.add_zero] at y0 f0)
      go_roundw
      case rel =>
        refine ⟨k + 1, by omega, by go_num, ?_, (hb.trans (hb'.mono hb.size)).setCell (by exact Nat.le_refl _) _⟩
        rw [take_succ' xs k x hxk]
        have hput := ho'.put (x := x) (r := [.slice (some ⟨g1, 0, none⟩) x.length x.length]) (k := k) (by simp; omega) hkl rfl (⟨_, _, rfl, ho1.older (by have := ho.lt; omega)⟩) (fun _ _ _ ⟨a, c, e, h⟩ => ⟨a, c, e, h.low (Low.setCells (by omega) _ _ _)⟩)
        rw [Nat.mul_one] at hput
        exact hput
      case measure => simp [intOf]; omega
    · go_wp2
      go_ret
      rw [List.take_of_length_le (by omega)] at ho
      exact ⟨⟨w.heap.size, Nat.le_refl _, rfl, RowsAt.weak (ho.at (B := w.heap.size) (Nat.le_refl _)) (fun _ h => h) (fun _ _ _ ⟨a, c, e, h⟩ => ⟨a, c, e, h.older (by omega)⟩)⟩, hb⟩
end Go.Proofs.Ytofmgaebgojonaa
