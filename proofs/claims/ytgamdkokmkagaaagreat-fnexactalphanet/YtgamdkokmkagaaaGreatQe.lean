/-
  OUR OWN TEXT. Nt0, Nt2e, one behind the other.
-/
import Derived.Test.YtgamdkokmkagaaaGreatKe
import Derived.Test.YtgamdkokmkagaaaGreatQa
import Derived.Test.YtgamdkokmkagaaaGreatQd
namespace Go.Proofs.YtgamdkokmkagaaaGreat
open Go.RowKit
attribute [local go_sem ↓] Go.wp_at_zero Go.wp_at_succ

def Il.R (q : Option Nat) (w : World) (r : List Value) (xs : List Int) : Prop := ∃ a c, r = [.slice a xs.length c] ∧ IntsAt q w a xs
abbrev IlsAt (q : Option Nat) (w : World) (a : Option Addr) (xss : List (List Int)) : Prop := RowsAt (Il.R q) q 48 1 w a xss
theorem IlsAt.below {q : Option Nat} {w w' : World} {a : Option Addr} {xs : List (List Int)} (h : IlsAt q w a xs) (hb : Below w.heap.size w w') : IlsAt q w' a xs := RowsAt.below h (fun _ _ _ ⟨a, c, e, h⟩ => ⟨a, c, e, h.below hb⟩) hb
theorem IlsAt.older {B B' : Nat} (hB : B' ≤ B) {w : World} {a : Option Addr} {xs : List (List Int)} (h : IlsAt (some B) w a xs) : IlsAt (some B') w a xs := RowsAt.weak h (fun _ => Qb.older hB) (fun _ _ _ ⟨a, c, e, h⟩ => ⟨a, c, e, h.older hB⟩)
theorem IlsAt.bare {q : Option Nat} {w : World} {a : Option Addr} {xs : List (List Int)} (h : IlsAt q w a xs) : IlsAt none w a xs := RowsAt.weak h (fun b _ => Qb.bare _ _ b) (fun _ _ _ ⟨a, c, e, h⟩ => ⟨a, c, e, h.bare⟩)
theorem IlsAt.low {B : Nat} {w w' : World} {a : Option Addr} {xs : List (List Int)} (h : IlsAt (some B) w a xs) (hb : Low B w w') : IlsAt (some B) w' a xs := RowsAt.low h (fun _ _ _ ⟨a, c, e, h⟩ => ⟨a, c, e, h.low hb⟩) hb
theorem IlsAt.get {q : Option Nat} {w : World} {a : Option Addr} {xss : List (List Int)} {i : Nat} {xs : List Int} (h : IlsAt q w a xss) (hi : xss[i]? = some xs) : ∃ b o a' c', a = some ⟨b, o, none⟩ ∧ Qb q w 48 b ∧ w.cell? ⟨b, o + i, none⟩ = some (.slice a' xs.length c') ∧ IntsAt q w a' xs := by
  obtain ⟨b, o, r, h1, h2, h3, h4, h5⟩ := h i xs hi
  obtain ⟨a', c', rfl, h6⟩ := h5
  exact ⟨b, o, a', c', h1, h2, by simpa using h4 0 _ rfl, h6⟩
def Il.le (N : Nat) (xs : List Int) : Prop := xs.length ≤ N
def Il.sz (xs : List Int) : Nat := xs.length
theorem Il.le_sz (N : Nat) (xs : List Int) (h : Il.sz xs ≤ N) : Il.le N xs := h
theorem OLL.ils {w : World} {base : Nat} {a : Option Addr} {n c : Nat} {xss : List (List Int)} {vs : List Value} (h : OLL w base (.slice a n c) n xss vs) : IlsAt none w a xss := by
  intro i xs hx
  obtain ⟨b, o, a', c', e, hc, hi⟩ := h.at i xs hx
  refine ⟨b, o, [.slice a' xs.length c'], e, Qb.bare _ _ _, rfl, ?_, ⟨a', c', rfl, hi⟩⟩
  intro j v hj
  have hj0 : j = 0 := by
    have := (List.getElem?_eq_some_iff.1 hj).1
    simp at this
    exact this
  subst hj0
  simp at hj
  subst hj
  simpa using hc

set_option maxHeartbeats 1600000 in
theorem eqIntSS_same (a a' : Option Addr) (c c' : Nat) (xs : List (List Int)) (w : World) {q q' : Option Nat} (hv : IlsAt q w a xs) (hv' : IlsAt q' w a' xs) (hs : ListLe Il.le 1048576 xs) :
    Calls Tryz.prog 22 #[.slice a xs.length c, .slice a' xs.length c'] w fun e w' =>
      e = .returned (.bool true) ∧ Below w.heap.size w w' := by
  obtain ⟨hl, hs⟩ := hs
  go_enter Tryz.func22, Tryz.ntmps22
  go_wp2
  go_loopw [5] (fun i wr => ∃ (k : Nat), k ≤ xs.length ∧ i = .int .i64 k ∧ Below w.heap.size w wr) (fun i _ => xs.length - (intOf i).toNat)
  case atStart => exact ⟨0, by omega, rfl, Below.refl _ _⟩
  case round =>
    obtain ⟨k, hk, rfl, hb⟩ := hrel
    by_cases hkl : k < xs.length
    · obtain ⟨x, hxk⟩ : ∃ x, xs[k]? = some x := ⟨xs[k], by simp [hkl]⟩
      obtain ⟨b, o, a1, c1, ea, hq, c0, hi⟩ := (hv.below hb).get hxk
      subst ea
      obtain ⟨b', o', a2, c2, ea, hq', d0, hi'⟩ := (hv'.below hb).get hxk
      subst ea
      have z0 : (0 : Int) ≤ (k : Int) := by omega
      have z1 : (k : Int) < (xs.length : Int) := by omega
      have hsx : x.length ≤ 1048576 := hs x (List.mem_of_getElem? hxk)
      have B1 : Below wr.heap.size wr wr.drew := (Below.refl _ _).drew
      go_wp2
      go_region_held3 (fun w' => w'.cell? ⟨b, o + k, none⟩ = some (.slice a1 x.length c1) ∧ w'.cell? ⟨b', o' + k, none⟩ = some (.slice a2 x.length c2)) ((go_split_ands; refine ⟨?_, ?_⟩ <;> first | (simp [*]; done) | exact cell_below hb' (by simp [*])))
        (first | (go_at_call 45; refine (eqIntS_same a1 a2 c1 c2 x _ (hi.below B1) (hi'.below B1) hsx).mono ?_; rintro e w' ⟨rfl, hb'⟩))
      go_wp2
      go_roundw
      case rel => exact ⟨k + 1, by omega, by go_num, hb.drew.trans (hb'.mono hb.size)⟩
      case measure => simp [intOf]; omega
    · go_wp2
      go_ret
      exact ⟨rfl, hb⟩

end Go.Proofs.YtgamdkokmkagaaaGreat

namespace Go.Proofs.YtgamdkokmkagaaaGreat
open Go.RowKit
attribute [local go_sem ↓] Go.wp_at_zero Go.wp_at_succ

structure Nt where
  als : List Al
  of : List (List Int)
def Nt.R (q : Option Nat) (w : World) (r : List Value) (x : Nt) : Prop := ∃ a_als c_als a_of c_of, r = [.slice a_als x.als.length c_als, .slice a_of x.of.length c_of] ∧ AlsAt q w a_als x.als ∧ IlsAt q w a_of x.of
abbrev NtsAt (q : Option Nat) (w : World) (a : Option Addr) (xs : List Nt) : Prop := RowsAt (Nt.R q) q 27 2 w a xs
theorem NtsAt.below {q : Option Nat} {w w' : World} {a : Option Addr} {xs : List Nt} (h : NtsAt q w a xs) (hb : Below w.heap.size w w') : NtsAt q w' a xs := RowsAt.below h (fun _ _ _ ⟨a_als, c_als, a_of, c_of, e, h_als, h_of⟩ => ⟨a_als, c_als, a_of, c_of, e, h_als.below hb, h_of.below hb⟩) hb
theorem NtsAt.low {B : Nat} {w w' : World} {a : Option Addr} {xs : List Nt} (h : NtsAt (some B) w a xs) (hb : Low B w w') : NtsAt (some B) w' a xs := RowsAt.low h (fun _ _ _ ⟨a_als, c_als, a_of, c_of, e, h_als, h_of⟩ => ⟨a_als, c_als, a_of, c_of, e, h_als.low hb, h_of.low hb⟩) hb
theorem NtsAt.older {B B' : Nat} (hB : B' ≤ B) {w : World} {a : Option Addr} {xs : List Nt} (h : NtsAt (some B) w a xs) : NtsAt (some B') w a xs := RowsAt.weak h (fun _ => Qb.older hB) (fun _ _ _ ⟨a_als, c_als, a_of, c_of, e, h_als, h_of⟩ => ⟨a_als, c_als, a_of, c_of, e, h_als.older hB, h_of.older hB⟩)
theorem NtsAt.bare {q : Option Nat} {w : World} {a : Option Addr} {xs : List Nt} (h : NtsAt q w a xs) : NtsAt none w a xs := RowsAt.weak h (fun b _ => Qb.bare _ _ b) (fun _ _ _ ⟨a_als, c_als, a_of, c_of, e, h_als, h_of⟩ => ⟨a_als, c_als, a_of, c_of, e, h_als.bare, h_of.bare⟩)
theorem NtsAt.get {q : Option Nat} {w : World} {a : Option Addr} {xs : List Nt} {i : Nat} {x : Nt} (h : NtsAt q w a xs) (hi : xs[i]? = some x) : ∃ b o a_als c_als a_of c_of, a = some ⟨b, o, none⟩ ∧ Qb q w 27 b ∧ w.cell? ⟨b, o + i * 2, none⟩ = some (.slice a_als x.als.length c_als) ∧ w.cell? ⟨b, o + i * 2 + 1, none⟩ = some (.slice a_of x.of.length c_of) ∧ AlsAt q w a_als x.als ∧ IlsAt q w a_of x.of := by
  obtain ⟨b, o, r, h1, h2, h3, h4, h5⟩ := h i x hi
  obtain ⟨a_als, c_als, a_of, c_of, rfl, h_als, h_of⟩ := h5
  exact ⟨b, o, a_als, c_als, a_of, c_of, h1, h2, h4 0 _ rfl, h4 1 _ rfl, h_als, h_of⟩
def Nt.le (N : Nat) (x : Nt) : Prop := ListLe Al.le N x.als ∧ ListLe Il.le N x.of
set_option maxHeartbeats 800000 in
theorem eqNet_same (x : Nt) (a_als a_als' : Option Addr) (c_als c_als' : Nat) (a_of a_of' : Option Addr) (c_of c_of' : Nat) {q q' : Option Nat} (w : World) (h_als : AlsAt q w a_als x.als) (h_als' : AlsAt q' w a_als' x.als) (h_of : IlsAt q w a_of x.of) (h_of' : IlsAt q' w a_of' x.of) (hs : x.le 1048576) :
    Calls Tryz.prog 8 #[.agg #[.slice a_als x.als.length c_als, .slice a_of x.of.length c_of], .agg #[.slice a_als' x.als.length c_als', .slice a_of' x.of.length c_of']] w fun e w' =>
      e = .returned (.bool true) ∧ Below w.heap.size w w' := by
  obtain ⟨s_als, s_of⟩ := hs
  have B0 : ∀ o o', Below w.heap.size w ((w.alloc o).alloc o') := fun o o' => ((Below.refl _ _).alloc (Nat.le_refl _) _).alloc (by simp) _
  go_enter Tryz.func8, Tryz.ntmps8
  go_wp2_with (first | (go_at_call 21; refine (eqAlphaS_same a_als a_als' c_als c_als' x.als _ (h_als.below (B0 _ _)) (h_als'.below (B0 _ _)) s_als).mono ?_; rintro e w1 ⟨rfl, hb1⟩; have hB1 : Below w.heap.size w w1 := (B0 _ _).trans (hb1.mono (by simp; omega)); have p1_1 : w1.cell? ⟨w.heap.size, 1, none⟩ = some (.slice a_of x.of.length c_of) := cell_below hb1 (by simp [go_sem]); have q1_1 : w1.cell? ⟨w.heap.size + 1, 1, none⟩ = some (.slice a_of' x.of.length c_of') := cell_below hb1 (by simp [go_sem])) | (go_at_call 22; refine (eqIntSS_same a_of a_of' c_of c_of' x.of _ (h_of.below (hB1)) (h_of'.below (hB1)) s_of).mono ?_; rintro e w2 ⟨rfl, hb2⟩; have hB2 : Below w.heap.size w w2 := (hB1).trans (hb2.mono (hB1.size))))
  go_ret
  exact ⟨rfl, hB2⟩

end Go.Proofs.YtgamdkokmkagaaaGreat
