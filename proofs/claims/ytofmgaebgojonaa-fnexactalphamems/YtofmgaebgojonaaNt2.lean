/-
  OUR OWN TEXT. A Net as plain data; the laws' own counts, comparisons, copies of one (made by lawgen3.py).
-/
import Derived.Test.YtofmgaebgojonaaNt1
import Derived.Test.YtofmgaebgojonaaAlL
namespace Go.Proofs.Ytofmgaebgojonaa
open Go.RowKit
attribute [local go_sem ↓] Go.wp_at_zero Go.wp_at_succ

structure Nt where
  als : List Al
  of : List (List Int)
def Nt.R (q : Option Nat) (w : World) (r : List Value) (x : Nt) : Prop := ∃ a_als c_als a_of c_of, r = [.slice a_als x.als.length c_als, .slice a_of x.of.length c_of] ∧ AlsAt q w a_als x.als ∧ IlsAt q w a_of x.of
abbrev NtsAt (q : Option Nat) (w : World) (a : Option Addr) (xs : List Nt) : Prop := RowsAt (Nt.R q) q 100 2 w a xs
theorem NtsAt.below {q : Option Nat} {w w' : World} {a : Option Addr} {xs : List Nt} (h : NtsAt q w a xs) (hb : Below w.heap.size w w') : NtsAt q w' a xs := RowsAt.below h (fun _ _ _ ⟨a_als, c_als, a_of, c_of, e, h_als, h_of⟩ => ⟨a_als, c_als, a_of, c_of, e, h_als.below hb, h_of.below hb⟩) hb
theorem NtsAt.low {B : Nat} {w w' : World} {a : Option Addr} {xs : List Nt} (h : NtsAt (some B) w a xs) (hb : Low B w w') : NtsAt (some B) w' a xs := RowsAt.low h (fun _ _ _ ⟨a_als, c_als, a_of, c_of, e, h_als, h_of⟩ => ⟨a_als, c_als, a_of, c_of, e, h_als.low hb, h_of.low hb⟩) hb
theorem NtsAt.older {B B' : Nat} (hB : B' ≤ B) {w : World} {a : Option Addr} {xs : List Nt} (h : NtsAt (some B) w a xs) : NtsAt (some B') w a xs := RowsAt.weak h (fun _ => Qb.older hB) (fun _ _ _ ⟨a_als, c_als, a_of, c_of, e, h_als, h_of⟩ => ⟨a_als, c_als, a_of, c_of, e, h_als.older hB, h_of.older hB⟩)
theorem NtsAt.bare {q : Option Nat} {w : World} {a : Option Addr} {xs : List Nt} (h : NtsAt q w a xs) : NtsAt none w a xs := RowsAt.weak h (fun b _ => Qb.bare _ _ b) (fun _ _ _ ⟨a_als, c_als, a_of, c_of, e, h_als, h_of⟩ => ⟨a_als, c_als, a_of, c_of, e, h_als.bare, h_of.bare⟩)
theorem NtsAt.get {q : Option Nat} {w : World} {a : Option Addr} {xs : List Nt} {i : Nat} {x : Nt} (h : NtsAt q w a xs) (hi : xs[i]? = some x) : ∃ b o a_als c_als a_of c_of, a = some ⟨b, o, none⟩ ∧ Qb q w 100 b ∧ w.cell? ⟨b, o + i * 2, none⟩ = some (.slice a_als x.als.length c_als) ∧ w.cell? ⟨b, o + i * 2 + 1, none⟩ = some (.slice a_of x.of.length c_of) ∧ AlsAt q w a_als x.als ∧ IlsAt q w a_of x.of := by
  obtain ⟨b, o, r, h1, h2, h3, h4, h5⟩ := h i x hi
  obtain ⟨a_als, c_als, a_of, c_of, rfl, h_als, h_of⟩ := h5
  exact ⟨b, o, a_als, c_als, a_of, c_of, h1, h2, h4 0 _ rfl, h4 1 _ rfl, h_als, h_of⟩
def Nt.sz (x : Nt) : Nat := szL Al.sz x.als + szL Il.sz x.of
def Nt.le (N : Nat) (x : Nt) : Prop := ListLe Al.le N x.als ∧ ListLe Il.le N x.of
theorem Nt.le_sz (N : Nat) (x : Nt) (h : x.sz ≤ N) : x.le N := by
  unfold Nt.sz at h
  exact ⟨listLe Al.le_sz (by omega), listLe Il.le_sz (by omega)⟩

set_option maxHeartbeats 800000 in
theorem szNet_any (x : Nt) (a_als : Option Addr) (c_als : Nat) (a_of : Option Addr) (c_of : Nat) {q : Option Nat} (left : Int) (w : World) (h_als : AlsAt q w a_als x.als) (h_of : IlsAt q w a_of x.of) (hs : x.le maxLen) (h0 : 0 ≤ left) (h1 : left ≤ 1048576) :
    Calls Try.prog 52 #[.agg #[.slice a_als x.als.length c_als, .slice a_of x.of.length c_of], .int .i64 left] w fun e w' =>
      (∃ r : Int, e = .returned (.int .i64 r) ∧ Left r left x.sz) ∧ Below w.heap.size w w' := by
  obtain ⟨s_als, s_of⟩ := hs
  have B0 : ∀ o, Below w.heap.size w (w.alloc o) := fun o => (Below.refl _ _).alloc (Nat.le_refl _) _
  go_enter Try.func52, Try.ntmps52
  go_wp2_with (first | (go_at_call 104; refine (szAlphaS_any a_als c_als x.als _ _ (h_als.below (B0 _)) s_als (by omega) (by omega)).mono ?_; rintro e w1 ⟨⟨r1, rfl, hr1⟩, hb1⟩; have u1 : r1 ≤ 1048576 := (by rcases hr1 with g | ⟨_, g⟩ <;> omega); have hB1 : Below w.heap.size w w1 := (B0 _).trans (hb1.mono (by simp)); have q1_1 : w1.cell? ⟨w.heap.size, 1, none⟩ = some (.slice a_of x.of.length c_of) := cell_below hb1 (by simp [go_sem])) | (go_at_call 105; refine (szIntSS_any a_of c_of x.of _ _ (h_of.below (hB1)) s_of (by omega) (by omega)).mono ?_; rintro e w2 ⟨⟨r2, rfl, hr2⟩, hb2⟩; have u2 : r2 ≤ 1048576 := (by rcases hr2 with g | ⟨_, g⟩ <;> omega); have hB2 : Below w.heap.size w w2 := (hB1).trans (hb2.mono (hB1).size)))
  all_goals go_ret
  all_goals first
    | exact ⟨⟨-1, rfl, .inl rfl⟩, hB2⟩
    | exact ⟨⟨-1, rfl, .inl rfl⟩, hB1⟩
    | exact ⟨⟨-1, rfl, .inl rfl⟩, B0 _⟩
    | (refine ⟨⟨_, rfl, .inr ⟨by assumption, ?_⟩⟩, hB2⟩; unfold Nt.sz; rcases hr1 with g1 | ⟨_, g1⟩ <;> rcases hr2 with g2 | ⟨_, g2⟩ <;> omega)

set_option maxHeartbeats 800000 in
theorem eqNet_same (x : Nt) (a_als a_als' : Option Addr) (c_als c_als' : Nat) (a_of a_of' : Option Addr) (c_of c_of' : Nat) {q q' : Option Nat} (w : World) (h_als : AlsAt q w a_als x.als) (h_als' : AlsAt q' w a_als' x.als) (h_of : IlsAt q w a_of x.of) (h_of' : IlsAt q' w a_of' x.of) (hs : x.le 1048576) :
    Calls Try.prog 59 #[.agg #[.slice a_als x.als.length c_als, .slice a_of x.of.length c_of], .agg #[.slice a_als' x.als.length c_als', .slice a_of' x.of.length c_of']] w fun e w' =>
      e = .returned (.bool true) ∧ Below w.heap.size w w' := by
  obtain ⟨s_als, s_of⟩ := hs
  have B0 : ∀ o o', Below w.heap.size w ((w.alloc o).alloc o') := fun o o' => ((Below.refl _ _).alloc (Nat.le_refl _) _).alloc (by simp) _
  go_enter Try.func59, Try.ntmps59
  go_wp2_with (first | (go_at_call 111; refine (eqAlphaS_same a_als a_als' c_als c_als' x.als _ (h_als.below (B0 _ _)) (h_als'.below (B0 _ _)) s_als).mono ?_; rintro e w1 ⟨rfl, hb1⟩; have hB1 : Below w.heap.size w w1 := (B0 _ _).trans (hb1.mono (by simp; omega)); have p1_1 : w1.cell? ⟨w.heap.size, 1, none⟩ = some (.slice a_of x.of.length c_of) := cell_below hb1 (by simp [go_sem]); have q1_1 : w1.cell? ⟨w.heap.size + 1, 1, none⟩ = some (.slice a_of' x.of.length c_of') := cell_below hb1 (by simp [go_sem])) | (go_at_call 58; refine (eqIntSS_same a_of a_of' c_of c_of' x.of _ (h_of.below (hB1)) (h_of'.below (hB1)) s_of).mono ?_; rintro e w2 ⟨rfl, hb2⟩; have hB2 : Below w.heap.size w w2 := (hB1).trans (hb2.mono (hB1.size))))
  go_ret
  exact ⟨rfl, hB2⟩

set_option maxHeartbeats 1600000 in
theorem toNet_any (x : Nt) (a_als : Option Addr) (c_als : Nat) (a_of : Option Addr) (c_of : Nat) {q : Option Nat} (w : World) (h_als : AlsAt q w a_als x.als) (h_of : IlsAt q w a_of x.of) (hs : x.le 1048576) :
    Calls Try.prog 55 #[.agg #[.slice a_als x.als.length c_als, .slice a_of x.of.length c_of]] w fun e w' =>
      (∃ a_als' c_als' a_of' c_of', e = .returned (.agg #[.slice a_als' x.als.length c_als', .slice a_of' x.of.length c_of']) ∧ AlsAt (some w.heap.size) w' a_als' x.als ∧ IlsAt (some w.heap.size) w' a_of' x.of) ∧ Below w.heap.size w w' := by
  obtain ⟨s_als, s_of⟩ := hs
  have B0 : ∀ o o1 o2, Below w.heap.size w (((w.alloc o).alloc o1).alloc o2) := fun o o1 o2 => (((Below.refl _ _).alloc (Nat.le_refl _) _).alloc (by simp) _).alloc (by simp; omega) _
  go_enter Try.func55, Try.ntmps55
  go_wp2_with (first | (go_at_call 106; refine (toAlphaS_any a_als c_als x.als _ (h_als.below (B0 _ _ _)) s_als).mono ?_; rintro e w1 ⟨⟨g1, hg1, rfl, ho1⟩, hb1⟩; have hB1 : Below w.heap.size w w1 := (B0 _ _ _).trans (hb1.mono (by first | (simp; done) | (simp; omega))); have n1 : w.heap.size + 1 + 1 < w1.heap.size := (by have := hb1.size; simp at this; omega); have z1_0 : w1.cell? ⟨w.heap.size + 1 + 1, 0, none⟩ = some (.slice none 0 0) := cell_below hb1 (by simp [go_sem]); have y1_0 : w1.cell? ⟨w.heap.size + 1, 0, none⟩ = some (.slice none 0 0) := cell_below hb1 (by simp [go_sem]); have p1_0 : w1.cell? ⟨w.heap.size, 0, none⟩ = some (.slice a_als x.als.length c_als) := cell_below hb1 (by simp [go_sem]); have zf1_0 : w1.frozen? ⟨w.heap.size + 1 + 1, 0, none⟩ = false := frozen_below hb1 (by simp) (by simp [go_sem]); have yf1_0 : w1.frozen? ⟨w.heap.size + 1, 0, none⟩ = false := frozen_below hb1 (by simp) (by simp [go_sem]); have z1_1 : w1.cell? ⟨w.heap.size + 1 + 1, 1, none⟩ = some (.slice none 0 0) := cell_below hb1 (by simp [go_sem]); have y1_1 : w1.cell? ⟨w.heap.size + 1, 1, none⟩ = some (.slice none 0 0) := cell_below hb1 (by simp [go_sem]); have p1_1 : w1.cell? ⟨w.heap.size, 1, none⟩ = some (.slice a_of x.of.length c_of) := cell_below hb1 (by simp [go_sem]); have zf1_1 : w1.frozen? ⟨w.heap.size + 1 + 1, 1, none⟩ = false := frozen_below hb1 (by simp) (by simp [go_sem]); have yf1_1 : w1.frozen? ⟨w.heap.size + 1, 1, none⟩ = false := frozen_below hb1 (by simp) (by simp [go_sem]); have k1_als : AlsAt (some (w.heap.size + 3)) w1 _ x.als := ho1.older (by first | (simp; done) | (simp; omega))) | (go_at_call 107; refine (toIntSS_any a_of c_of x.of _ (h_of.below ((hB1).setCell (by first | (simp; done) | (simp; omega)) _)) s_of).mono ?_; rintro e w2 ⟨⟨g2, hg2, rfl, ho2⟩, hb2⟩; have hB2 : Below w.heap.size w w2 := ((hB1).setCell (by first | (simp; done) | (simp; omega)) _).trans (hb2.mono (by first | (simp; done) | (simp; omega))); have n2 : w.heap.size + 1 + 1 < w2.heap.size := (by have := hb2.size; simp at this; omega); have z2_0 : w2.cell? ⟨w.heap.size + 1 + 1, 0, none⟩ = some (.slice (some ⟨g1, 0, none⟩) x.als.length x.als.length) := cell_below hb2 (by simp [go_sem, z1_0]); have y2_0 : w2.cell? ⟨w.heap.size + 1, 0, none⟩ = some (.slice none 0 0) := cell_below hb2 (by simp [go_sem, y1_0]); have p2_0 : w2.cell? ⟨w.heap.size, 0, none⟩ = some (.slice a_als x.als.length c_als) := cell_below hb2 (by simp [go_sem, p1_0]); have zf2_0 : w2.frozen? ⟨w.heap.size + 1 + 1, 0, none⟩ = false := frozen_below hb2 (by simp; omega) (by simp [go_sem, zf1_0]); have yf2_0 : w2.frozen? ⟨w.heap.size + 1, 0, none⟩ = false := frozen_below hb2 (by simp; omega) (by simp [go_sem, yf1_0]); have z2_1 : w2.cell? ⟨w.heap.size + 1 + 1, 1, none⟩ = some (.slice none 0 0) := cell_below hb2 (by simp [go_sem, z1_1]); have y2_1 : w2.cell? ⟨w.heap.size + 1, 1, none⟩ = some (.slice none 0 0) := cell_below hb2 (by simp [go_sem, y1_1]); have p2_1 : w2.cell? ⟨w.heap.size, 1, none⟩ = some (.slice a_of x.of.length c_of) := cell_below hb2 (by simp [go_sem, p1_1]); have zf2_1 : w2.frozen? ⟨w.heap.size + 1 + 1, 1, none⟩ = false := frozen_below hb2 (by simp; omega) (by simp [go_sem, zf1_1]); have yf2_1 : w2.frozen? ⟨w.heap.size + 1, 1, none⟩ = false := frozen_below hb2 (by simp; omega) (by simp [go_sem, yf1_1]); have k2_of : IlsAt (some (w.heap.size + 3)) w2 _ x.of := ho2.older (by first | (simp; done) | (simp; omega)); have k2_als := ((k1_als).low (Low.setCell (by omega) _)).below hb2))
  refine bodyPost_ret (v := .agg #[.slice (some ⟨g1, 0, none⟩) x.als.length x.als.length, .slice (some ⟨g2, 0, none⟩) x.of.length x.of.length]) (by simp [results, Try.results55, go_sem, y2_0, y2_1]) rfl ⟨⟨some ⟨g1, 0, none⟩, x.als.length, some ⟨g2, 0, none⟩, x.of.length, rfl, ?_, ?_⟩, ?_⟩
  · refine AlsAt.older (B := w.heap.size + 3) (by omega) ?_
    repeat refine AlsAt.low ?_ (Low.setCell (by omega) _)
    exact k2_als
  · refine IlsAt.older (B := w.heap.size + 3) (by omega) ?_
    repeat refine IlsAt.low ?_ (Low.setCell (by omega) _)
    exact k2_of
  · repeat refine Below.setCell ?_ (by first | (simp; done) | (simp; omega)) _
    exact hB2

end Go.Proofs.Ytofmgaebgojonaa
