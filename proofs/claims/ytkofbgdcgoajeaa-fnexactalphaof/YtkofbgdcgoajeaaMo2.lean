/-
  OUR OWN TEXT. Terms marked; the marks of a pattern and of an Alpha; a pattern's copy and how long it is.
-/
import Derived.Test.YtkofbgdcgoajeaaMo1
import Derived.Test.YtkofbgdcgoajeaaToR
namespace Go.Proofs.Ytkofbgdcgoajeaa
open Go.RowKit
attribute [local go_sem ↓] Go.wp_at_zero Go.wp_at_succ

set_option maxHeartbeats 1600000 in
theorem toPattern_len (x : Pt) (a_terms : Option Addr) (c_terms : Nat) {q : Option Nat} (w : World) (h_terms : TmsAt q w a_terms x.terms) (hs : x.le 1048576) :
    Calls Try.prog 37 #[.agg #[.bool x.neg, .string x.cls, .slice a_terms x.terms.length c_terms]] w fun e w' =>
      (∃ g, w.heap.size ≤ g ∧ e = .returned (.agg #[.bool x.neg, .string x.cls, .slice (some ⟨g, 0, none⟩) x.terms.length x.terms.length]) ∧ TmsAt (some w.heap.size) w' (some ⟨g, 0, none⟩) x.terms) ∧ Below w.heap.size w w' := by
  obtain ⟨s_cls, s_terms⟩ := hs
  have B0 : ∀ o o1 o2, Below w.heap.size w (((w.alloc o).alloc o1).alloc o2) := fun o o1 o2 => (((Below.refl _ _).alloc (Nat.le_refl _) _).alloc (by simp) _).alloc (by simp; omega) _
  go_enter Try.func37, Try.ntmps37
  go_wp2_with (go_at_call 81; refine (toTermS_any a_terms c_terms x.terms _ (h_terms.below (B0 _ _ _)) s_terms).mono ?_; rintro e w1 ⟨⟨g1, hg1, rfl, ho1⟩, hb1⟩; have hB1 : Below w.heap.size w w1 := (B0 _ _ _).trans (hb1.mono (by first | (simp; done) | (simp; omega))); have n1 : w.heap.size + 1 + 1 < w1.heap.size := (by have := hb1.size; simp at this; omega); have z1_0 : w1.cell? ⟨w.heap.size + 1 + 1, 0, none⟩ = some (.bool x.neg) := cell_below hb1 (by simp [go_sem]); have y1_0 : w1.cell? ⟨w.heap.size + 1, 0, none⟩ = some (.bool false) := cell_below hb1 (by simp [go_sem]); have p1_0 : w1.cell? ⟨w.heap.size, 0, none⟩ = some (.bool x.neg) := cell_below hb1 (by simp [go_sem]); have zf1_0 : w1.frozen? ⟨w.heap.size + 1 + 1, 0, none⟩ = false := frozen_below hb1 (by simp) (by simp [go_sem]); have yf1_0 : w1.frozen? ⟨w.heap.size + 1, 0, none⟩ = false := frozen_below hb1 (by simp) (by simp [go_sem]); have z1_1 : w1.cell? ⟨w.heap.size + 1 + 1, 1, none⟩ = some (.string x.cls) := cell_below hb1 (by simp [go_sem]); have y1_1 : w1.cell? ⟨w.heap.size + 1, 1, none⟩ = some (.string ⟨#[]⟩) := cell_below hb1 (by simp [go_sem]); have p1_1 : w1.cell? ⟨w.heap.size, 1, none⟩ = some (.string x.cls) := cell_below hb1 (by simp [go_sem]); have zf1_1 : w1.frozen? ⟨w.heap.size + 1 + 1, 1, none⟩ = false := frozen_below hb1 (by simp) (by simp [go_sem]); have yf1_1 : w1.frozen? ⟨w.heap.size + 1, 1, none⟩ = false := frozen_below hb1 (by simp) (by simp [go_sem]); have z1_2 : w1.cell? ⟨w.heap.size + 1 + 1, 2, none⟩ = some (.slice none 0 0) := cell_below hb1 (by simp [go_sem]); have y1_2 : w1.cell? ⟨w.heap.size + 1, 2, none⟩ = some (.slice none 0 0) := cell_below hb1 (by simp [go_sem]); have p1_2 : w1.cell? ⟨w.heap.size, 2, none⟩ = some (.slice a_terms x.terms.length c_terms) := cell_below hb1 (by simp [go_sem]); have zf1_2 : w1.frozen? ⟨w.heap.size + 1 + 1, 2, none⟩ = false := frozen_below hb1 (by simp) (by simp [go_sem]); have yf1_2 : w1.frozen? ⟨w.heap.size + 1, 2, none⟩ = false := frozen_below hb1 (by simp) (by simp [go_sem]); have k1_terms : TmsAt (some (w.heap.size + 3)) w1 _ x.terms := ho1.older (by first | (simp; done) | (simp; omega)))
  refine bodyPost_ret (v := .agg #[.bool x.neg, .string x.cls, .slice (some ⟨g1, 0, none⟩) x.terms.length x.terms.length]) (by simp [results, Try.results37, go_sem, y1_0, y1_1, y1_2]) rfl ⟨⟨g1, by simp at hg1; omega, rfl, ?_⟩, ?_⟩
  · refine TmsAt.older (B := w.heap.size + 3) (by omega) ?_
    repeat refine TmsAt.low ?_ (Low.setCell (by omega) _)
    exact k1_terms
  · repeat refine Below.setCell ?_ (by first | (simp; done) | (simp; omega)) _
    exact hB1


/-- The first N cells of block g are there, and none of the block is frozen. -/
def Room (w : World) (g N : Nat) : Prop := (∀ i, i < N → ∃ v, w.cell? ⟨g, i, none⟩ = some v) ∧ (∀ i, w.frozen? ⟨g, i, none⟩ = false) ∧ (0 < N → g < w.heap.size)
theorem Room.set {w : World} {g N : Nat} (h : Room w g N) (o : Nat) (x : Value) : Room (w.setCell ⟨g, o, none⟩ x) g N :=
  ⟨fun i hi => by
    obtain ⟨v, hv⟩ := h.1 i hi
    exact cell?_setCell_some hv, fun i => by have := h.2.1 i; simp [go_sem, this], fun h0 => by have := h.2.2 h0; simpa using this⟩
theorem Room.below {w w' : World} {g N : Nat} (h : Room w g N) (hb : Below w.heap.size w w') (hN : 0 < N) : Room w' g N :=
  ⟨fun i hi => by
    obtain ⟨v, hv⟩ := h.1 i hi
    exact ⟨v, cell_below hb hv⟩, fun i => by rw [(bcell hb).2 _ _ (h.2.2 hN)]; exact h.2.1 i, fun _ => Nat.lt_of_lt_of_le (h.2.2 hN) hb.size⟩
theorem TmsAt.room {B : Nat} {w : World} {g : Nat} {xs : List Tm} (h : TmsAt (some B) w (some ⟨g, 0, none⟩) xs) (hn : 0 < xs.length) : Room w g (xs.length * 6) := by
  have key : ∀ i, i < xs.length * 6 → ∃ v, w.cell? ⟨g, i, none⟩ = some v := by
    intro i hi
    have hq : i / 6 < xs.length := by omega
    obtain ⟨x, hx⟩ : ∃ x, xs[i / 6]? = some x := ⟨xs[i / 6], by simp [hq]⟩
    obtain ⟨b, o, r, e, _, hr, hc, _⟩ := h (i / 6) x hx
    cases e
    obtain ⟨v, hv⟩ : ∃ v, r[i % 6]? = some v := ⟨r[i % 6]'(by omega), by simp⟩
    refine ⟨v, ?_⟩
    have := hc (i % 6) v hv
    rwa [show 0 + i / 6 * 6 + i % 6 = i by omega] at this
  obtain ⟨x, hx⟩ : ∃ x, xs[0]? = some x := ⟨xs[0], by simp [hn]⟩
  obtain ⟨b, o, r, e, hQ, _⟩ := h 0 x hx
  cases e
  obtain ⟨_, c, hblk⟩ := hQ B rfl
  refine ⟨key, fun i => by simp [World.frozen?, hblk], fun _ => ?_⟩
  obtain ⟨v, hv⟩ := key 0 (by omega)
  exact World.block_lt_of_cell? w ⟨g, _, none⟩ hv

set_option maxHeartbeats 1600000 in
theorem markTermS_any (ob : Option Nat) (g n c : Nat) (hob : 0 < n → ob = some g) (k0 : Int) (w : World) (ho : 0 < n → Room w g (n * 6)) (hl : n ≤ 1048576) (hk : 0 < k0) (hk' : k0 + 6 * (n : Int) ≤ 100000000) :
    Calls Try.prog 87 #[.slice (some ⟨g, 0, none⟩) n c, .int .i64 k0] w fun e w' =>
      e = .returned (.int .i64 (k0 + 6 * (n : Int))) ∧ MkO ob w w' := by
  go_enter Try.func87, Try.ntmps87
  go_wp2
  go_loopw [1, 5] (fun kv i wr => ∃ (j : Nat), j ≤ n ∧ i = .int .i64 j ∧ kv = .int .i64 (k0 + 6 * (j : Int)) ∧ (0 < n → Room wr g (n * 6)) ∧ MkO ob w wr) (fun _ i _ => n - (intOf i).toNat)
  case atStart => exact ⟨0, by omega, rfl, by simp, ho, MkO.refl _ _⟩
  case round =>
    obtain ⟨j, hj, rfl, rfl, ho1, hm⟩ := hrel
    have HM := hidO hm
    clear hm ho
    by_cases hjl : j < n
    · obtain rfl := hob (by omega)
      have HR := hidO (ho1 (by omega))
      clear ho1
      have hgl : g < wr.heap.size := HR.out.2.2 (by omega)
      obtain ⟨x0, c0⟩ := HR.out.1 (j * 6) (by omega)
      have f0 := HR.out.2.1 (j * 6)
      obtain ⟨x1, c1⟩ := HR.out.1 (j * 6 + 1) (by omega)
      have f1 := HR.out.2.1 (j * 6 + 1)
      obtain ⟨x2, c2⟩ := HR.out.1 (j * 6 + 2) (by omega)
      have f2 := HR.out.2.1 (j * 6 + 2)
      obtain ⟨x3, c3⟩ := HR.out.1 (j * 6 + 3) (by omega)
      have f3 := HR.out.2.1 (j * 6 + 3)
      obtain ⟨x4, c4⟩ := HR.out.1 (j * 6 + 4) (by omega)
      have f4 := HR.out.2.1 (j * 6 + 4)
      obtain ⟨x5, c5⟩ := HR.out.1 (j * 6 + 5) (by omega)
      have f5 := HR.out.2.1 (j * 6 + 5)
      obtain ⟨m1, e1⟩ : ∃ x : Int, x = k0 + 6 * (j : Int) + 1 := ⟨_, rfl⟩
      obtain ⟨m2, e2⟩ : ∃ x : Int, x = k0 + 6 * (j : Int) + 2 := ⟨_, rfl⟩
      obtain ⟨m3, e3⟩ : ∃ x : Int, x = k0 + 6 * (j : Int) + 3 := ⟨_, rfl⟩
      obtain ⟨m4, e4⟩ : ∃ x : Int, x = k0 + 6 * (j : Int) + 4 := ⟨_, rfl⟩
      obtain ⟨m5, e5⟩ : ∃ x : Int, x = k0 + 6 * (j : Int) + 5 := ⟨_, rfl⟩
      obtain ⟨m6, e6⟩ : ∃ x : Int, x = k0 + 6 * ((j : Int) + 1) := ⟨_, rfl⟩
      have hw1 : IntKind.i64.wrap (k0 + 6 * (j : Int) + 1) = m1 := by rw [e1, IntKind.wrap_i64]; omega
      have hw2 : IntKind.i64.wrap (m1 + 1) = m2 := by rw [e1, e2, IntKind.wrap_i64] <;> omega
      have hw3 : IntKind.i64.wrap (m2 + 1) = m3 := by rw [e2, e3, IntKind.wrap_i64] <;> omega
      have hw4 : IntKind.i64.wrap (m3 + 1) = m4 := by rw [e3, e4, IntKind.wrap_i64] <;> omega
      have hw5 : IntKind.i64.wrap (m4 + 1) = m5 := by rw [e4, e5, IntKind.wrap_i64] <;> omega
      have hw6 : IntKind.i64.wrap (m5 + 1) = m6 := by rw [e5, e6, IntKind.wrap_i64] <;> omega
      have HE6 := hidO e6
      have b2 : 0 < m2 ∧ m2 ≤ 100000000 := by omega
      have b5 : 0 < m5 ∧ m5 ≤ 100000000 := by omega
      clear e1 e2 e3 e4 e5 e6
      have z0 : (0 : Int) ≤ (j : Int) := by omega
      have z1 : (j : Int) < (n : Int) := by omega
      go_wp2_with fail
      refine (markText_any m2 _ b2.1 b2.2).mono ?_
      rintro e w1 ⟨rfl, hb1⟩
      obtain ⟨hc1, hf1⟩ := bcell hb1
      have hgl1 : g < w1.heap.size := by
        have := hb1.size
        simp at this
        omega
      go_wp2_with fail
      refine (markText_any m5 _ b5.1 b5.2).mono ?_
      rintro e w2 ⟨rfl, hb2⟩
      obtain ⟨hc2, hf2⟩ := bcell hb2
      go_wp2_with fail
      have hroom := ((((((((HR.out).set (j * 6) (.int .i64 (k0 + 6 * (j : Int)))).set (j * 6 + 1) (.int .i64 (m1))).below hb1 (by omega)).set (j * 6 + 2) (.string (mText (m2)))).set (j * 6 + 3) (.int .i64 (m3))).set (j * 6 + 4) (.int .i64 (m4))).below hb2 (by omega)).set (j * 6 + 5) (.string (mText (m5)))
      have mk := ((((((((HM.out).trans (MkO.set (o := j * 6) (.int .i64 (k0 + 6 * (j : Int))))).trans (MkO.set (o := j * 6 + 1) (.int .i64 (m1)))).trans (MkO.of_below hb1)).trans (MkO.set (o := j * 6 + 2) (.string (mText (m2))))).trans (MkO.set (o := j * 6 + 3) (.int .i64 (m3)))).trans (MkO.set (o := j * 6 + 4) (.int .i64 (m4)))).trans (MkO.of_below hb2)).trans (MkO.set (o := j * 6 + 5) (.string (mText (m5))))
      have hcast : ((j + 1 : Nat) : Int) = (j : Int) + 1 := by omega
      go_roundw
      case rel => exact ⟨j + 1, by omega, by go_num, by rw [HE6.out, hcast], fun _ => hroom, mk⟩
      case measure => simp [intOf]; omega
    · go_wp2
      go_ret
      obtain rfl : j = n := by omega
      exact ⟨rfl, HM.out⟩

set_option maxHeartbeats 400000 in
theorem markPattern_any (x : Pt) (ob : Option Nat) (g c : Nat) (hob : 0 < x.terms.length → ob = some g) (k0 : Int) (w : World) (ho : 0 < x.terms.length → Room w g (x.terms.length * 6)) (hl : x.terms.length ≤ 1048576) (hk : 0 < k0) (hk' : k0 + 6 * (x.terms.length : Int) ≤ 100000000) :
    Calls Try.prog 41 #[.agg #[.bool x.neg, .string x.cls, .slice (some ⟨g, 0, none⟩) x.terms.length c], .int .i64 k0] w fun e w' =>
      e = .returned (.int .i64 (k0 + 6 * (x.terms.length : Int))) ∧ MkO ob w w' := by
  have B0 : ∀ o, Below w.heap.size w (w.alloc o) := fun o => (Below.refl _ _).alloc (Nat.le_refl _) _
  go_enter Try.func41, Try.ntmps41
  go_wp2_with (go_at_call 87; refine (markTermS_any ob g x.terms.length c hob k0 _ (fun h => (ho h).below (B0 _) (by omega)) hl hk hk').mono ?_; rintro e w1 ⟨rfl, hm⟩)
  go_ret
  exact ⟨rfl, (MkO.of_below (B0 _)).trans hm⟩

set_option maxHeartbeats 400000 in
theorem markAlpha_any (x : Al) (a : Option Addr) (c : Nat) (base : Nat) (k0 : Int) (w : World) (ho : w.ownsRow base 137 6 (.slice a x.tests.length c) x.tests.length (x.tests.flatMap ttCells)) (hl : x.tests.length ≤ 1048576) (hk : 0 < k0) (hk' : k0 + 6 * (x.tests.length : Int) ≤ 100000000) :
    Calls Try.prog 42 #[.agg #[.string x.cls, .int .i64 x.arity, .slice a x.tests.length c], .int .i64 k0] w fun e w' =>
      e = .returned (.int .i64 (k0 + 6 * (x.tests.length : Int))) ∧ w'.ownsRow base 137 6 (.slice a x.tests.length c) x.tests.length ((mkTs k0 x.tests.length).flatMap ttCells) ∧ MkO (Value.slice a x.tests.length c).ownBlock w w' := by
  have B0 : ∀ o, Below w.heap.size w (w.alloc o) := fun o => (Below.refl _ _).alloc (Nat.le_refl _) _
  go_enter Try.func42, Try.ntmps42
  go_wp2_with (go_at_call 88; refine (markAlphaTestS_any a c x.tests base k0 _ (ao_own ho (B0 _)) hl hk hk').mono ?_; rintro e w1 ⟨rfl, ho1, hm⟩)
  go_ret
  exact ⟨rfl, ho1, (MkO.of_below (B0 _)).trans hm⟩

set_option maxHeartbeats 400000 in
theorem heldAlpha_any (cls : ByteArray) (arity : Int) (a : Option Addr) (c n : Nat) (k0 : Int) (w : World) {q : Option Nat} (hv : TtsAt q w a (mkTs k0 n)) (hl : n ≤ 1048576) (hk : 0 < k0) (hk' : k0 + 6 * (n : Int) ≤ 100000000) :
    Calls Try.prog 43 #[.agg #[.string cls, .int .i64 arity, .slice a n c], .int .i64 k0] w fun e w' =>
      e = .returned (.int .i64 (k0 + 6 * (n : Int))) ∧ Below w.heap.size w w' := by
  have B0 : ∀ o, Below w.heap.size w (w.alloc o) := fun o => (Below.refl _ _).alloc (Nat.le_refl _) _
  have hpos : ¬ k0 + 6 * (n : Int) < 0 := by omega
  go_enter Try.func43, Try.ntmps43
  go_wp2_with (go_at_call 89; refine (heldAlphaTestS_any a c n k0 _ (hv.below (B0 _)) hl hk hk').mono ?_; rintro e w1 ⟨rfl, hb1⟩)
  go_ret
  exact ⟨rfl, (B0 _).trans (hb1.mono (by simp))⟩
end Go.Proofs.Ytkofbgdcgoajeaa
