/-
  OUR OWN TEXT. Tr, Tr2, Tr3, Nx, one behind the other.
-/
import Derived.Test.YtofmgaebgojonaaMark0
import Derived.Test.YtofmgaebgojonaaTyA
import Derived.Test.YtofmgaebgojonaaNt2
import Derived.Test.YtofmgaebgojonaaTo
namespace Go.Proofs.Ytofmgaebgojonaa
open Go.RowKit
attribute [local go_sem ↓] Go.wp_at_zero Go.wp_at_succ

def isSl : Value → Bool
  | .slice _ _ _ => true
  | _ => false
structure Tr (S : Nat → Prop) (w w' : World) : Prop where
  rest : Below 0 w w'
  block : ∀ g, g < w.heap.size → ¬ S g → w'.heap[g]? = w.heap[g]?
  keep : ∀ p v, w.cell? p = some v → isSl v = true → w'.cell? p = some v
  bare : ∀ p v, w.cell? p = some v → isSl v = false → ∃ v', w'.cell? p = some v' ∧ isSl v' = false
  free : ∀ p : Addr, p.block < w.heap.size → w'.frozen? p = w.frozen? p
theorem Tr.refl (S : Nat → Prop) (w : World) : Tr S w w := ⟨Below.refl _ _, fun _ _ _ => rfl, fun _ _ h _ => h, fun _ v h hs => ⟨v, h, hs⟩, fun _ _ => rfl⟩
theorem Tr.trans {S : Nat → Prop} {a b c : World} (h : Tr S a b) (k : Tr S b c) : Tr S a c :=
  ⟨h.rest.trans k.rest, fun g hg hs => (k.block g (Nat.lt_of_lt_of_le hg h.rest.size) hs).trans (h.block g hg hs), fun p v hv hs => k.keep p v (h.keep p v hv hs) hs, fun p v hv hs => by
    obtain ⟨v', h1, h2⟩ := h.bare p v hv hs
    exact k.bare p v' h1 h2, fun p hp => (k.free p (Nat.lt_of_lt_of_le hp h.rest.size)).trans (h.free p hp)⟩
theorem Tr.of_below {S : Nat → Prop} {a b : World} (h : Below a.heap.size a b) : Tr S a b :=
  ⟨h.mono (Nat.zero_le _), fun g hg _ => h.block g hg, fun p v hv _ => cell_below h hv, fun p v hv hs => ⟨v, cell_below h hv, hs⟩, fun p hp => by
    have := h.block p.block hp
    simp only [World.frozen?, this]⟩
theorem Tr.set {S : Nat → Prop} {w : World} {p : Addr} {v : Value} (hp : S p.block) (hv : w.cell? p = some v) (hs : isSl v = false) {u : Value} (hu : isSl u = false) : Tr S w (w.setCell p u) := by
  refine ⟨(Below.refl _ _).setCell (Nat.zero_le _) _, fun g _ hn => Below.heap_setCell _ _ _ _ (fun e => hn (e ▸ hp)), ?_, ?_, fun q _ => World.frozen?_setCell w p q u⟩
  · intro q x hx hxs
    by_cases hq : p = q
    · subst hq
      rw [hv] at hx
      injection hx with hx
      subst hx
      rw [hs] at hxs
      cases hxs
    · rw [World.cell?_setCell_other w p q u hq]
      exact hx
  · intro q x hx hxs
    by_cases hq : p = q
    · subst hq
      exact ⟨u, World.cell?_setCell_same w p u hv, hu⟩
    · exact ⟨x, by rw [World.cell?_setCell_other w p q u hq]; exact hx, hxs⟩
theorem Tr.below {S : Nat → Prop} {w w' : World} {B : Nat} (h : Tr S w w') (hB : B ≤ w.heap.size) (hs : ∀ g, S g → B ≤ g) : Below B w w' :=
  ⟨h.rest.os, h.rest.tape, h.rest.output, h.rest.size, fun k hk => h.block k (by omega) (fun hS => by have := hs k hS; omega)⟩

/-- A cell that marks may write. -/
def Cel (S : Nat → Prop) (w : World) (b i : Nat) : Prop := S b ∧ w.frozen? ⟨b, i, none⟩ = false ∧ ∃ v, w.cell? ⟨b, i, none⟩ = some v ∧ isSl v = false
theorem Cel.tr {S S' : Nat → Prop} {w w' : World} {b i : Nat} (h : Cel S w b i) (ht : Tr S' w w') : Cel S w' b i := by
  obtain ⟨h1, h2, v, h3, h4⟩ := h
  have hl := World.block_lt_of_cell? w ⟨b, i, none⟩ h3
  exact ⟨h1, (ht.free _ hl).trans h2, ht.bare _ v h3 h4⟩
/-- n rows of m cells, none of them a slice. -/
def Flat (S : Nat → Prop) (w : World) (a : Option Addr) (n m : Nat) : Prop := ∀ j, j < n → ∃ b o, a = some ⟨b, o, none⟩ ∧ ∀ q, q < m → Cel S w b (o + j * m + q)
theorem Flat.tr {S S' : Nat → Prop} {w w' : World} {a : Option Addr} {n m : Nat} (h : Flat S w a n m) (ht : Tr S' w w') : Flat S w' a n m := fun j hj => by
  obtain ⟨b, o, e, hc⟩ := h j hj
  exact ⟨b, o, e, fun q hq => (hc q hq).tr ht⟩
/-- Rows of m cells, cell p of each a slice of so many rows of m' cells. -/
def Nest (S : Nat → Prop) (w : World) (a : Option Addr) (ns : List Nat) (m p m' : Nat) : Prop :=
  ∀ j n, ns[j]? = some n → ∃ b o a' c', a = some ⟨b, o, none⟩ ∧ (∀ q, q < m → q ≠ p → Cel S w b (o + j * m + q)) ∧ w.cell? ⟨b, o + j * m + p, none⟩ = some (.slice a' n c') ∧ Flat S w a' n m'
theorem Nest.tr {S S' : Nat → Prop} {w w' : World} {a : Option Addr} {ns : List Nat} {m p m' : Nat} (h : Nest S w a ns m p m') (ht : Tr S' w w') : Nest S w' a ns m p m' := fun j n hj => by
  obtain ⟨b, o, a', c', e, h1, h2, h3⟩ := h j n hj
  exact ⟨b, o, a', c', e, fun q hq hp => (h1 q hq hp).tr ht, ht.keep _ _ h2 rfl, h3.tr ht⟩

set_option maxHeartbeats 800000 in
theorem markIntS_tr (S : Nat → Prop) (a : Option Addr) (n c : Nat) (k0 : Int) (w : World) (ho : Flat S w a n 1) (hl : n ≤ 1048576) (hk : 0 < k0) (hk' : k0 + (n : Int) ≤ 100000000) :
    Calls Try.prog 113 #[.slice a n c, .int .i64 k0] w fun e w' => e = .returned (.int .i64 (k0 + (n : Int))) ∧ Tr S w w' := by
  go_enter Try.func113, Try.ntmps113
  go_wp2
  go_loopw [1, 5] (fun kv i wr => ∃ (j : Nat), j ≤ n ∧ i = .int .i64 j ∧ kv = .int .i64 (k0 + (j : Int)) ∧ Tr S w wr) (fun _ i _ => n - (intOf i).toNat)
  case atStart => exact ⟨0, by omega, rfl, by simp, Tr.refl _ _⟩
  case round =>
    obtain ⟨j, hj, rfl, rfl, hm⟩ := hrel
    by_cases hjl : j < n
    · obtain ⟨b, o, ea, hc⟩ := (ho.tr hm) j hjl
      subst ea
      obtain ⟨hS, f0, v, c0, hs⟩ := hc 0 (by omega)
      simp only [Nat.mul_one, Nat.add_zero] at f0 c0
      have hw1 : IntKind.i64.wrap (k0 + (j : Int) + 1) = k0 + ((j : Int) + 1) := by rw [IntKind.wrap_i64]; omega
      have hcast : ((j + 1 : Nat) : Int) = (j : Int) + 1 := by omega
      have hT := hm.trans (Tr.set (p := ⟨b, o + j, none⟩) hS c0 hs (u := .int .i64 (k0 + (j : Int))) rfl)
      clear hm
      go_wp2
      go_roundw
      case rel => exact ⟨j + 1, by omega, by go_num, by rw [hcast], hT⟩
      case measure => simp [intOf]; omega
    · go_wp2
      go_ret
      obtain rfl : j = n := by omega
      exact ⟨rfl, hm⟩
end Go.Proofs.Ytofmgaebgojonaa

namespace Go.Proofs.Ytofmgaebgojonaa
open Go.RowKit
attribute [local go_sem ↓] Go.wp_at_zero Go.wp_at_succ

theorem hidT {p : Prop} (h : p) : Hid p := h
theorem tr_cell {S : Nat → Prop} {w : World} {b o n m j : Nat} (h : Flat S w (some ⟨b, o, none⟩) n m) (hj : j < n) (q : Nat) (hq : q < m) (u : Value) (hu : isSl u = false) : Tr S w (w.setCell ⟨b, o + j * m + q, none⟩ u) := by
  obtain ⟨b', o', e, hc⟩ := h j hj
  cases e
  obtain ⟨h1, _, v, h3, h4⟩ := hc q hq
  exact Tr.set h1 h3 h4 hu

set_option maxHeartbeats 1600000 in
theorem markAlphaTestS_tr (S : Nat → Prop) (a : Option Addr) (n c : Nat) (k0 : Int) (w : World) (ho : Flat S w a n 6) (hl : n ≤ 1048576) (hk : 0 < k0) (hk' : k0 + 6 * (n : Int) ≤ 100000000) :
    Calls Try.prog 98 #[.slice a n c, .int .i64 k0] w fun e w' => e = .returned (.int .i64 (k0 + 6 * (n : Int))) ∧ Tr S w w' := by
  go_enter Try.func98, Try.ntmps98
  go_wp2
  go_loopw [1, 5] (fun kv i wr => ∃ (j : Nat), j ≤ n ∧ i = .int .i64 j ∧ kv = .int .i64 (k0 + 6 * (j : Int)) ∧ Tr S w wr) (fun _ i _ => n - (intOf i).toNat)
  case atStart => exact ⟨0, by omega, rfl, by simp, Tr.refl _ _⟩
  case round =>
    obtain ⟨j, hj, rfl, rfl, hm⟩ := hrel
    by_cases hjl : j < n
    · obtain ⟨b, o, ea, hc⟩ := (ho.tr hm) j hjl
      subst ea
      obtain ⟨hS0, f0, v0, c0, t0⟩ := hc 0 (by omega)
      obtain ⟨hS1, f1, v1, c1, t1⟩ := hc 1 (by omega)
      obtain ⟨hS2, f2, v2, c2, t2⟩ := hc 2 (by omega)
      obtain ⟨hS3, f3, v3, c3, t3⟩ := hc 3 (by omega)
      obtain ⟨hS4, f4, v4, c4, t4⟩ := hc 4 (by omega)
      obtain ⟨hS5, f5, v5, c5, t5⟩ := hc 5 (by omega)
      simp only [Nat.add_zero] at f0 c0
      obtain ⟨m1, e1⟩ : ∃ x : Int, x = k0 + 6 * (j : Int) + 1 := ⟨_, rfl⟩
      obtain ⟨m2, e2⟩ : ∃ x : Int, x = k0 + 6 * (j : Int) + 2 := ⟨_, rfl⟩
      obtain ⟨m3, e3⟩ : ∃ x : Int, x = k0 + 6 * (j : Int) + 3 := ⟨_, rfl⟩
      obtain ⟨m4, e4⟩ : ∃ x : Int, x = k0 + 6 * (j : Int) + 4 := ⟨_, rfl⟩
      obtain ⟨m5, e5⟩ : ∃ x : Int, x = k0 + 6 * (j : Int) + 5 := ⟨_, rfl⟩
      obtain ⟨m6, e6⟩ : ∃ x : Int, x = k0 + 6 * ((j : Int) + 1) := ⟨_, rfl⟩
      have hw1 : IntKind.i64.wrap (k0 + 6 * (j : Int) + 1) = m1 := by rw [e1, IntKind.wrap_i64]; omega
      have hw2 : IntKind.i64.wrap (m1 + 1) = m2 := by rw [e1, e2, IntKind.wrap_i64] <;> omega
      have hw3 : IntKind.i64.wrap (m2 + 1) = m3 := by rw [e2, e3, IntKind.wrap_i64] <;> omega
      have hw4 : IntKind.i64.wrap (m3 + 1) = m4 := by rw [e3, e4, IntKind.wrap_i64] <;> omega
      have hw5 : IntKind.i64.wrap (m4 + 1) = m5 := by rw [e4, e5, IntKind.wrap_i64] <;> omega
      have hw6 : IntKind.i64.wrap (m5 + 1) = m6 := by rw [e5, e6, IntKind.wrap_i64] <;> omega
      have b5 : 0 < m5 ∧ m5 ≤ 100000000 := by omega
      have HE := hidT e6
      have hgl : b < wr.heap.size := World.block_lt_of_cell? wr ⟨b, _, none⟩ c0
      have HM := hidT hm
      clear hm hc e1 e2 e3 e4 e5 e6
      go_wp2_with fail
      refine (markText_any m5 _ b5.1 b5.2).mono ?_
      rintro e w1 ⟨rfl, hb1⟩
      obtain ⟨hc1, hf1⟩ := bcell hb1
      have hgl1 : b < w1.heap.size := by
        have := hb1.size
        simp at this
        omega
      go_wp2_with fail
      have x0 := HM.out
      have x1 := x0.trans (tr_cell (ho.tr x0) hjl 0 (by omega) (.int .i64 (k0 + 6 * (j : Int))) rfl)
      have x2 := x1.trans (tr_cell (ho.tr x1) hjl 1 (by omega) (.int .i64 m1) rfl)
      have x3 := x2.trans (tr_cell (ho.tr x2) hjl 2 (by omega) (.int .i64 m2) rfl)
      have x4 := x3.trans (tr_cell (ho.tr x3) hjl 3 (by omega) (.int .i64 m3) rfl)
      have x5 := x4.trans (tr_cell (ho.tr x4) hjl 4 (by omega) (.int .i64 m4) rfl)
      have x6 := x5.trans (Tr.of_below hb1)
      have x7 := x6.trans (tr_cell (ho.tr x6) hjl 5 (by omega) (.string (mText m5)) rfl)
      have hcast : ((j + 1 : Nat) : Int) = (j : Int) + 1 := by omega
      have X := hidT x7
      clear x0 x1 x2 x3 x4 x5 x6 x7
      go_roundw
      case rel => exact ⟨j + 1, by omega, by go_num, by rw [HE.out, hcast], X.out⟩
      case measure => simp [intOf]; omega
    · go_wp2
      go_ret
      obtain rfl : j = n := by omega
      exact ⟨rfl, hm⟩

set_option maxHeartbeats 1600000 in
theorem markValueS_tr (S : Nat → Prop) (a : Option Addr) (n c : Nat) (k0 : Int) (w : World) (ho : Flat S w a n 3) (hl : n ≤ 1048576) (hk : 0 < k0) (hk' : k0 + 3 * (n : Int) ≤ 100000000) :
    Calls Try.prog 23 #[.slice a n c, .int .i64 k0] w fun e w' => e = .returned (.int .i64 (k0 + 3 * (n : Int))) ∧ Tr S w w' := by
  go_enter Try.func23, Try.ntmps23
  go_wp2
  go_loopw [1, 5] (fun kv i wr => ∃ (j : Nat), j ≤ n ∧ i = .int .i64 j ∧ kv = .int .i64 (k0 + 3 * (j : Int)) ∧ Tr S w wr) (fun _ i _ => n - (intOf i).toNat)
  case atStart => exact ⟨0, by omega, rfl, by simp, Tr.refl _ _⟩
  case round =>
    obtain ⟨j, hj, rfl, rfl, hm⟩ := hrel
    by_cases hjl : j < n
    · obtain ⟨b, o, ea, hc⟩ := (ho.tr hm) j hjl
      subst ea
      obtain ⟨hS0, f0, v0, c0, t0⟩ := hc 0 (by omega)
      obtain ⟨hS1, f1, v1, c1, t1⟩ := hc 1 (by omega)
      obtain ⟨hS2, f2, v2, c2, t2⟩ := hc 2 (by omega)
      simp only [Nat.add_zero] at f0 c0
      obtain ⟨m1, e1⟩ : ∃ x : Int, x = k0 + 3 * (j : Int) + 1 := ⟨_, rfl⟩
      obtain ⟨m2, e2⟩ : ∃ x : Int, x = k0 + 3 * (j : Int) + 2 := ⟨_, rfl⟩
      obtain ⟨m3, e3⟩ : ∃ x : Int, x = k0 + 3 * ((j : Int) + 1) := ⟨_, rfl⟩
      have hw1 : IntKind.i64.wrap (k0 + 3 * (j : Int) + 1) = m1 := by rw [e1, IntKind.wrap_i64]; omega
      have hw2 : IntKind.i64.wrap (m1 + 1) = m2 := by rw [e1, e2, IntKind.wrap_i64] <;> omega
      have hw3 : IntKind.i64.wrap (m2 + 1) = m3 := by rw [e2, e3, IntKind.wrap_i64] <;> omega
      have b2 : 0 < m2 ∧ m2 ≤ 100000000 := by omega
      have HE := hidT e3
      have hgl : b < wr.heap.size := World.block_lt_of_cell? wr ⟨b, _, none⟩ c0
      have HM := hidT hm
      clear hm hc e1 e2 e3
      go_wp2_with fail
      refine (markText_any m2 _ b2.1 b2.2).mono ?_
      rintro e w1 ⟨rfl, hb1⟩
      obtain ⟨hc1, hf1⟩ := bcell hb1
      have hgl1 : b < w1.heap.size := by
        have := hb1.size
        simp at this
        omega
      go_wp2_with fail
      have x0 := HM.out
      have x1 := x0.trans (tr_cell (ho.tr x0) hjl 0 (by omega) (.int .i64 (k0 + 3 * (j : Int))) rfl)
      have x2 := x1.trans (tr_cell (ho.tr x1) hjl 1 (by omega) (.int .i64 m1) rfl)
      have x3 := x2.trans (Tr.of_below hb1)
      have x4 := x3.trans (tr_cell (ho.tr x3) hjl 2 (by omega) (.string (mText m2)) rfl)
      have hcast : ((j + 1 : Nat) : Int) = (j : Int) + 1 := by omega
      have X := hidT x4
      clear x0 x1 x2 x3 x4
      go_roundw
      case rel => exact ⟨j + 1, by omega, by go_num, by rw [HE.out, hcast], X.out⟩
      case measure => simp [intOf]; omega
    · go_wp2
      go_ret
      obtain rfl : j = n := by omega
      exact ⟨rfl, hm⟩

end Go.Proofs.Ytofmgaebgojonaa

namespace Go.Proofs.Ytofmgaebgojonaa
open Go.RowKit
attribute [local go_sem ↓] Go.wp_at_zero Go.wp_at_succ

def nEnd (c d : Int) : Int → List Nat → Int
  | k, [] => k
  | k, n :: r => nEnd c d (k + c + d * (n : Int)) r
theorem nEnd_snoc (c d : Int) (n : Nat) : ∀ (l : List Nat) (k : Int), nEnd c d k (l ++ [n]) = nEnd c d k l + c + d * (n : Int)
  | [], _ => rfl
  | _ :: r, _ => nEnd_snoc c d n r _
theorem nEnd_append (c d : Int) (m : List Nat) : ∀ (l : List Nat) (k : Int), nEnd c d k (l ++ m) = nEnd c d (nEnd c d k l) m
  | [], _ => rfl
  | _ :: r, _ => nEnd_append c d m r _
theorem nEnd_ge (c d : Int) (hc : 0 ≤ c) (hd : 0 ≤ d) : ∀ (l : List Nat) (k : Int), k ≤ nEnd c d k l
  | [], _ => Int.le_refl _
  | n :: r, k => by
    have h1 := nEnd_ge c d hc hd r (k + c + d * (n : Int))
    have h2 : 0 ≤ d * (n : Int) := Int.mul_nonneg hd (by omega)
    show k ≤ nEnd c d (k + c + d * (n : Int)) r
    omega
theorem nest_cell {S : Nat → Prop} {w : World} {b o : Nat} {ns : List Nat} {m p m' j n : Nat} (h : Nest S w (some ⟨b, o, none⟩) ns m p m') (hj : ns[j]? = some n) (q : Nat) (hq : q < m) (hp : q ≠ p) (u : Value) (hu : isSl u = false) : Tr S w (w.setCell ⟨b, o + j * m + q, none⟩ u) := by
  obtain ⟨b', o', a', c', e, hc, _⟩ := h j n hj
  cases e
  obtain ⟨h1, _, v, h3, h4⟩ := hc q hq hp
  exact Tr.set h1 h3 h4 hu

set_option maxHeartbeats 1600000 in
theorem markAlphaS_tr (S : Nat → Prop) (a : Option Addr) (ns : List Nat) (c : Nat) (k0 : Int) (w : World) (ho : Nest S w a ns 3 2 6) (hl : ns.length ≤ 1048576) (hs : ∀ n ∈ ns, n ≤ 1048576) (hk : 0 < k0) (hk' : nEnd 2 6 k0 ns ≤ 100000000) :
    Calls Try.prog 112 #[.slice a ns.length c, .int .i64 k0] w fun e w' => e = .returned (.int .i64 (nEnd 2 6 k0 ns)) ∧ Tr S w w' := by
  go_enter Try.func112, Try.ntmps112
  go_wp2
  go_loopw [1, 5] (fun kv i wr => ∃ (j : Nat), j ≤ ns.length ∧ i = .int .i64 j ∧ kv = .int .i64 (nEnd 2 6 k0 (ns.take j)) ∧ Tr S w wr) (fun _ i _ => ns.length - (intOf i).toNat)
  case atStart => exact ⟨0, by omega, rfl, rfl, Tr.refl _ _⟩
  case round =>
    obtain ⟨j, hj, rfl, rfl, hm⟩ := hrel
    by_cases hjl : j < ns.length
    · obtain ⟨n, hnj⟩ : ∃ n, ns[j]? = some n := ⟨ns[j], by simp [hjl]⟩
      obtain ⟨b, o, a', c', ea, hc, hsl, hfl⟩ := (ho.tr hm) j n hnj
      subst ea
      obtain ⟨hS0, f0, v0, c0, t0⟩ := hc 0 (by omega) (by omega)
      obtain ⟨hS1, f1, v1, c1, t1⟩ := hc 1 (by omega) (by omega)
      simp only [Nat.add_zero] at f0 c0
      have ht : ns.take (j + 1) = ns.take j ++ [n] := take_succ' ns j n hnj
      have hend : nEnd 2 6 k0 (ns.take (j + 1)) = nEnd 2 6 k0 (ns.take j) + 2 + 6 * (n : Int) := by rw [ht, nEnd_snoc]
      have hge := nEnd_ge 2 6 (by omega) (by omega) (ns.take j) k0
      have hle : nEnd 2 6 k0 (ns.take (j + 1)) ≤ nEnd 2 6 k0 ns := by
        have := nEnd_append 2 6 (ns.drop (j + 1)) (ns.take (j + 1)) k0
        rw [List.take_append_drop] at this
        rw [this]
        exact nEnd_ge 2 6 (by omega) (by omega) _ _
      have hn1 := hs n (List.mem_of_getElem? hnj)
      obtain ⟨K, eK⟩ : ∃ x : Int, x = nEnd 2 6 k0 (ns.take j) := ⟨_, rfl⟩
      rw [← eK] at hend hge ⊢
      obtain ⟨m1, e1⟩ : ∃ x : Int, x = K + 1 := ⟨_, rfl⟩
      obtain ⟨m2, e2⟩ : ∃ x : Int, x = K + 2 := ⟨_, rfl⟩
      have hw1 : IntKind.i64.wrap (K + 1) = m1 := by rw [e1, IntKind.wrap_i64]; omega
      have hw2 : IntKind.i64.wrap (m1 + 1) = m2 := by rw [e1, e2, IntKind.wrap_i64] <;> omega
      have bl : 0 < m2 ∧ m2 + 6 * (n : Int) ≤ 100000000 := by omega
      have hEn : m2 + 6 * (n : Int) = nEnd 2 6 k0 (ns.take (j + 1)) := by omega
      have b0 : 0 < K ∧ K ≤ 100000000 := by omega
      have HE := hidT hEn
      have HM := hidT hm
      have HF := hidT hfl
      have hgl : b < wr.heap.size := World.block_lt_of_cell? wr ⟨b, _, none⟩ c0
      clear hm hc hfl hEn hend ht hle eK e1 e2
      go_wp2_with fail
      refine (markText_any K _ b0.1 b0.2).mono ?_
      rintro e w1 ⟨rfl, hb1⟩
      obtain ⟨hc1, hf1⟩ := bcell hb1
      have hgl1 : b < w1.heap.size := by
        have := hb1.size
        (try simp at this)
        omega
      go_wp2_with fail
      have NW := hidT (ho.tr HM.out)
      have x0 := Tr.refl S wr
      have x1 := x0.trans (Tr.of_below hb1)
      have x2 := x1.trans (nest_cell (NW.out.tr x1) hnj 0 (by omega) (by omega) (.string (mText K)) rfl)
      have x3 := x2.trans (nest_cell (NW.out.tr x2) hnj 1 (by omega) (by omega) (.int .i64 m1) rfl)
      have X := hidT x3
      clear x0 x1 x2 x3
      refine (markAlphaTestS_tr S a' n c' m2 _ (HF.out.tr X.out) hn1 bl.1 bl.2).mono ?_
      rintro e wz ⟨rfl, hz⟩
      go_wp2_with fail
      go_roundw
      case rel => exact ⟨j + 1, by omega, by go_num, by rw [HE.out], (HM.out.trans X.out).trans hz⟩
      case measure => simp [intOf]; omega
    · go_wp2
      go_ret
      obtain rfl : j = ns.length := by omega
      exact ⟨by rw [List.take_of_length_le (Nat.le_refl _)]; rfl, hm⟩

set_option maxHeartbeats 1600000 in
theorem markFactS_tr (S : Nat → Prop) (a : Option Addr) (ns : List Nat) (c : Nat) (k0 : Int) (w : World) (ho : Nest S w a ns 3 2 3) (hl : ns.length ≤ 1048576) (hs : ∀ n ∈ ns, n ≤ 1048576) (hk : 0 < k0) (hk' : nEnd 2 3 k0 ns ≤ 100000000) :
    Calls Try.prog 62 #[.slice a ns.length c, .int .i64 k0] w fun e w' => e = .returned (.int .i64 (nEnd 2 3 k0 ns)) ∧ Tr S w w' := by
  go_enter Try.func62, Try.ntmps62
  go_wp2
  go_loopw [1, 5] (fun kv i wr => ∃ (j : Nat), j ≤ ns.length ∧ i = .int .i64 j ∧ kv = .int .i64 (nEnd 2 3 k0 (ns.take j)) ∧ Tr S w wr) (fun _ i _ => ns.length - (intOf i).toNat)
  case atStart => exact ⟨0, by omega, rfl, rfl, Tr.refl _ _⟩
  case round =>
    obtain ⟨j, hj, rfl, rfl, hm⟩ := hrel
    by_cases hjl : j < ns.length
    · obtain ⟨n, hnj⟩ : ∃ n, ns[j]? = some n := ⟨ns[j], by simp [hjl]⟩
      obtain ⟨b, o, a', c', ea, hc, hsl, hfl⟩ := (ho.tr hm) j n hnj
      subst ea
      obtain ⟨hS0, f0, v0, c0, t0⟩ := hc 0 (by omega) (by omega)
      obtain ⟨hS1, f1, v1, c1, t1⟩ := hc 1 (by omega) (by omega)
      simp only [Nat.add_zero] at f0 c0
      have ht : ns.take (j + 1) = ns.take j ++ [n] := take_succ' ns j n hnj
      have hend : nEnd 2 3 k0 (ns.take (j + 1)) = nEnd 2 3 k0 (ns.take j) + 2 + 3 * (n : Int) := by rw [ht, nEnd_snoc]
      have hge := nEnd_ge 2 3 (by omega) (by omega) (ns.take j) k0
      have hle : nEnd 2 3 k0 (ns.take (j + 1)) ≤ nEnd 2 3 k0 ns := by
        have := nEnd_append 2 3 (ns.drop (j + 1)) (ns.take (j + 1)) k0
        rw [List.take_append_drop] at this
        rw [this]
        exact nEnd_ge 2 3 (by omega) (by omega) _ _
      have hn1 := hs n (List.mem_of_getElem? hnj)
      obtain ⟨K, eK⟩ : ∃ x : Int, x = nEnd 2 3 k0 (ns.take j) := ⟨_, rfl⟩
      rw [← eK] at hend hge ⊢
      obtain ⟨m1, e1⟩ : ∃ x : Int, x = K + 1 := ⟨_, rfl⟩
      obtain ⟨m2, e2⟩ : ∃ x : Int, x = K + 2 := ⟨_, rfl⟩
      have hw1 : IntKind.i64.wrap (K + 1) = m1 := by rw [e1, IntKind.wrap_i64]; omega
      have hw2 : IntKind.i64.wrap (m1 + 1) = m2 := by rw [e1, e2, IntKind.wrap_i64] <;> omega
      have bl : 0 < m2 ∧ m2 + 3 * (n : Int) ≤ 100000000 := by omega
      have hEn : m2 + 3 * (n : Int) = nEnd 2 3 k0 (ns.take (j + 1)) := by omega
      have b1 : 0 < m1 ∧ m1 ≤ 100000000 := by omega
      have HE := hidT hEn
      have HM := hidT hm
      have HF := hidT hfl
      have hgl : b < wr.heap.size := World.block_lt_of_cell? wr ⟨b, _, none⟩ c0
      clear hm hc hfl hEn hend ht hle eK e1 e2
      go_wp2_with fail
      refine (markText_any m1 _ b1.1 b1.2).mono ?_
      rintro e w1 ⟨rfl, hb1⟩
      obtain ⟨hc1, hf1⟩ := bcell hb1
      have hgl1 : b < w1.heap.size := by
        have := hb1.size
        (try simp at this)
        omega
      go_wp2_with fail
      have NW := hidT (ho.tr HM.out)
      have x0 := Tr.refl S wr
      have x1 := x0.trans (nest_cell (NW.out.tr x0) hnj 0 (by omega) (by omega) (.int .i64 K) rfl)
      have x2 := x1.trans (Tr.of_below hb1)
      have x3 := x2.trans (nest_cell (NW.out.tr x2) hnj 1 (by omega) (by omega) (.string (mText m1)) rfl)
      have X := hidT x3
      clear x0 x1 x2 x3
      refine (markValueS_tr S a' n c' m2 _ (HF.out.tr X.out) hn1 bl.1 bl.2).mono ?_
      rintro e wz ⟨rfl, hz⟩
      go_wp2_with fail
      go_roundw
      case rel => exact ⟨j + 1, by omega, by go_num, by rw [HE.out], (HM.out.trans X.out).trans hz⟩
      case measure => simp [intOf]; omega
    · go_wp2
      go_ret
      obtain rfl : j = ns.length := by omega
      exact ⟨by rw [List.take_of_length_le (Nat.le_refl _)]; rfl, hm⟩

set_option maxHeartbeats 1600000 in
theorem markIntSS_tr (S : Nat → Prop) (a : Option Addr) (ns : List Nat) (c : Nat) (k0 : Int) (w : World) (ho : Nest S w a ns 1 0 1) (hl : ns.length ≤ 1048576) (hs : ∀ n ∈ ns, n ≤ 1048576) (hk : 0 < k0) (hk' : nEnd 0 1 k0 ns ≤ 100000000) :
    Calls Try.prog 63 #[.slice a ns.length c, .int .i64 k0] w fun e w' => e = .returned (.int .i64 (nEnd 0 1 k0 ns)) ∧ Tr S w w' := by
  go_enter Try.func63, Try.ntmps63
  go_wp2
  go_loopw [1, 5] (fun kv i wr => ∃ (j : Nat), j ≤ ns.length ∧ i = .int .i64 j ∧ kv = .int .i64 (nEnd 0 1 k0 (ns.take j)) ∧ Tr S w wr) (fun _ i _ => ns.length - (intOf i).toNat)
  case atStart => exact ⟨0, by omega, rfl, rfl, Tr.refl _ _⟩
  case round =>
    obtain ⟨j, hj, rfl, rfl, hm⟩ := hrel
    by_cases hjl : j < ns.length
    · obtain ⟨n, hnj⟩ : ∃ n, ns[j]? = some n := ⟨ns[j], by simp [hjl]⟩
      obtain ⟨b, o, a', c', ea, hc, hsl, hfl⟩ := (ho.tr hm) j n hnj
      subst ea
      simp only [Nat.mul_one, Nat.add_zero] at hsl
      have ht : ns.take (j + 1) = ns.take j ++ [n] := take_succ' ns j n hnj
      have hend : nEnd 0 1 k0 (ns.take (j + 1)) = nEnd 0 1 k0 (ns.take j) + 0 + 1 * (n : Int) := by rw [ht, nEnd_snoc]
      have hge := nEnd_ge 0 1 (by omega) (by omega) (ns.take j) k0
      have hle : nEnd 0 1 k0 (ns.take (j + 1)) ≤ nEnd 0 1 k0 ns := by
        have := nEnd_append 0 1 (ns.drop (j + 1)) (ns.take (j + 1)) k0
        rw [List.take_append_drop] at this
        rw [this]
        exact nEnd_ge 0 1 (by omega) (by omega) _ _
      have hn1 := hs n (List.mem_of_getElem? hnj)
      obtain ⟨K, eK⟩ : ∃ x : Int, x = nEnd 0 1 k0 (ns.take j) := ⟨_, rfl⟩
      rw [← eK] at hend hge ⊢
      have bl : 0 < K ∧ K + (n : Int) ≤ 100000000 := by omega
      have hEn : K + (n : Int) = nEnd 0 1 k0 (ns.take (j + 1)) := by omega
      have HE := hidT hEn
      have HM := hidT hm
      have HF := hidT hfl
      clear hm hc hfl hEn hend ht hle eK
      go_wp2_with fail
      have NW := hidT (ho.tr HM.out)
      have x0 := Tr.refl S wr
      have X := hidT x0
      clear x0
      refine (markIntS_tr S a' n c' K _ (HF.out.tr X.out) hn1 bl.1 bl.2).mono ?_
      rintro e wz ⟨rfl, hz⟩
      go_wp2_with fail
      go_roundw
      case rel => exact ⟨j + 1, by omega, by go_num, by rw [HE.out], (HM.out.trans X.out).trans hz⟩
      case measure => simp [intOf]; omega
    · go_wp2
      go_ret
      obtain rfl : j = ns.length := by omega
      exact ⟨by rw [List.take_of_length_le (Nat.le_refl _)]; rfl, hm⟩

set_option maxHeartbeats 800000 in
theorem markNet_tr (S : Nat → Prop) (a : Option Addr) (ns : List Nat) (c : Nat) (a' : Option Addr) (ms : List Nat) (c' : Nat) (k0 : Int) (w : World) (ho : Nest S w a ns 3 2 6) (hi : Nest S w a' ms 1 0 1) (hl : ns.length ≤ 1048576) (hs : ∀ n ∈ ns, n ≤ 1048576) (hl' : ms.length ≤ 1048576) (hs' : ∀ n ∈ ms, n ≤ 1048576) (hk : 0 < k0) (hk' : nEnd 0 1 (nEnd 2 6 k0 ns) ms ≤ 100000000) :
    Calls Try.prog 61 #[.agg #[.slice a ns.length c, .slice a' ms.length c'], .int .i64 k0] w fun e w' => e = .returned (.int .i64 (nEnd 0 1 (nEnd 2 6 k0 ns) ms)) ∧ Tr S w w' := by
  have B0 : ∀ o, Below w.heap.size w (w.alloc o) := fun o => (Below.refl _ _).alloc (Nat.le_refl _) _
  have g1 := nEnd_ge 2 6 (by omega) (by omega) ns k0
  have g2 := nEnd_ge 0 1 (by omega) (by omega) ms (nEnd 2 6 k0 ns)
  go_enter Try.func61, Try.ntmps61
  go_wp2_with fail
  refine (markAlphaS_tr S a ns c k0 _ (ho.tr (Tr.of_below (S := S) (B0 _))) hl hs hk (by omega)).mono ?_
  rintro e w1 ⟨rfl, h1⟩
  have q1 : w1.cell? ⟨w.heap.size, 1, none⟩ = some (.slice a' ms.length c') := h1.keep _ _ (by simp [go_sem]) rfl
  go_wp2_with fail
  refine (markIntSS_tr S a' ms c' _ _ (hi.tr ((Tr.of_below (S := S) (B0 _)).trans h1)) hl' hs' (by omega) hk').mono ?_
  rintro e w2 ⟨rfl, h2⟩
  go_wp2_with fail
  go_ret
  exact ⟨rfl, ((Tr.of_below (B0 _)).trans h1).trans h2⟩
end Go.Proofs.Ytofmgaebgojonaa

namespace Go.Proofs.Ytofmgaebgojonaa
open Go.RowKit

/-- Blocks from B on, below H. -/
def Seg (B H : Nat) (g : Nat) : Prop := B ≤ g ∧ g < H
theorem free_of {w : World} {b i : Nat} {c : Array Value} {t : TypeId} (h : w.heap[b]? = some (.cells c t (0, 0))) : w.frozen? ⟨b, i, none⟩ = false := by simp [World.frozen?, h]
theorem TtsAt.flat {B H : Nat} {w : World} {a : Option Addr} {xs : List Tt} (h : TtsAt (some B) w a xs) (hH : w.heap.size ≤ H) : Flat (Seg B H) w a xs.length 6 := by
  intro j hj
  obtain ⟨x, hx⟩ : ∃ x, xs[j]? = some x := ⟨xs[j], by simp [hj]⟩
  obtain ⟨b, o, e, hq, d0, d1, d2, d3, d4, d5⟩ := h.get hx
  obtain ⟨hB0, cs, hb⟩ := hq B rfl
  have hB : Seg B H b := ⟨hB0, Nat.lt_of_lt_of_le (World.block_lt_of_cell? w ⟨b, _, none⟩ d0) hH⟩
  refine ⟨b, o, e, fun q hq => ?_⟩
  match q, hq with
  | 0, _ => exact ⟨hB, free_of hb, _, d0, rfl⟩
  | 1, _ => exact ⟨hB, free_of hb, _, d1, rfl⟩
  | 2, _ => exact ⟨hB, free_of hb, _, d2, rfl⟩
  | 3, _ => exact ⟨hB, free_of hb, _, d3, rfl⟩
  | 4, _ => exact ⟨hB, free_of hb, _, d4, rfl⟩
  | 5, _ => exact ⟨hB, free_of hb, _, d5, rfl⟩
theorem IntsAt.flat {B H : Nat} {w : World} {a : Option Addr} {xs : List Int} (h : IntsAt (some B) w a xs) (hH : w.heap.size ≤ H) : Flat (Seg B H) w a xs.length 1 := by
  intro j hj
  obtain ⟨x, hx⟩ : ∃ x, xs[j]? = some x := ⟨xs[j], by simp [hj]⟩
  obtain ⟨b, o, e, hq, d0⟩ := h.get hx
  obtain ⟨hB0, cs, hb⟩ := hq B rfl
  have hB : Seg B H b := ⟨hB0, Nat.lt_of_lt_of_le (World.block_lt_of_cell? w ⟨b, _, none⟩ d0) hH⟩
  refine ⟨b, o, e, fun q hq => ?_⟩
  obtain rfl : q = 0 := by omega
  exact ⟨hB, free_of hb, _, by simpa using d0, rfl⟩
theorem AlsAt.nest {B H : Nat} {w : World} {a : Option Addr} {xs : List Al} (h : AlsAt (some B) w a xs) (hH : w.heap.size ≤ H) : Nest (Seg B H) w a (xs.map fun x => x.tests.length) 3 2 6 := by
  intro j n hj
  rw [List.getElem?_map] at hj
  cases hx : xs[j]? with
  | none => rw [hx] at hj; cases hj
  | some x =>
    rw [hx] at hj
    simp at hj
    subst hj
    obtain ⟨b, o, a', c', e, hq, d0, d1, d2, ht⟩ := h.get hx
    obtain ⟨hB0, cs, hb⟩ := hq B rfl
    have hB : Seg B H b := ⟨hB0, Nat.lt_of_lt_of_le (World.block_lt_of_cell? w ⟨b, _, none⟩ d0) hH⟩
    refine ⟨b, o, a', c', e, fun q hq hp => ?_, d2, ht.flat hH⟩
    match q, hq, hp with
    | 0, _, _ => exact ⟨hB, free_of hb, _, d0, rfl⟩
    | 1, _, _ => exact ⟨hB, free_of hb, _, d1, rfl⟩
    | 2, _, hp => exact absurd rfl hp
theorem IlsAt.nest {B H : Nat} {w : World} {a : Option Addr} {xs : List (List Int)} (h : IlsAt (some B) w a xs) (hH : w.heap.size ≤ H) : Nest (Seg B H) w a (xs.map List.length) 1 0 1 := by
  intro j n hj
  rw [List.getElem?_map] at hj
  cases hx : xs[j]? with
  | none => rw [hx] at hj; cases hj
  | some x =>
    rw [hx] at hj
    simp at hj
    subst hj
    obtain ⟨b, o, a', c', e, hq, d0, ht⟩ := h.get hx
    exact ⟨b, o, a', c', e, fun q hq hp => absurd (by omega) hp, by simpa using d0, ht.flat hH⟩
theorem OwnFs.nest {w : World} {g N B H : Nat} {fs : List F} {gs : List Nat} (h : OwnFs w g N fs gs) (hB : B ≤ g) (hH : w.heap.size ≤ H) : Nest (Seg B H) w (some ⟨g, 0, none⟩) (fs.map fun f => f.slots.length) 3 2 3 := by
  intro j n hj
  rw [List.getElem?_map] at hj
  cases hx : fs[j]? with
  | none => rw [hx] at hj; cases hj
  | some f =>
    rw [hx] at hj
    simp at hj
    subst hj
    have hjl : j < fs.length := (List.getElem?_eq_some_iff.1 hx).1
    obtain ⟨k, hk⟩ : ∃ k, gs[j]? = some k := ⟨gs[j]'(by rw [h.len]; exact hjl), List.getElem?_eq_getElem _⟩
    have hrow : ((fs.zip gs).map fun p => fcells p.1 (.slice (some ⟨p.2, 0, none⟩) p.1.slots.length p.1.slots.length))[j]? = some (fcells f (.slice (some ⟨k, 0, none⟩) f.slots.length f.slots.length)) := by
      rw [List.getElem?_map, (List.getElem?_zip_eq_some (z := (f, k))).2 ⟨hx, hk⟩]
      rfl
    have hke := h.each j f k hx hk
    have hgk := h.gt k (List.mem_of_getElem? hk)
    have hB1 : Seg B H g := ⟨hB, Nat.lt_of_lt_of_le h.own.lt hH⟩
    have hB2 : Seg B H k := ⟨by omega, Nat.lt_of_lt_of_le hke.lt hH⟩
    refine ⟨g, 0, some ⟨k, 0, none⟩, f.slots.length, rfl, fun q hq hp => ?_, by simpa using h.own.cell (j := 2) hrow rfl, fun i hi => ?_⟩
    · match q, hq, hp with
      | 0, _, _ => exact ⟨hB1, h.own.free _, _, by simpa using h.own.cell (j := 0) hrow rfl, rfl⟩
      | 1, _, _ => exact ⟨hB1, h.own.free _, _, by simpa using h.own.cell (j := 1) hrow rfl, rfl⟩
      | 2, _, hp => exact absurd rfl hp
    · obtain ⟨v, hv⟩ : ∃ v, f.slots[i]? = some v := ⟨f.slots[i], by simp [hi]⟩
      have hvr : (f.slots.map V.cells)[i]? = some v.cells := by rw [List.getElem?_map, hv]; rfl
      refine ⟨k, 0, rfl, fun q hq => ?_⟩
      match q, hq with
      | 0, _ => exact ⟨hB2, hke.free _, _, by simpa using hke.cell (j := 0) hvr rfl, rfl⟩
      | 1, _ => exact ⟨hB2, hke.free _, _, by simpa using hke.cell (j := 1) hvr rfl, rfl⟩
      | 2, _ => exact ⟨hB2, hke.free _, _, by simpa using hke.cell (j := 2) hvr rfl, rfl⟩
theorem nEnd_le {c d : Int} (hc : c ≤ 6) (hd : d ≤ 6) : ∀ (l : List Nat) (k : Int), nEnd c d k l ≤ k + 6 * ((l.length : Int) + (l.sum : Int))
  | [], k => by simp [nEnd]
  | n :: r, k => by
    have h1 := nEnd_le hc hd r (k + c + d * (n : Int))
    have h2 : d * (n : Int) ≤ 6 * (n : Int) := Int.mul_le_mul_of_nonneg_right hd (by omega)
    show nEnd c d (k + c + d * (n : Int)) r ≤ _
    simp only [List.length_cons, List.sum_cons, Int.natCast_add]
    omega
theorem sum_le_map {α : Type} {f g : α → Nat} (h : ∀ x, f x ≤ g x) : ∀ l : List α, (l.map f).sum ≤ (l.map g).sum
  | [] => Nat.le_refl _
  | x :: r => by
    have := sum_le_map h r
    have := h x
    simp only [List.map_cons, List.sum_cons]
    omega
end Go.Proofs.Ytofmgaebgojonaa
