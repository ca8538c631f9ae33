/-
  OUR OWN TEXT. What marks do to memory, whatever they write: slices stay, cells that hold none hold none, only blocks of S are written.
-/
import Derived.Test.YtajgedhmliekoaaLl
import Derived.Test.YtajgedhmliekoaaBx
import Derived.Deep.RegionHeld3
import Derived.Deep.DrawnRows
namespace Go.Proofs.Ytajgedhmliekoaa
open Go.RowKit
attribute [local go_sem ↓] Go.wp_at_zero Go.wp_at_succ

def isSl : Value → Bool
  | .slice _ _ _ => true
  | _ => false
structure Tr (S : Nat → Prop) (w w' : World) : Prop where
  rest : Below 0 w w'
  block : ∀ g, g < w.heap.size → ¬ S g → w'.heap[g]? = w.heap[g]?
  keep : ∀ p v, w.cell? p = some v → isSl v = true → w'.cell? p = some v
  bare : ∀ p v, w.cell? p = some v → isSl v = false → ∃ v', w'.cell? p = some v' ∧ isSl v' = false
  free : ∀ p : Addr, p.block < w.heap.size → w'.frozen? p = w.frozen? p
theorem Tr.refl (S : Nat → Prop) (w : World) : Tr S w w := ⟨Below.refl _ _, fun _ _ _ => rfl, fun _ _ h _ => h, fun _ v h hs => ⟨v, h, hs⟩, fun _ _ => rfl⟩
theorem Tr.trans {S : Nat → Prop} {a b c : World} (h : Tr S a b) (k : Tr S b c) : Tr S a c :=
  ⟨h.rest.trans k.rest, fun g hg hs => (k.block g (Nat.lt_of_lt_of_le hg h.rest.size) hs).trans (h.block g hg hs), fun p v hv hs => k.keep p v (h.keep p v hv hs) hs, fun p v hv hs => by
    obtain ⟨v', h1, h2⟩ := h.bare p v hv hs
    exact k.bare p v' h1 h2, fun p hp => (k.free p (Nat.lt_of_lt_of_le hp h.rest.size)).trans (h.free p hp)⟩
theorem Tr.of_below {S : Nat → Prop} {a b : World} (h : Below a.heap.size a b) : Tr S a b :=
  ⟨h.mono (Nat.zero_le _), fun g hg _ => h.block g hg, fun p v hv _ => cell_below h hv, fun p v hv hs => ⟨v, cell_below h hv, hs⟩, fun p hp => by
    have := h.block p.block hp
    simp only [World.frozen?, this]⟩
theorem Tr.set {S : Nat → Prop} {w : World} {p : Addr} {v : Value} (hp : S p.block) (hv : w.cell? p = some v) (hs : isSl v = false) {u : Value} (hu : isSl u = false) : Tr S w (w.setCell p u) := by
  refine ⟨(Below.refl _ _).setCell (Nat.zero_le _) _, fun g _ hn => Below.heap_setCell _ _ _ _ (fun e => hn (e ▸ hp)), ?_, ?_, fun q _ => World.frozen?_setCell w p q u⟩
  · intro q x hx hxs
    by_cases hq : p = q
    · subst hq
      rw [hv] at hx
      injection hx with hx
      subst hx
      rw [hs] at hxs
      cases hxs
    · rw [World.cell?_setCell_other w p q u hq]
      exact hx
  · intro q x hx hxs
    by_cases hq : p = q
    · subst hq
      exact ⟨u, World.cell?_setCell_same w p u hv, hu⟩
    · exact ⟨x, by rw [World.cell?_setCell_other w p q u hq]; exact hx, hxs⟩
theorem Tr.below {S : Nat → Prop} {w w' : World} {B : Nat} (h : Tr S w w') (hB : B ≤ w.heap.size) (hs : ∀ g, S g → B ≤ g) : Below B w w' :=
  ⟨h.rest.os, h.rest.tape, h.rest.output, h.rest.size, fun k hk => h.block k (by omega) (fun hS => by have := hs k hS; omega)⟩

/-- A cell that marks may write. -/
def Cel (S : Nat → Prop) (w : World) (b i : Nat) : Prop := S b ∧ w.frozen? ⟨b, i, none⟩ = false ∧ ∃ v, w.cell? ⟨b, i, none⟩ = some v ∧ isSl v = false
theorem Cel.tr {S S' : Nat → Prop} {w w' : World} {b i : Nat} (h : Cel S w b i) (ht : Tr S' w w') : Cel S w' b i := by
  obtain ⟨h1, h2, v, h3, h4⟩ := h
  have hl := World.block_lt_of_cell? w ⟨b, i, none⟩ h3
  exact ⟨h1, (ht.free _ hl).trans h2, ht.bare _ v h3 h4⟩
/-- n rows of m cells, none of them a slice. -/
def Flat (S : Nat → Prop) (w : World) (a : Option Addr) (n m : Nat) : Prop := ∀ j, j < n → ∃ b o, a = some ⟨b, o, none⟩ ∧ ∀ q, q < m → Cel S w b (o + j * m + q)
theorem Flat.tr {S S' : Nat → Prop} {w w' : World} {a : Option Addr} {n m : Nat} (h : Flat S w a n m) (ht : Tr S' w w') : Flat S w' a n m := fun j hj => by
  obtain ⟨b, o, e, hc⟩ := h j hj
  exact ⟨b, o, e, fun q hq => (hc q hq).tr ht⟩
/-- Rows of m cells, cell p of each a slice of so many rows of m' cells. -/
def Nest (S : Nat → Prop) (w : World) (a : Option Addr) (ns : List Nat) (m p m' : Nat) : Prop :=
  ∀ j n, ns[j]? = some n → ∃ b o a' c', a = some ⟨b, o, none⟩ ∧ (∀ q, q < m → q ≠ p → Cel S w b (o + j * m + q)) ∧ w.cell? ⟨b, o + j * m + p, none⟩ = some (.slice a' n c') ∧ Flat S w a' n m'
theorem Nest.tr {S S' : Nat → Prop} {w w' : World} {a : Option Addr} {ns : List Nat} {m p m' : Nat} (h : Nest S w a ns m p m') (ht : Tr S' w w') : Nest S w' a ns m p m' := fun j n hj => by
  obtain ⟨b, o, a', c', e, h1, h2, h3⟩ := h j n hj
  exact ⟨b, o, a', c', e, fun q hq hp => (h1 q hq hp).tr ht, ht.keep _ _ h2 rfl, h3.tr ht⟩

set_option maxHeartbeats 800000 in
theorem markIntS_tr (S : Nat → Prop) (a : Option Addr) (n c : Nat) (k0 : Int) (w : World) (ho : Flat S w a n 1) (hl : n ≤ 1048576) (hk : 0 < k0) (hk' : k0 + (n : Int) ≤ 100000000) :
    Calls Try.prog 71 #[.slice a n c, .int .i64 k0] w fun e w' => e = .returned (.int .i64 (k0 + (n : Int))) ∧ Tr S w w' := by
  go_enter Try.func71, Try.ntmps71
  go_wp2
  go_loopw [1, 5] (fun kv i wr => ∃ (j : Nat), j ≤ n ∧ i = .int .i64 j ∧ kv = .int .i64 (k0 + (j : Int)) ∧ Tr S w wr) (fun _ i _ => n - (intOf i).toNat)
  case atStart => exact ⟨0, by omega, rfl, by simp, Tr.refl _ _⟩
  case round =>
    obtain ⟨j, hj, rfl, rfl, hm⟩ := hrel
    by_cases hjl : j < n
    · obtain ⟨b, o, ea, hc⟩ := (ho.tr hm) j hjl
      subst ea
      obtain ⟨hS, f0, v, c0, hs⟩ := hc 0 (by omega)
      simp only [Nat.mul_one, Nat.add_zero] at f0 c0
      have hw1 : IntKind.i64.wrap (k0 + (j : Int) + 1) = k0 + ((j : Int) + 1) := by rw [IntKind.wrap_i64]; omega
      have hcast : ((j + 1 : Nat) : Int) = (j : Int) + 1 := by omega
      have hT := hm.trans (Tr.set (p := ⟨b, o + j, none⟩) hS c0 hs (u := .int .i64 (k0 + (j : Int))) rfl)
      clear hm
      go_wp2
      go_roundw
      case rel => exact ⟨j + 1, by omega, by go_num, by rw [hcast], hT⟩
      case measure => simp [intOf]; omega
    · go_wp2
      go_ret
      obtain rfl : j = n := by omega
      exact ⟨rfl, hm⟩
end Go.Proofs.Ytajgedhmliekoaa
