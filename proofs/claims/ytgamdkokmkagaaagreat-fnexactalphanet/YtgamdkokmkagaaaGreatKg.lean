/-
  OUR OWN TEXT. Mo0, Nm0, one behind the other.
-/
import Derived.Test.YtgamdkokmkagaaaGreatQa
import Derived.Test.YtgamdkokmkagaaaGreatBxm
import Derived.Deep.RegionHeld3
import Derived.Deep.DrawnRows
namespace Go.Proofs.YtgamdkokmkagaaaGreat
open Go.RowKit

/-- w' is w but for block b and new ones. -/
structure MkO (b : Option Nat) (w w' : World) : Prop where
  rest : Below 0 w w'
  block : ∀ g, g < w.heap.size → b ≠ some g → w'.heap[g]? = w.heap[g]?
theorem MkO.refl (b : Option Nat) (w : World) : MkO b w w := ⟨Below.refl _ _, fun _ _ _ => rfl⟩
theorem MkO.trans {b : Option Nat} {u v w : World} (h : MkO b u v) (k : MkO b v w) : MkO b u w :=
  ⟨h.rest.trans k.rest, fun g hg hs => (k.block g (Nat.lt_of_lt_of_le hg h.rest.size) hs).trans (h.block g hg hs)⟩
theorem MkO.of_below {b : Option Nat} {u v : World} (h : Below u.heap.size u v) : MkO b u v := ⟨h.mono (Nat.zero_le _), fun g hg _ => h.block g hg⟩
theorem MkO.set {w : World} {g o : Nat} (x : Value) : MkO (some g) w (w.setCell ⟨g, o, none⟩ x) :=
  ⟨(Below.refl _ _).setCell (Nat.zero_le _) _, fun h _ hs => Below.heap_setCell _ _ _ _ (fun e => hs (by rw [e]))⟩
theorem MkO.below {b : Option Nat} {w w' : World} {B : Nat} (h : MkO b w w') (hB : B ≤ w.heap.size) (hs : ∀ g, b = some g → B ≤ g) : Below B w w' :=
  ⟨h.rest.os, h.rest.tape, h.rest.output, h.rest.size, fun k hk => h.block k (by omega) (fun e => by have := hs k e; omega)⟩
end Go.Proofs.YtgamdkokmkagaaaGreat

namespace Go.Proofs.YtgamdkokmkagaaaGreat
open Go.RowKit
attribute [local go_sem ↓] Go.wp_at_zero Go.wp_at_succ

theorem hidN {p : Prop} (h : p) : Hid p := h
def mkIs (k : Int) (n : Nat) : List Int := (List.range n).map fun (j : Nat) => k + (j : Int)
theorem mkIs_len (k : Int) (n : Nat) : (mkIs k n).length = n := by simp [mkIs]
theorem mkIs_succ (k : Int) (n : Nat) : mkIs k (n + 1) = mkIs k n ++ [k + (n : Int)] := by simp [mkIs, List.range_succ]
theorem mkIs_at (k : Int) (n i : Nat) (h : i < n) : (mkIs k n)[i]? = some (k + (i : Int)) := by simp [mkIs, h]

set_option maxHeartbeats 800000 in
theorem markIntS_own (a : Option Addr) (c : Nat) (xs : List Int) (base : Nat) (k0 : Int) (w : World) (ho : w.ownsRow base 3 1 (.slice a xs.length c) xs.length (icells xs)) (hl : xs.length ≤ 1048576) (hk : 0 < k0) (hk' : k0 + (xs.length : Int) ≤ 100000000) :
    Calls Tryz.prog 50 #[.slice a xs.length c, .int .i64 k0] w fun e w' =>
      e = .returned (.int .i64 (k0 + (xs.length : Int))) ∧ w'.ownsRow base 3 1 (.slice a xs.length c) xs.length (icells (mkIs k0 xs.length)) ∧ MkO (Value.slice a xs.length c).ownBlock w w' := by
  go_enter Tryz.func50, Tryz.ntmps50
  go_wp2
  go_loopw [1, 5] (fun kv i wr => ∃ (j : Nat), j ≤ xs.length ∧ i = .int .i64 j ∧ kv = .int .i64 (k0 + (j : Int)) ∧ wr.ownsRow base 3 1 (.slice a xs.length c) xs.length (icells (mkIs k0 j ++ xs.drop j)) ∧ MkO (Value.slice a xs.length c).ownBlock w wr) (fun _ i _ => xs.length - (intOf i).toNat)
  case atStart => exact ⟨0, by omega, rfl, by simp, by simpa [mkIs] using ho, MkO.refl _ _⟩
  case round =>
    obtain ⟨j, hj, rfl, rfl, ho1, hm⟩ := hrel
    have HO := hidN ho1
    have HM := hidN hm
    clear ho1 hm ho
    by_cases hjl : j < xs.length
    · obtain ⟨v, hvj⟩ : ∃ v, xs[j]? = some v := ⟨xs[j], by simp [hjl]⟩
      have hd : xs.drop j = v :: xs.drop (j + 1) := drop_cons hvj
      have hcells : icells (mkIs k0 j ++ xs.drop j) = icells (mkIs k0 j) ++ ([Value.int .i64 v] ++ icells (xs.drop (j + 1))) := by
        rw [hd]
        simp [icells]
      have hAl : (icells (mkIs k0 j)).length = j := by simp [icells, mkIs_len]
      have ho2 := HO.out
      rw [hcells] at ho2
      obtain ⟨g, rfl, hbg, c0, f0⟩ := owns_cell (j := j) (x := .int .i64 v) ho2 (by rw [List.getElem?_append_right (by omega), hAl]; simp)
      have hw1 : IntKind.i64.wrap (k0 + (j : Int) + 1) = k0 + ((j : Int) + 1) := by rw [IntKind.wrap_i64]; omega
      have H2 := hidN ho2
      clear ho2 hcells hd
      go_wp2
      have s3 := (H2.out.stored j (.int .i64 (k0 + (j : Int)))).1
      have hset : (icells (mkIs k0 j) ++ ([Value.int .i64 v] ++ icells (xs.drop (j + 1)))).set j (Value.int .i64 (k0 + (j : Int))) = icells (mkIs k0 (j + 1) ++ xs.drop (j + 1)) := by
        rw [List.set_append_right _ _ (by omega), hAl, mkIs_succ]
        simp [icells]
      rw [hset] at s3
      have m2 := HM.out.trans (MkO.set (w := wr) (g := g) (o := j) (.int .i64 (k0 + (j : Int))))
      have hcast : ((j + 1 : Nat) : Int) = (j : Int) + 1 := by omega
      go_roundw
      case rel => exact ⟨j + 1, by omega, by go_num, by rw [hcast], s3, m2⟩
      case measure => simp [intOf]; omega
    · go_wp2
      go_ret
      obtain rfl : j = xs.length := by omega
      have := HO.out
      rw [List.drop_eq_nil_of_le (Nat.le_refl _), List.append_nil] at this
      exact ⟨rfl, this, HM.out⟩

set_option maxHeartbeats 800000 in
theorem heldIntS_any (a : Option Addr) (c n : Nat) (k0 : Int) (w : World) {q : Option Nat} (hv : IntsAt q w a (mkIs k0 n)) (hl : n ≤ 1048576) (hk : 0 < k0) (hk' : k0 + (n : Int) ≤ 100000000) :
    Calls Tryz.prog 53 #[.slice a n c, .int .i64 k0] w fun e w' =>
      e = .returned (.int .i64 (k0 + (n : Int))) ∧ Below w.heap.size w w' := by
  go_enter Tryz.func53, Tryz.ntmps53
  go_wp2
  go_loopw [1, 5] (fun kv i wr => ∃ (j : Nat), j ≤ n ∧ i = .int .i64 j ∧ kv = .int .i64 (k0 + (j : Int)) ∧ Below w.heap.size w wr) (fun _ i _ => n - (intOf i).toNat)
  case atStart => exact ⟨0, by omega, rfl, by simp, Below.refl _ _⟩
  case round =>
    obtain ⟨j, hj, rfl, rfl, hb⟩ := hrel
    by_cases hjl : j < n
    · obtain ⟨b, o, ea, _, d0⟩ := (hv.below hb).get (mkIs_at k0 n j hjl)
      subst ea
      have hw1 : IntKind.i64.wrap (k0 + (j : Int) + 1) = k0 + ((j : Int) + 1) := by rw [IntKind.wrap_i64]; omega
      have hcast : ((j + 1 : Nat) : Int) = (j : Int) + 1 := by omega
      go_wp2
      go_roundw
      case rel => exact ⟨j + 1, by omega, by go_num, by rw [hcast], hb⟩
      case measure => simp [intOf]; omega
    · go_wp2
      go_ret
      obtain rfl : j = n := by omega
      exact ⟨rfl, hb⟩
end Go.Proofs.YtgamdkokmkagaaaGreat
