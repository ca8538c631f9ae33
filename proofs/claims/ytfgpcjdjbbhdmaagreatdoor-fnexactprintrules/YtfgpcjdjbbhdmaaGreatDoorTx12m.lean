/-
  OUR OWN TEXT. Lists of bytes: compared, marked, read again.
-/
import Derived.Test.YtfgpcjdjbbhdmaaGreatDoorTx3m
import Derived.Test.YtfgpcjdjbbhdmaaGreatDoorZs
namespace Go.Proofs.YtfgpcjdjbbhdmaaGreatDoor
open Go.RowKit
attribute [local go_sem ↓] Go.wp_at_zero Go.wp_at_succ

/-- Bytes that lie in memory. -/
def BysAt (w : World) (a : Option Addr) (l : Bs) : Prop := ∀ (j : Nat) x, l[j]? = some x → ∃ b o, a = some ⟨b, o, none⟩ ∧ b < w.heap.size ∧ w.cell? ⟨b, o + j, none⟩ = some (.int .u8 (x.toNat : Int))
theorem BysAt.below {w w' : World} {a : Option Addr} {l : Bs} (h : BysAt w a l) (hb : Below w.heap.size w w') : BysAt w' a l := fun j x hx => by
  obtain ⟨b, o, e, hl, hc⟩ := h j x hx
  exact ⟨b, o, e, Nat.lt_of_lt_of_le hl hb.size, cell_below hb hc⟩
theorem own_bel0 {w w' : World} {base : Nat} {e : TypeId} {m : Nat} {v : Value} {n : Nat} {xs : List Value} (h : w.ownsRow base e m v n xs) (hb : Below w.heap.size w w') : w'.ownsRow base e m v n xs :=
  owns_of_block h fun k hk => hb.block k (h.lt k hk).2
def byV (l : Bs) : List Value := l.map fun x => Value.int .u8 (x.toNat : Int)
theorem byV_len (l : Bs) : (byV l).length = l.length := List.length_map _
theorem BysAt.owns {w : World} {base n : Nat} {a : Option Addr} {c : Nat} {l : Bs} (h : w.ownsRow base 5 1 (.slice a n c) n (byV l)) : BysAt w a l := fun j x hx => by
  obtain ⟨g, hg, _, hc, _⟩ := owns_cell h (j := j) (x := .int .u8 (x.toNat : Int)) (by simp [byV, hx])
  exact ⟨g, 0, hg, World.block_lt_of_cell? _ _ hc, by rw [Nat.zero_add]; exact hc⟩

set_option maxHeartbeats 800000 in
theorem eqByteS_same (a a' : Option Addr) (c c' : Nat) (l : Bs) (w : World) (hv : BysAt w a l) (hv' : BysAt w a' l) (hl : l.length ≤ 1000000000000) :
    Calls Tryz.prog 10 #[.slice a l.length c, .slice a' l.length c'] w fun e w' => e = .returned (.bool true) ∧ Below w.heap.size w w' := by
  go_enter Tryz.func10, Tryz.ntmps10
  go_wp2
  go_loopw [5] (fun i wr => ∃ (j : Nat), j ≤ l.length ∧ i = .int .i64 (j : Int) ∧ Below w.heap.size w wr) (fun i _ => l.length - (intOf i).toNat)
  case atStart => exact ⟨0, by omega, rfl, Below.refl _ _⟩
  case round =>
    obtain ⟨j, hj, rfl, hb⟩ := hrel
    by_cases hjl : j < l.length
    · obtain ⟨x, hx⟩ : ∃ x, l[j]? = some x := ⟨l[j], by simp [hjl]⟩
      obtain ⟨b, o, rfl, _, d0⟩ := (hv.below hb) j x hx
      obtain ⟨b', o', rfl, _, d0'⟩ := (hv'.below hb) j x hx
      have i0 : (0 : Int) ≤ (j : Int) := by omega
      have i1 : (j : Int) < (l.length : Int) := by omega
      have hB := hb.drew
      clear hv hv' hx
      go_wp2
      first
      | (go_region)
      | fail
      all_goals go_wp2
      all_goals go_roundw
      all_goals first
        | exact ⟨j + 1, by omega, by go_num, hB⟩
        | (simp [intOf]; omega)
    · have i1 : ¬ (j : Int) < (l.length : Int) := by omega
      go_wp2
      go_ret
      exact ⟨rfl, hb⟩
/-- What marks are. -/
def mkBy (k : Int) (n : Nat) : List Value := (List.range n).map fun (j : Nat) => Value.int .u8 ((k + (j : Int)) % 256)
theorem mkBy_len (k : Int) (n : Nat) : (mkBy k n).length = n := by simp [mkBy]
theorem mkBy_succ (k : Int) (n : Nat) : mkBy k (n + 1) = mkBy k n ++ [.int .u8 ((k + (n : Int)) % 256)] := by simp [mkBy, List.range_succ]
theorem mkBy_at (k : Int) (n i : Nat) (h : i < n) : (mkBy k n)[i]? = some (.int .u8 ((k + (i : Int)) % 256)) := by simp [mkBy, h]

set_option maxHeartbeats 1600000 in
theorem markByteS_own (a : Option Addr) (c : Nat) (xs : List Value) (n base : Nat) (w : World) (ho : w.ownsRow base 5 1 (.slice a n c) n xs) (hxl : xs.length = n) (hl : n ≤ 1000000000000) :
    Calls Tryz.prog 11 #[.slice a n c, .int .i64 1] w fun e w' => e = .returned (.int .i64 (1 + (n : Int))) ∧ w'.ownsRow base 5 1 (.slice a n c) n (mkBy 1 n) ∧ Below base w w' := by
  go_enter Tryz.func11, Tryz.ntmps11
  go_wp2
  go_loopw [1, 5] (fun kv i wr => ∃ (j : Nat), j ≤ n ∧ i = .int .i64 (j : Int) ∧ kv = .int .i64 (1 + (j : Int)) ∧ wr.ownsRow base 5 1 (.slice a n c) n (mkBy 1 j ++ xs.drop j) ∧ Below base w wr) (fun _ i _ => n - (intOf i).toNat)
  case atStart => exact ⟨0, by omega, rfl, by simp, by simpa [mkBy] using ho, Below.refl _ _⟩
  case round =>
    obtain ⟨j, hj, rfl, rfl, ho1, hm⟩ := hrel
    have HO := hidX ho1
    have HM := hidX hm
    clear ho1 hm ho
    by_cases hjl : j < n
    · obtain ⟨v, hvj⟩ : ∃ v, xs[j]? = some v := ⟨xs[j]'(by omega), by simp⟩
      have hd : xs.drop j = v :: xs.drop (j + 1) := drop_cons hvj
      have ho2 := HO.out
      rw [hd] at ho2
      obtain ⟨g, rfl, hbg, c0, f0⟩ := owns_cell (j := j) (x := v) ho2 (by rw [List.getElem?_append_right (by rw [mkBy_len]; omega), mkBy_len]; simp)
      have H2 := hidX ho2
      have hw1 : IntKind.i64.wrap (1 + (j : Int) + 1) = 1 + ((j : Int) + 1) := by rw [IntKind.wrap_i64]; omega
      have i0 : (0 : Int) ≤ (j : Int) := by omega
      have i1 : (j : Int) < (n : Int) := by omega
      clear ho2 hd hvj
      go_wp2
      have s3 := (H2.out.stored j (.int .u8 ((1 + (j : Int)) % 256))).1
      have hset : (mkBy 1 j ++ v :: xs.drop (j + 1)).set j (Value.int .u8 ((1 + (j : Int)) % 256)) = mkBy 1 (j + 1) ++ xs.drop (j + 1) := by
        rw [List.set_append_right _ _ (by rw [mkBy_len]; omega), mkBy_len, mkBy_succ]
        simp
      rw [hset] at s3
      have hcast : ((j + 1 : Nat) : Int) = (j : Int) + 1 := by omega
      go_roundw
      case rel => exact ⟨j + 1, by omega, by go_num, by rw [hcast], s3, HM.out.setCell hbg _⟩
      case measure => simp [intOf]; omega
    · have i1 : ¬ (j : Int) < (n : Int) := by omega
      go_wp2
      go_ret
      obtain rfl : j = n := by omega
      have := HO.out
      rw [List.drop_eq_nil_of_le (by omega), List.append_nil] at this
      exact ⟨rfl, this, HM.out⟩

set_option maxHeartbeats 1600000 in
theorem heldByteS_own (a : Option Addr) (c n base : Nat) (w : World) (ho : w.ownsRow base 5 1 (.slice a n c) n (mkBy 1 n)) (hl : n ≤ 1000000000000) :
    Calls Tryz.prog 25 #[.slice a n c, .int .i64 1] w fun e w' => e = .returned (.int .i64 (1 + (n : Int))) ∧ Below w.heap.size w w' := by
  have HO := hidX ho
  clear ho
  go_enter Tryz.func25, Tryz.ntmps25
  go_wp2
  go_loopw [1, 5] (fun kv i wr => ∃ (j : Nat), j ≤ n ∧ i = .int .i64 (j : Int) ∧ kv = .int .i64 (1 + (j : Int)) ∧ Below w.heap.size w wr) (fun _ i _ => n - (intOf i).toNat)
  case atStart => exact ⟨0, by omega, rfl, by simp, Below.refl _ _⟩
  case round =>
    obtain ⟨j, hj, rfl, rfl, hb⟩ := hrel
    by_cases hjl : j < n
    · obtain ⟨g, rfl, _, c0, _⟩ := owns_cell (own_bel0 HO.out hb) (mkBy_at 1 n j hjl)
      have hw1 : IntKind.i64.wrap (1 + (j : Int) + 1) = 1 + ((j : Int) + 1) := by rw [IntKind.wrap_i64]; omega
      have hcast : ((j + 1 : Nat) : Int) = (j : Int) + 1 := by omega
      have i0 : (0 : Int) ≤ (j : Int) := by omega
      have i1 : (j : Int) < (n : Int) := by omega
      go_wp2
      go_roundw
      case rel => exact ⟨j + 1, by omega, by go_num, by rw [hcast], hb⟩
      case measure => simp [intOf]; omega
    · have i1 : ¬ (j : Int) < (n : Int) := by omega
      go_wp2
      go_ret
      obtain rfl : j = n := by omega
      exact ⟨rfl, hb⟩
end Go.Proofs.YtfgpcjdjbbhdmaaGreatDoor
