/-
  OUR OWN TEXT. Tests of an Alpha marked, and read again; terms marked.
-/
import Derived.Test.YtofmgaebgojonaaMark0
import Derived.Test.YtofmgaebgojonaaAo2
import Derived.Deep.RegionHeld3
import Derived.Deep.DrawnRows
namespace Go.Proofs.Ytofmgaebgojonaa
open Go.RowKit
attribute [local go_sem ↓] Go.wp_at_zero Go.wp_at_succ

def mkT (k : Int) : Tt := ⟨k, k + 1, k + 2, (k + 3, k + 4, mText (k + 5))⟩
def mkTs (k : Int) (n : Nat) : List Tt := (List.range n).map fun (j : Nat) => mkT (k + 6 * (j : Int))
theorem mkTs_len (k : Int) (n : Nat) : (mkTs k n).length = n := by simp [mkTs]
theorem mkTs_succ (k : Int) (n : Nat) : mkTs k (n + 1) = mkTs k n ++ [mkT (k + 6 * (n : Int))] := by simp [mkTs, List.range_succ]
theorem mkTs_at (k : Int) (n i : Nat) (h : i < n) : (mkTs k n)[i]? = some (mkT (k + 6 * (i : Int))) := by simp [mkTs, h]

/-- w' is w but for block b and new ones. -/
structure MkO (b : Option Nat) (w w' : World) : Prop where
  rest : Below 0 w w'
  block : ∀ g, g < w.heap.size → b ≠ some g → w'.heap[g]? = w.heap[g]?
theorem MkO.refl (b : Option Nat) (w : World) : MkO b w w := ⟨Below.refl _ _, fun _ _ _ => rfl⟩
theorem MkO.trans {b : Option Nat} {u v w : World} (h : MkO b u v) (k : MkO b v w) : MkO b u w :=
  ⟨h.rest.trans k.rest, fun g hg hs => (k.block g (Nat.lt_of_lt_of_le hg h.rest.size) hs).trans (h.block g hg hs)⟩
theorem MkO.of_below {b : Option Nat} {u v : World} (h : Below u.heap.size u v) : MkO b u v := ⟨h.mono (Nat.zero_le _), fun g hg _ => h.block g hg⟩
theorem MkO.set {w : World} {g o : Nat} (x : Value) : MkO (some g) w (w.setCell ⟨g, o, none⟩ x) :=
  ⟨(Below.refl _ _).setCell (Nat.zero_le _) _, fun h _ hs => Below.heap_setCell _ _ _ _ (fun e => hs (by rw [e]))⟩
theorem MkO.below {b : Option Nat} {w w' : World} {B : Nat} (h : MkO b w w') (hB : B ≤ w.heap.size) (hs : ∀ g, b = some g → B ≤ g) : Below B w w' :=
  ⟨h.rest.os, h.rest.tape, h.rest.output, h.rest.size, fun k hk => h.block k (by omega) (fun e => by have := hs k e; omega)⟩

theorem set6 {n : Nat} {A B : List Value} (hA : A.length = n) (x0 x1 x2 x3 x4 x5 y0 y1 y2 y3 y4 y5 : Value) : ((((((A ++ ([x0, x1, x2, x3, x4, x5] ++ B)).set n y0).set (n + 1) y1).set (n + 2) y2).set (n + 3) y3).set (n + 4) y4).set (n + 5) y5 = A ++ ([y0, y1, y2, y3, y4, y5] ++ B) := by
  subst hA
  simp

set_option maxHeartbeats 1600000 in
theorem markAlphaTestS_any (a : Option Addr) (c : Nat) (vs : List Tt) (base : Nat) (k0 : Int) (w : World) (ho : w.ownsRow base 152 6 (.slice a vs.length c) vs.length (vs.flatMap ttCells)) (hl : vs.length ≤ 1048576) (hk : 0 < k0) (hk' : k0 + 6 * (vs.length : Int) ≤ 100000000) :
    Calls Try.prog 98 #[.slice a vs.length c, .int .i64 k0] w fun e w' =>
      e = .returned (.int .i64 (k0 + 6 * (vs.length : Int))) ∧ w'.ownsRow base 152 6 (.slice a vs.length c) vs.length ((mkTs k0 vs.length).flatMap ttCells) ∧ MkO (Value.slice a vs.length c).ownBlock w w' := by
  go_enter Try.func98, Try.ntmps98
  go_wp2
  go_loopw [1, 5] (fun kv i wr => ∃ (j : Nat), j ≤ vs.length ∧ i = .int .i64 j ∧ kv = .int .i64 (k0 + 6 * (j : Int)) ∧ wr.ownsRow base 152 6 (.slice a vs.length c) vs.length ((mkTs k0 j ++ vs.drop j).flatMap ttCells) ∧ MkO (Value.slice a vs.length c).ownBlock w wr) (fun _ i _ => vs.length - (intOf i).toNat)
  case atStart => exact ⟨0, by omega, rfl, by simp, by simpa [mkTs] using ho, MkO.refl _ _⟩
  case round =>
    obtain ⟨j, hj, rfl, rfl, ho1, hm⟩ := hrel
    have HO := hidO ho1
    have HM := hidO hm
    clear ho1 hm ho
    by_cases hjl : j < vs.length
    · obtain ⟨v, hvj⟩ : ∃ v, vs[j]? = some v := ⟨vs[j], by simp [hjl]⟩
      have hd : vs.drop j = v :: vs.drop (j + 1) := drop_cons hvj
      have hcells : (mkTs k0 j ++ vs.drop j).flatMap ttCells = (mkTs k0 j).flatMap ttCells ++ ([.int .i64 v.slot, .int .i64 v.op, .int .i64 v.other, .int .i64 v.val.kind, .int .i64 v.val.num, .string v.val.sym] ++ (vs.drop (j + 1)).flatMap ttCells) := by
        rw [hd, List.flatMap_append, List.flatMap_cons]
        rfl
      have hAl : ((mkTs k0 j).flatMap ttCells).length = j * 6 := by rw [ttFlat_len, mkTs_len]
      have ho2 := HO.out
      rw [hcells] at ho2
      obtain ⟨g, rfl, hbg, c0, f0⟩ := owns_cell (j := j * 6) (x := .int .i64 v.slot) ho2 (by rw [List.getElem?_append_right (by omega), hAl]; simp)
      obtain ⟨_, he1, _, c1, f1⟩ := owns_cell (j := j * 6 + 1) (x := .int .i64 v.op) ho2 (by rw [List.getElem?_append_right (by omega), hAl, show j * 6 + 1 - j * 6 = 1 by omega]; simp)
      obtain ⟨_, he2, _, c2, f2⟩ := owns_cell (j := j * 6 + 2) (x := .int .i64 v.other) ho2 (by rw [List.getElem?_append_right (by omega), hAl, show j * 6 + 2 - j * 6 = 2 by omega]; simp)
      obtain ⟨_, he3, _, c3, f3⟩ := owns_cell (j := j * 6 + 3) (x := .int .i64 v.val.kind) ho2 (by rw [List.getElem?_append_right (by omega), hAl, show j * 6 + 3 - j * 6 = 3 by omega]; simp)
      obtain ⟨_, he4, _, c4, f4⟩ := owns_cell (j := j * 6 + 4) (x := .int .i64 v.val.num) ho2 (by rw [List.getElem?_append_right (by omega), hAl, show j * 6 + 4 - j * 6 = 4 by omega]; simp)
      obtain ⟨_, he5, _, c5, f5⟩ := owns_cell (j := j * 6 + 5) (x := .string v.val.sym) ho2 (by rw [List.getElem?_append_right (by omega), hAl, show j * 6 + 5 - j * 6 = 5 by omega]; simp)
      cases he1
      cases he2
      cases he3
      cases he4
      cases he5
      have hgl : g < wr.heap.size := World.block_lt_of_cell? wr ⟨g, _, none⟩ c0
      have hw1 : IntKind.i64.wrap (k0 + 6 * (j : Int) + 1) = k0 + 6 * (j : Int) + 1 := by rw [IntKind.wrap_i64]; omega
      have hw2 : IntKind.i64.wrap (k0 + 6 * (j : Int) + 1 + 1) = k0 + 6 * (j : Int) + 2 := by rw [IntKind.wrap_i64]; omega
      have hw3 : IntKind.i64.wrap (k0 + 6 * (j : Int) + 2 + 1) = k0 + 6 * (j : Int) + 3 := by rw [IntKind.wrap_i64]; omega
      have hw4 : IntKind.i64.wrap (k0 + 6 * (j : Int) + 3 + 1) = k0 + 6 * (j : Int) + 4 := by rw [IntKind.wrap_i64]; omega
      have hw5 : IntKind.i64.wrap (k0 + 6 * (j : Int) + 4 + 1) = k0 + 6 * (j : Int) + 5 := by rw [IntKind.wrap_i64]; omega
      have hw6 : IntKind.i64.wrap (k0 + 6 * (j : Int) + 5 + 1) = k0 + 6 * ((j : Int) + 1) := by rw [IntKind.wrap_i64]; omega
      have H2 := hidO ho2
      clear ho2 hcells hd
      go_wp2_with (go_at_call 77; refine (markText_any (k0 + 6 * (j : Int) + 5) _ (by omega) (by omega)).mono ?_; rintro e w1 ⟨rfl, hb1⟩; obtain ⟨hc1, hf1⟩ := bcell hb1)
      have s1 := ((((((((((H2.out).stored (j * 6) (.int .i64 (k0 + 6 * (j : Int)))).1).stored (j * 6 + 1) (.int .i64 (k0 + 6 * (j : Int) + 1))).1).stored (j * 6 + 2) (.int .i64 (k0 + 6 * (j : Int) + 2))).1).stored (j * 6 + 3) (.int .i64 (k0 + 6 * (j : Int) + 3))).1).stored (j * 6 + 4) (.int .i64 (k0 + 6 * (j : Int) + 4))).1
      have s2 := owns_of_block s1 (w' := w1) (fun g' hg' => hb1.block g' (by cases hg'; simpa using hgl))
      have s3 := (s2.stored (j * 6 + 5) (.string (mText (k0 + 6 * (j : Int) + 5)))).1
      rw [set6 hAl] at s3
      have hfin : (mkTs k0 j).flatMap ttCells ++ ([.int .i64 (k0 + 6 * (j : Int)), .int .i64 (k0 + 6 * (j : Int) + 1), .int .i64 (k0 + 6 * (j : Int) + 2), .int .i64 (k0 + 6 * (j : Int) + 3), .int .i64 (k0 + 6 * (j : Int) + 4), .string (mText (k0 + 6 * (j : Int) + 5))] ++ (vs.drop (j + 1)).flatMap ttCells) = (mkTs k0 (j + 1) ++ vs.drop (j + 1)).flatMap ttCells := by
        rw [mkTs_succ, List.flatMap_append, List.flatMap_append]
        simp [ttCells, mkT, V.kind, V.num, V.sym]
      rw [hfin] at s3
      have m0 := fun (u : World) (o : Nat) (x : Value) => MkO.set (w := u) (g := g) (o := o) x
      have m1 := (((((HM.out).trans (m0 _ (j * 6) (.int .i64 (k0 + 6 * (j : Int))))).trans (m0 _ (j * 6 + 1) (.int .i64 (k0 + 6 * (j : Int) + 1)))).trans (m0 _ (j * 6 + 2) (.int .i64 (k0 + 6 * (j : Int) + 2)))).trans (m0 _ (j * 6 + 3) (.int .i64 (k0 + 6 * (j : Int) + 3)))).trans (m0 _ (j * 6 + 4) (.int .i64 (k0 + 6 * (j : Int) + 4)))
      have m2 := (m1.trans (MkO.of_below hb1)).trans (m0 _ (j * 6 + 5) (.string (mText (k0 + 6 * (j : Int) + 5))))
      have hcast : ((j + 1 : Nat) : Int) = (j : Int) + 1 := by omega
      clear m1 m0
      go_roundw
      case rel => exact ⟨j + 1, by omega, by go_num, by rw [hcast], s3, m2⟩
      case measure => simp [intOf]; omega
    · go_wp2
      go_ret
      obtain rfl : j = vs.length := by omega
      have := HO.out
      rw [List.drop_eq_nil_of_le (Nat.le_refl _), List.append_nil] at this
      exact ⟨rfl, this, HM.out⟩

set_option maxHeartbeats 1600000 in
theorem heldAlphaTestS_any (a : Option Addr) (c n : Nat) (k0 : Int) (w : World) {q : Option Nat} (hv : TtsAt q w a (mkTs k0 n)) (hl : n ≤ 1048576) (hk : 0 < k0) (hk' : k0 + 6 * (n : Int) ≤ 100000000) :
    Calls Try.prog 99 #[.slice a n c, .int .i64 k0] w fun e w' =>
      e = .returned (.int .i64 (k0 + 6 * (n : Int))) ∧ Below w.heap.size w w' := by
  go_enter Try.func99, Try.ntmps99
  go_wp2
  go_loopw [1, 5] (fun kv i wr => ∃ (j : Nat), j ≤ n ∧ i = .int .i64 j ∧ kv = .int .i64 (k0 + 6 * (j : Int)) ∧ Below w.heap.size w wr) (fun _ i _ => n - (intOf i).toNat)
  case atStart => exact ⟨0, by omega, rfl, by simp, Below.refl _ _⟩
  case round =>
    obtain ⟨j, hj, rfl, rfl, hb⟩ := hrel
    by_cases hjl : j < n
    · obtain ⟨b, o, ea, _, d0, d1, d2, d3, d4, d5⟩ := (hv.below hb).get (mkTs_at k0 n j hjl)
      subst ea
      have c0 : wr.cell? ⟨b, o + j * 6, none⟩ = some (.int .i64 (k0 + 6 * (j : Int))) := d0
      have c1 : wr.cell? ⟨b, o + j * 6 + 1, none⟩ = some (.int .i64 (k0 + 6 * (j : Int) + 1)) := d1
      have c2 : wr.cell? ⟨b, o + j * 6 + 2, none⟩ = some (.int .i64 (k0 + 6 * (j : Int) + 2)) := d2
      have c3 : wr.cell? ⟨b, o + j * 6 + 3, none⟩ = some (.int .i64 (k0 + 6 * (j : Int) + 3)) := d3
      have c4 : wr.cell? ⟨b, o + j * 6 + 4, none⟩ = some (.int .i64 (k0 + 6 * (j : Int) + 4)) := d4
      have c5 : wr.cell? ⟨b, o + j * 6 + 5, none⟩ = some (.string (mText (k0 + 6 * (j : Int) + 5))) := d5
      clear d0 d1 d2 d3 d4 d5
      have hw1 : IntKind.i64.wrap (k0 + 6 * (j : Int) + 1) = k0 + 6 * (j : Int) + 1 := by rw [IntKind.wrap_i64]; omega
      have hw2 : IntKind.i64.wrap (k0 + 6 * (j : Int) + 1 + 1) = k0 + 6 * (j : Int) + 2 := by rw [IntKind.wrap_i64]; omega
      have hw3 : IntKind.i64.wrap (k0 + 6 * (j : Int) + 2 + 1) = k0 + 6 * (j : Int) + 3 := by rw [IntKind.wrap_i64]; omega
      have hw4 : IntKind.i64.wrap (k0 + 6 * (j : Int) + 3 + 1) = k0 + 6 * (j : Int) + 4 := by rw [IntKind.wrap_i64]; omega
      have hw5 : IntKind.i64.wrap (k0 + 6 * (j : Int) + 4 + 1) = k0 + 6 * (j : Int) + 5 := by rw [IntKind.wrap_i64]; omega
      have hw6 : IntKind.i64.wrap (k0 + 6 * (j : Int) + 5 + 1) = k0 + 6 * ((j : Int) + 1) := by rw [IntKind.wrap_i64]; omega
      have hcast : ((j + 1 : Nat) : Int) = (j : Int) + 1 := by omega
      go_wp2_with fail
      go_region_held3 (fun w' => w'.cell? ⟨b, o + j * 6 + 5, none⟩ = some (.string (mText (k0 + 6 * (j : Int) + 5)))) ((first | with_reducible exact cell_below hb1 (by assumption) | exact c5))
        ((go_at_call 77; refine (markText_any (k0 + 6 * (j : Int) + 5) _ (by omega) (by omega)).mono ?_; rintro e w1 ⟨rfl, hb1⟩))
      go_wp2
      go_roundw
      case rel => exact ⟨j + 1, by omega, by go_num, by rw [hcast], hb.drew.trans (hb1.mono hb.size)⟩
      case measure => simp [intOf]; omega
    · go_wp2
      go_ret
      obtain rfl : j = n := by omega
      exact ⟨rfl, hb⟩
end Go.Proofs.Ytofmgaebgojonaa
