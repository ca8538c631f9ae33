/-
  OUR OWN TEXT. Cm1, Gk, Rk1, one behind the other.
-/
import Derived.Test.YtdhpoagjmiligaaGreatDoorKag
import Derived.Test.YtdhpoagjmiligaaGreatDoorKad
import Derived.Test.YtdhpoagjmiligaaGreatDoorTcm
namespace Go.Proofs.YtdhpoagjmiligaaGreatDoor
open Go.RowKit
attribute [local go_sem ↓] Go.wp_at_zero Go.wp_at_succ

theorem flat_len (vs : List V) : (vs.flatMap V.cells).length = vs.length * 3 := by
  induction vs with
  | nil => rfl
  | cons v r ih => simp [ih, V.cells]; omega
theorem flat_at (vs : List V) (j : Nat) (x : Value) (h : (vs.flatMap V.cells)[j]? = some x) : ∃ v, vs[j / 3]? = some v ∧ v.cells[j % 3]? = some x := by
  induction vs generalizing j with
  | nil => simp at h
  | cons v r ih =>
    rw [List.flatMap_cons] at h
    by_cases hj : j < 3
    · rw [List.getElem?_append_left (by simpa [V.cells] using hj)] at h
      refine ⟨v, ?_, ?_⟩
      · rw [show j / 3 = 0 by omega]; rfl
      · rwa [show j % 3 = j by omega]
    · rw [List.getElem?_append_right (by simp [V.cells]; omega)] at h
      obtain ⟨u, h1, h2⟩ := ih (j - v.cells.length) h
      simp only [V.cells, List.length_cons, List.length_nil] at h1 h2
      refine ⟨u, ?_, ?_⟩
      · rw [show j / 3 = (j - (0 + 1 + 1 + 1)) / 3 + 1 by omega]; exact h1
      · rwa [show j % 3 = (j - (0 + 1 + 1 + 1)) % 3 by omega]

theorem ValsAt.owns {w : World} {base : Nat} {a : Option Addr} {c : Nat} {vs : List V} (h : w.ownsRow base 101 3 (.slice a vs.length c) vs.length (vs.flatMap V.cells)) : ValsAt w a vs := by
  intro i v hv
  have hi : i < vs.length := (List.getElem?_eq_some_iff.1 hv).1
  have key : ∀ j x, j < 3 → v.cells[j]? = some x → (vs.flatMap V.cells)[i * 3 + j]? = some x := by
    intro j x hj hx
    have hlen : i * 3 + j < (vs.flatMap V.cells).length := by rw [flat_len]; omega
    obtain ⟨u, h1, h2⟩ := flat_at vs (i * 3 + j) _ (List.getElem?_eq_getElem hlen)
    rw [show (i * 3 + j) / 3 = i by omega, hv] at h1
    cases h1
    rw [show (i * 3 + j) % 3 = j by omega, hx] at h2
    rw [List.getElem?_eq_getElem hlen, h2]
  obtain ⟨g, rfl, _, h0, _⟩ := owns_cell h (key 0 _ (by omega) rfl)
  obtain ⟨g1, he1, _, h1, _⟩ := owns_cell h (key 1 _ (by omega) rfl)
  obtain ⟨g2, he2, _, h2, _⟩ := owns_cell h (key 2 _ (by omega) rfl)
  cases he1
  cases he2
  exact ⟨g, 0, rfl, by simpa using h0, by simpa using h1, by simpa using h2⟩

def mkV (k : Int) : V := (k, k + 1, mText (k + 2))
def mkVs (k : Int) (n : Nat) : List V := (List.range n).map fun (j : Nat) => mkV (k + 3 * (j : Int))
theorem mkVs_len (k : Int) (n : Nat) : (mkVs k n).length = n := by simp [mkVs]
theorem mkVs_succ (k : Int) (n : Nat) : mkVs k (n + 1) = mkVs k n ++ [mkV (k + 3 * (n : Int))] := by simp [mkVs, List.range_succ]
/-- w' is w but for blocks of S and new ones. -/
structure Mk (S : Nat → Prop) (w w' : World) : Prop where
  rest : Below 0 w w'
  block : ∀ g, g < w.heap.size → ¬ S g → w'.heap[g]? = w.heap[g]?

theorem Mk.refl (S : Nat → Prop) (w : World) : Mk S w w := ⟨Below.refl _ _, fun _ _ _ => rfl⟩
theorem Mk.trans {S : Nat → Prop} {a b c : World} (h : Mk S a b) (k : Mk S b c) : Mk S a c :=
  ⟨h.rest.trans k.rest, fun g hg hs => (k.block g (Nat.lt_of_lt_of_le hg h.rest.size) hs).trans (h.block g hg hs)⟩
theorem Mk.mono {S T : Nat → Prop} {a b : World} (h : Mk S a b) (hst : ∀ g, S g → T g) : Mk T a b := ⟨h.rest, fun g hg ht => h.block g hg (fun hs => ht (hst g hs))⟩
theorem Mk.of_below {S : Nat → Prop} {a b : World} (h : Below a.heap.size a b) : Mk S a b := ⟨h.mono (Nat.zero_le _), fun g hg _ => h.block g hg⟩
theorem Mk.set {S : Nat → Prop} {w : World} {p : Addr} (hp : S p.block) (u : Value) : Mk S w (w.setCell p u) :=
  ⟨(Below.refl _ _).setCell (Nat.zero_le _) _, fun _ _ hs => Below.heap_setCell _ _ _ _ (fun e => hs (e ▸ hp))⟩
theorem Mk.below {S : Nat → Prop} {w w' : World} {B : Nat} (h : Mk S w w') (hB : B ≤ w.heap.size) (hs : ∀ g, S g → B ≤ g) : Below B w w' :=
  ⟨h.rest.os, h.rest.tape, h.rest.output, h.rest.size, fun k hk => h.block k (by omega) (fun hS => by have := hs k hS; omega)⟩

theorem set3 (A B : List Value) (x y z x' y' z' : Value) : (((A ++ ([x, y, z] ++ B)).set A.length x').set (A.length + 1) y').set (A.length + 2) z' = A ++ ([x', y', z'] ++ B) := by
  simp

theorem set3' {n : Nat} {A B : List Value} (hA : A.length = n) (x y z x' y' z' : Value) : (((A ++ ([x, y, z] ++ B)).set n x').set (n + 1) y').set (n + 2) z' = A ++ ([x', y', z'] ++ B) := by
  subst hA
  exact set3 A B x y z x' y' z'

set_option maxHeartbeats 800000 in
theorem markValueS_any (a : Option Addr) (c : Nat) (vs : List V) (base : Nat) (k0 : Int) (w : World) (ho : w.ownsRow base 101 3 (.slice a vs.length c) vs.length (vs.flatMap V.cells)) (hl : vs.length ≤ 1048576) (hk : 0 < k0) (hk' : k0 + 3 * (vs.length : Int) ≤ 100000000) :
    Calls Tryz.prog 64 #[.slice a vs.length c, .int .i64 k0] w fun e w' =>
      e = .returned (.int .i64 (k0 + 3 * (vs.length : Int))) ∧ w'.ownsRow base 101 3 (.slice a vs.length c) vs.length ((mkVs k0 vs.length).flatMap V.cells) ∧ Mk (fun g => (Value.slice a vs.length c).ownBlock = some g) w w' := by
  go_enter Tryz.func64, Tryz.ntmps64
  go_wp2
  go_loopw [1, 5] (fun kv i wr => ∃ (j : Nat), j ≤ vs.length ∧ i = .int .i64 j ∧ kv = .int .i64 (k0 + 3 * (j : Int)) ∧ wr.ownsRow base 101 3 (.slice a vs.length c) vs.length ((mkVs k0 j ++ vs.drop j).flatMap V.cells) ∧ Mk (fun g => (Value.slice a vs.length c).ownBlock = some g) w wr) (fun _ i _ => vs.length - (intOf i).toNat)
  case atStart => exact ⟨0, by omega, rfl, by simp, by simpa [mkVs] using ho, Mk.refl _ _⟩
  case round =>
    obtain ⟨j, hj, rfl, rfl, ho1, hm⟩ := hrel
    have HO := hidX ho1
    have HM := hidX hm
    clear ho1 hm ho
    by_cases hjl : j < vs.length
    · obtain ⟨v, hvj⟩ : ∃ v, vs[j]? = some v := ⟨vs[j], by simp [hjl]⟩
      have hd : vs.drop j = v :: vs.drop (j + 1) := drop_cons hvj
      have hcells : (mkVs k0 j ++ vs.drop j).flatMap V.cells = (mkVs k0 j).flatMap V.cells ++ ([.int .i64 v.kind, .int .i64 v.num, .string v.sym] ++ (vs.drop (j + 1)).flatMap V.cells) := by
        rw [hd, List.flatMap_append, List.flatMap_cons]
        rfl
      have hAl : ((mkVs k0 j).flatMap V.cells).length = j * 3 := by rw [flat_len, mkVs_len]
      have ho2 := HO.out
      rw [hcells] at ho2
      obtain ⟨g, rfl, hbg, c0, f0⟩ := owns_cell (j := j * 3) (x := .int .i64 v.kind) ho2 (by rw [List.getElem?_append_right (by omega), hAl]; simp)
      obtain ⟨_, he1, _, c1, f1⟩ := owns_cell (j := j * 3 + 1) (x := .int .i64 v.num) ho2 (by rw [List.getElem?_append_right (by omega), hAl, show j * 3 + 1 - j * 3 = 1 by omega]; simp)
      obtain ⟨_, he2, _, c2, f2⟩ := owns_cell (j := j * 3 + 2) (x := .string v.sym) ho2 (by rw [List.getElem?_append_right (by omega), hAl, show j * 3 + 2 - j * 3 = 2 by omega]; simp)
      cases he1
      cases he2
      have hgl : g < wr.heap.size := World.block_lt_of_cell? wr ⟨g, _, none⟩ c0
      have hw1 : IntKind.i64.wrap (k0 + 3 * (j : Int) + 1) = k0 + 3 * (j : Int) + 1 := by rw [IntKind.wrap_i64]; omega
      have hw2 : IntKind.i64.wrap (k0 + 3 * (j : Int) + 1 + 1) = k0 + 3 * (j : Int) + 2 := by rw [IntKind.wrap_i64]; omega
      have hw3 : IntKind.i64.wrap (k0 + 3 * (j : Int) + 2 + 1) = k0 + 3 * ((j : Int) + 1) := by rw [IntKind.wrap_i64]; omega
      have H2 := hidX ho2
      clear ho2 hcells hd
      go_wp2_with (go_at_call 52; refine (markText_any (k0 + 3 * (j : Int) + 2) _ (by omega) (by omega)).mono ?_; rintro e w1 ⟨rfl, hb1⟩; obtain ⟨hc1, hf1⟩ := bcell hb1)
      have s1 := (((H2.out.stored (j * 3) (.int .i64 (k0 + 3 * (j : Int)))).1).stored (j * 3 + 1) (.int .i64 (k0 + 3 * (j : Int) + 1))).1
      have s2 := owns_of_block s1 (w' := w1) (fun g' hg' => hb1.block g' (by cases hg'; simpa using hgl))
      have s3 := (s2.stored (j * 3 + 2) (.string (mText (k0 + 3 * (j : Int) + 2)))).1
      rw [set3' hAl] at s3
      have hfin : (mkVs k0 j).flatMap V.cells ++ ([.int .i64 (k0 + 3 * (j : Int)), .int .i64 (k0 + 3 * (j : Int) + 1), .string (mText (k0 + 3 * (j : Int) + 2))] ++ (vs.drop (j + 1)).flatMap V.cells) = (mkVs k0 (j + 1) ++ vs.drop (j + 1)).flatMap V.cells := by
        rw [mkVs_succ, List.flatMap_append, List.flatMap_append]
        simp [V.cells, mkV, V.kind, V.num, V.sym]
      rw [hfin] at s3
      have m0 := fun (u : World) (o : Nat) (x : Value) => Mk.set (S := fun g' => (Value.slice (some ⟨g, 0, none⟩) vs.length c).ownBlock = some g') (w := u) (p := ⟨g, o, none⟩) rfl x
      have m1 := (HM.out.trans (m0 wr (j * 3) (.int .i64 (k0 + 3 * (j : Int))))).trans (m0 _ (j * 3 + 1) (.int .i64 (k0 + 3 * (j : Int) + 1)))
      have m2 := (m1.trans (Mk.of_below hb1)).trans (m0 _ (j * 3 + 2) (.string (mText (k0 + 3 * (j : Int) + 2))))
      have hcast : ((j + 1 : Nat) : Int) = (j : Int) + 1 := by omega
      clear m1 m0
      go_roundw
      case rel => exact ⟨j + 1, by omega, by go_num, by rw [hcast], s3, m2⟩
      case measure => simp [intOf]; omega
    · go_wp2
      go_ret
      obtain rfl : j = vs.length := by omega
      have := HO.out
      rw [List.drop_eq_nil_of_le (Nat.le_refl _), List.append_nil] at this
      exact ⟨rfl, this, HM.out⟩
theorem infoU8 : (Tryz.prog.info? 5).map (fun i => (i.zero, i.size, i.bytes)) = some (some (.int .u8 0), 1, 1) := by kernel_rfl
/-- 'make([]byte, n)'. -/
theorem run_make_bytes (n : Nat) (hb : n ≤ 1099511627776) (w : World) :
    (Instr.makeSlice 22 (.int .i64 (n : Int)) (.int .i64 (n : Int))).run Tryz.prog w = .ok (.slice (some ⟨w.heap.size, 0, none⟩) n n) (w.alloc (.cells (madeCells #[.int .u8 0] n) 5)) := by
  obtain ⟨i, hi, hz0, hz1, hz2⟩ := info_parts infoU8
  have hr := run_make (P := Tryz.prog) w 22 5 i _ Tryz.underlying22 hi hz0 .i64 .i64 n n (by omega) (Int.le_refl _) (by rw [hz2]; omega) (by omega)
  simp only [Int.toNat_natCast, hz1, Value.cells, Nat.mul_one] at hr
  exact hr
theorem made_bytes (w : World) (n : Nat) (hn : n ≤ maxLen) : (w.alloc (.cells (madeCells #[.int .u8 0] n) 5)).ownsRow w.heap.size 5 1 (.slice (some ⟨w.heap.size, 0, none⟩) n n) n (List.replicate n (.int .u8 0)) := by
  have hl : (madeCells #[.int .u8 0] n).toList = List.replicate n (.int .u8 0) := by
    unfold madeCells
    apply List.ext_getElem?
    intro i
    by_cases hi : i < n
    · simp [hi, Nat.mod_one]
    · simp [hi]
  refine ⟨by simp, .inr ⟨w.heap.size, n, _, rfl, Nat.le_refl _, heap_alloc_new _ _, Nat.le_refl _, hn, ?_, ?_⟩⟩
  · rw [← Array.length_toList, hl]
    simp
  · rw [hl]
    simp
set_option maxHeartbeats 1600000 in
theorem toByteS_any (a : Option Addr) (c : Nat) (l : Bs) (w : World) (hv : BysAt w a l) (hl : l.length ≤ 1048576) :
    Calls Tryz.prog 6 #[.slice a l.length c] w fun e w' => e = .returned (.slice (some ⟨w.heap.size, 0, none⟩) l.length l.length) ∧ w'.ownsRow w.heap.size 5 1 (.slice (some ⟨w.heap.size, 0, none⟩) l.length l.length) l.length (byV l) ∧ Below w.heap.size w w' := by
  have hmk := run_make_bytes l.length (by omega)
  have HS := hidX (made_bytes w l.length (by unfold maxLen; omega))
  go_enter Tryz.func6, Tryz.ntmps6
  go_wp2
  clear hmk
  go_loopw [4] (fun i wr => ∃ (k : Nat), k ≤ l.length ∧ i = .int .i64 k ∧ wr.ownsRow w.heap.size 5 1 (.slice (some ⟨w.heap.size, 0, none⟩) l.length l.length) l.length (byV (l.take k) ++ List.replicate (l.length - k) (.int .u8 0)) ∧ Below w.heap.size w wr) (fun i _ => l.length - (intOf i).toNat)
  case atStart => exact ⟨0, by omega, rfl, by simpa [byV] using HS.out, (Below.refl _ _).alloc (Nat.le_refl _) _⟩
  case round =>
    obtain ⟨k, hk, rfl, ho, hb⟩ := hrel
    have HO := hidX ho
    have HB := hidX hb
    by_cases hkl : k < l.length
    · obtain ⟨x, hxk⟩ : ∃ x, l[k]? = some x := ⟨l[k], by simp [hkl]⟩
      obtain ⟨b, o, rfl, _, c0⟩ := (hv.below hb) k x hxk
      obtain ⟨m, hm⟩ : ∃ m, l.length - k = m + 1 := ⟨l.length - (k + 1), by omega⟩
      have hbl : (byV (l.take k)).length = k := by rw [byV_len, List.length_take]; omega
      obtain ⟨g, hg, _, d0, f0⟩ := owns_cell (j := k) (x := .int .u8 0) ho (by rw [hm, List.getElem?_append_right (by omega), hbl]; simp)
      injection hg with hg
      injection hg with hg
      subst hg
      have i0 : (0 : Int) ≤ (k : Int) := by omega
      have i1 : (k : Int) < (l.length : Int) := by omega
      have s3 := (ho.stored k (.int .u8 (x.toNat : Int))).1
      have hset : (byV (l.take k) ++ List.replicate (l.length - k) (Value.int .u8 0)).set k (.int .u8 (x.toNat : Int)) = byV (l.take (k + 1)) ++ List.replicate (l.length - (k + 1)) (.int .u8 0) := by
        rw [hm, show l.length - (k + 1) = m by omega, List.replicate_succ, List.set_append_right _ _ (by omega), hbl, take_succ' l k x hxk]
        simp [byV]
      rw [hset] at s3
      have S3 := hidX s3
      clear s3 hset ho hb hm hxk
      go_wp2
      go_roundw
      case rel => exact ⟨k + 1, by omega, by go_num, S3.out, HB.out.setCell (Nat.le_refl _) _⟩
      case measure => simp [intOf]; omega
    · have i1 : ¬ (k : Int) < (l.length : Int) := by omega
      clear ho hb
      go_wp2
      go_ret
      obtain rfl : k = l.length := by omega
      have := HO.out
      rw [Nat.sub_self, List.take_of_length_le (Nat.le_refl _), List.replicate_zero, List.append_nil] at this
      exact ⟨rfl, this, HB.out⟩
set_option maxHeartbeats 1600000 in
theorem markByteS_mk (a : Option Addr) (c : Nat) (xs : List Value) (n base : Nat) (w : World) (ho : w.ownsRow base 5 1 (.slice a n c) n xs) (hxl : xs.length = n) (hl : n ≤ 1000000000000) :
    Calls Tryz.prog 10 #[.slice a n c, .int .i64 1] w fun e w' => e = .returned (.int .i64 (1 + (n : Int))) ∧ w'.ownsRow base 5 1 (.slice a n c) n (mkBy 1 n) ∧ MkO (Value.slice a n c).ownBlock w w' := by
  go_enter Tryz.func10, Tryz.ntmps10
  go_wp2
  go_loopw [1, 5] (fun kv i wr => ∃ (j : Nat), j ≤ n ∧ i = .int .i64 (j : Int) ∧ kv = .int .i64 (1 + (j : Int)) ∧ wr.ownsRow base 5 1 (.slice a n c) n (mkBy 1 j ++ xs.drop j) ∧ MkO (Value.slice a n c).ownBlock w wr) (fun _ i _ => n - (intOf i).toNat)
  case atStart => exact ⟨0, by omega, rfl, by simp, by simpa [mkBy] using ho, MkO.refl _ _⟩
  case round =>
    obtain ⟨j, hj, rfl, rfl, ho1, hm⟩ := hrel
    have HO := hidX ho1
    have HM := hidX hm
    clear ho1 hm ho
    by_cases hjl : j < n
    · obtain ⟨v, hvj⟩ : ∃ v, xs[j]? = some v := ⟨xs[j]'(by omega), by simp⟩
      have hd : xs.drop j = v :: xs.drop (j + 1) := drop_cons hvj
      have ho2 := HO.out
      rw [hd] at ho2
      obtain ⟨g, rfl, hbg, c0, f0⟩ := owns_cell (j := j) (x := v) ho2 (by rw [List.getElem?_append_right (by rw [mkBy_len]; omega), mkBy_len]; simp)
      have H2 := hidX ho2
      have hw1 : IntKind.i64.wrap (1 + (j : Int) + 1) = 1 + ((j : Int) + 1) := by rw [IntKind.wrap_i64]; omega
      have i0 : (0 : Int) ≤ (j : Int) := by omega
      have i1 : (j : Int) < (n : Int) := by omega
      clear ho2 hd hvj
      go_wp2
      have s3 := (H2.out.stored j (.int .u8 ((1 + (j : Int)) % 256))).1
      have hset : (mkBy 1 j ++ v :: xs.drop (j + 1)).set j (Value.int .u8 ((1 + (j : Int)) % 256)) = mkBy 1 (j + 1) ++ xs.drop (j + 1) := by
        rw [List.set_append_right _ _ (by rw [mkBy_len]; omega), mkBy_len, mkBy_succ]
        simp
      rw [hset] at s3
      have hcast : ((j + 1 : Nat) : Int) = (j : Int) + 1 := by omega
      go_roundw
      case rel => exact ⟨j + 1, by omega, by go_num, by rw [hcast], s3, HM.out.trans (MkO.set _)⟩
      case measure => simp [intOf]; omega
    · have i1 : ¬ (j : Int) < (n : Int) := by omega
      go_wp2
      go_ret
      obtain rfl : j = n := by omega
      have := HO.out
      rw [List.drop_eq_nil_of_le (by omega), List.append_nil] at this
      exact ⟨rfl, this, HM.out⟩

end Go.Proofs.YtdhpoagjmiligaaGreatDoor

namespace Go.Proofs.YtdhpoagjmiligaaGreatDoor
open Go.RowKit

section
variable {β γ : Type}
/-- How many marks a row takes. -/
def gSum (sz : β → Nat) : List β → Nat
  | [] => 0
  | x :: r => sz x + gSum sz r
/-- The row behind its marks. -/
def gMk (mk : Int → β → β) (sz : β → Nat) : Int → List β → List β
  | _, [] => []
  | k, x :: r => mk k x :: gMk mk sz (k + (sz x : Int)) r
theorem gSum_append (sz : β → Nat) (m : List β) : ∀ l : List β, gSum sz (l ++ m) = gSum sz l + gSum sz m
  | [] => by simp [gSum]
  | y :: r => by simp [gSum, gSum_append sz m r]; omega
theorem gSum_take {sz : β → Nat} {l : List β} {j : Nat} {x : β} (h : l[j]? = some x) : gSum sz (l.take (j + 1)) = gSum sz (l.take j) + sz x := by
  rw [take_succ' l j x h, gSum_append]
  simp [gSum]
theorem gSum_le (sz : β → Nat) (l : List β) (j : Nat) : gSum sz (l.take j) ≤ gSum sz l := by
  have h := gSum_append sz (l.drop j) (l.take j)
  rw [List.take_append_drop] at h
  omega
theorem gSum_const (n : Nat) : ∀ l : List β, gSum (fun _ => n) l = n * l.length
  | [] => by simp [gSum]
  | y :: r => by rw [gSum, gSum_const n r, List.length_cons, Nat.mul_succ]; omega
theorem gSum_bound {sz : β → Nat} {N : Nat} : ∀ (l : List β), (∀ x ∈ l, sz x ≤ N) → gSum sz l ≤ l.length * N
  | [], _ => by simp [gSum]
  | y :: r, h => by
    have h1 := h y (by simp)
    have h2 := gSum_bound r (fun x hx => h x (by simp [hx]))
    rw [gSum, List.length_cons, Nat.succ_mul]
    omega
theorem gSum_map {sz : β → Nat} {sz' : γ → Nat} {f : β → γ} (hf : ∀ x, sz' (f x) = sz x) : ∀ l : List β, gSum sz' (l.map f) = gSum sz l
  | [] => rfl
  | y :: r => by rw [List.map_cons, gSum, gSum, hf, gSum_map hf r]
theorem gMk_len (mk : Int → β → β) (sz : β → Nat) : ∀ (l : List β) (k : Int), (gMk mk sz k l).length = l.length
  | [], _ => rfl
  | y :: r, k => by rw [gMk, List.length_cons, List.length_cons, gMk_len mk sz r]
theorem gMk_snoc (mk : Int → β → β) (sz : β → Nat) (x : β) : ∀ (l : List β) (k : Int), gMk mk sz k (l ++ [x]) = gMk mk sz k l ++ [mk (k + (gSum sz l : Int)) x]
  | [], k => by simp [gMk, gSum]
  | y :: r, k => by
    rw [List.cons_append, gMk, gMk_snoc mk sz x r, gMk, gSum, List.cons_append, show k + (sz y : Int) + (gSum sz r : Int) = k + ((sz y + gSum sz r : Nat) : Int) by omega]
theorem gMk_take {mk : Int → β → β} {sz : β → Nat} {l : List β} {k : Int} {j : Nat} {x : β} (h : l[j]? = some x) : gMk mk sz k (l.take (j + 1)) = gMk mk sz k (l.take j) ++ [mk (k + (gSum sz (l.take j) : Int)) x] := by
  rw [take_succ' l j x h, gMk_snoc]
theorem gMk_at {mk : Int → β → β} {sz : β → Nat} {x : β} : ∀ {l : List β} {k : Int} {j : Nat}, l[j]? = some x → (gMk mk sz k l)[j]? = some (mk (k + (gSum sz (l.take j) : Int)) x)
  | [], _, _, h => by simp at h
  | y :: r, k, 0, h => by
    simp at h
    subst h
    simp [gMk, gSum]
  | y :: r, k, j + 1, h => by
    rw [gMk, List.getElem?_cons_succ, gMk_at (k := k + (sz y : Int)) (by simpa using h), List.take_succ_cons, gSum, show k + (sz y : Int) + (gSum sz (r.take j) : Int) = k + ((sz y + gSum sz (r.take j) : Nat) : Int) by omega]
theorem gMk_map {mk : Int → β → β} {sz : β → Nat} {mk' : Int → γ → γ} {sz' : γ → Nat} {f : β → γ} (hm : ∀ k x, f (mk k x) = mk' k (f x)) (hf : ∀ x, sz' (f x) = sz x) : ∀ (l : List β) (k : Int), (gMk mk sz k l).map f = gMk mk' sz' k (l.map f)
  | [], _ => rfl
  | y :: r, k => by rw [gMk, List.map_cons, List.map_cons, gMk, hm, hf, gMk_map hm hf r]
/-- The marks of one element, amid the others. -/
theorem gStep {sz : β → Nat} {M : List β} {x : β} {k0 : Int} {j : Nat} (hj : M[j]? = some x) (hk : 0 < k0) (hk' : k0 + (gSum sz M : Int) ≤ 100000000) : k0 + (gSum sz (M.take (j + 1)) : Int) = k0 + (gSum sz (M.take j) : Int) + (sz x : Int) ∧ 0 < k0 + (gSum sz (M.take j) : Int) ∧ k0 + (gSum sz (M.take j) : Int) + (sz x : Int) ≤ 100000000 := by
  have h1 := gSum_take (sz := sz) hj
  have h2 := gSum_le sz M (j + 1)
  omega
theorem flat_midG (f : β → List Value) (X Y : List β) (x : β) : (X ++ x :: Y).flatMap f = X.flatMap f ++ (f x ++ Y.flatMap f) := by
  rw [List.flatMap_append, List.flatMap_cons]
theorem flat_lenG {f : β → List Value} {m : Nat} : ∀ (l : List β), (∀ x ∈ l, (f x).length = m) → (l.flatMap f).length = l.length * m
  | [], _ => by simp
  | x :: r, h => by
    rw [List.flatMap_cons, List.length_append, flat_lenG r (fun y hy => h y (by simp [hy])), h x (by simp), List.length_cons, Nat.succ_mul]
    omega
theorem flat_atG {f : β → List Value} {m : Nat} {x : β} {v : Value} {j : Nat} : ∀ (l : List β) (i : Nat), (∀ x ∈ l, (f x).length = m) → l[i]? = some x → (f x)[j]? = some v → (l.flatMap f)[i * m + j]? = some v
  | [], i, _, h, _ => by simp at h
  | y :: r, 0, hm, h, hv => by
    simp at h
    subst h
    have hl : j < (f y).length := (List.getElem?_eq_some_iff.1 hv).1
    rw [List.flatMap_cons, List.getElem?_append_left (by omega)]
    simpa using hv
  | y :: r, i + 1, hm, h, hv => by
    have hy := hm y (by simp)
    have e : (i + 1) * m + j = (f y).length + (i * m + j) := by rw [hy, Nat.succ_mul]; omega
    rw [List.flatMap_cons, e, List.getElem?_append_right (by omega), Nat.add_sub_cancel_left]
    exact flat_atG r i (fun z hz => hm z (by simp [hz])) (by simpa using h) hv
/-- What owns its row can be read. -/
theorem RowsAt.of_owns {w : World} {B n c t m : Nat} {a : Option Addr} {f : γ → List Value} {R : World → List Value → β → Prop} {p : γ → β} {M : List γ} (h : w.ownsRow B t m (.slice a n c) n (M.flatMap f)) (hm : ∀ x ∈ M, (f x).length = m) (h0 : 0 < m) (hR : ∀ x ∈ M, R w (f x) (p x)) : RowsAt R none t m w a (M.map p) := by
  intro i y hy
  rw [List.getElem?_map, Option.map_eq_some_iff] at hy
  obtain ⟨x, hx, rfl⟩ := hy
  have hxm := List.mem_of_getElem? hx
  obtain ⟨v, hv⟩ : ∃ v, (f x)[0]? = some v := ⟨(f x)[0]'(by rw [hm x hxm]; exact h0), List.getElem?_eq_getElem _⟩
  obtain ⟨g, rfl, _, _, _⟩ := owns_cell h (flat_atG M i hm hx hv)
  refine ⟨g, 0, f x, rfl, Qb.bare _ _ _, hm x hxm, ?_, hR x hxm⟩
  intro j u hu
  obtain ⟨g', hg', _, hc, _⟩ := owns_cell h (flat_atG M i hm hx hu)
  cases hg'
  rwa [Nat.zero_add]
end
end Go.Proofs.YtdhpoagjmiligaaGreatDoor

namespace Go.Proofs.YtdhpoagjmiligaaGreatDoor
open Go.RowKit
attribute [local go_sem ↓] Go.wp_at_zero Go.wp_at_succ

theorem owns_cells {w : World} {B t m n : Nat} {v : Value} {xs ys : List Value} (h : w.ownsRow B t m v n xs) (e : xs = ys) : w.ownsRow B t m v n ys := e ▸ h
/-- A number as a byte. -/
def byK (k : Int) : Int := k % 256
def mkT (k : Int) (_ : Tm) : Tm := ⟨k, k + 1, mText (k + 1 + 1), (k + 1 + 1 + 1, k + 1 + 1 + 1 + 1, mText (k + 1 + 1 + 1 + 1 + 1))⟩
def mkE (k : Int) (_ : Ex) : Ex := ⟨k, byK (k + 1), mText (k + 1 + 1), (k + 1 + 1 + 1, k + 1 + 1 + 1 + 1, mText (k + 1 + 1 + 1 + 1 + 1)), k + 1 + 1 + 1 + 1 + 1 + 1, k + 1 + 1 + 1 + 1 + 1 + 1 + 1⟩
theorem set6G {p : Nat} {A B : List Value} (hA : A.length = p) (x0 x1 x2 x3 x4 x5 y0 y1 y2 y3 y4 y5 : Value) : (((((((A ++ ([x0, x1, x2, x3, x4, x5] ++ B)).set (p) y0).set (p + 1) y1).set (p + 2) y2).set (p + 3) y3).set (p + 4) y4).set (p + 5) y5) = A ++ ([y0, y1, y2, y3, y4, y5] ++ B) := by
  subst hA
  simp
theorem set8G {p : Nat} {A B : List Value} (hA : A.length = p) (x0 x1 x2 x3 x4 x5 x6 x7 y0 y1 y2 y3 y4 y5 y6 y7 : Value) : (((((((((A ++ ([x0, x1, x2, x3, x4, x5, x6, x7] ++ B)).set (p) y0).set (p + 1) y1).set (p + 2) y2).set (p + 3) y3).set (p + 4) y4).set (p + 5) y5).set (p + 6) y6).set (p + 7) y7) = A ++ ([y0, y1, y2, y3, y4, y5, y6, y7] ++ B) := by
  subst hA
  simp
set_option maxRecDepth 100000 in
set_option maxHeartbeats 6400000 in
theorem markTermS_mk (a : Option Addr) (c : Nat) (M : List Tm) (B : Nat) (k0 : Int) (w : World) (ho : w.ownsRow B 111 6 (.slice a M.length c) M.length (M.flatMap tmC)) (hl : M.length ≤ 1048576) (hk : 0 < k0) (hk' : k0 + (gSum (fun _ => 6) M : Int) ≤ 100000000) :
    Calls Tryz.prog 92 #[.slice a M.length c, .int .i64 k0] w fun e w' => e = .returned (.int .i64 (k0 + (gSum (fun _ => 6) M : Int))) ∧ w'.ownsRow B 111 6 (.slice a M.length c) M.length ((gMk mkT (fun _ => 6) k0 M).flatMap tmC) ∧ Mk (fun g => (Value.slice a M.length c).ownBlock = some g) w w' := by
  go_enter Tryz.func92, Tryz.ntmps92
  go_wp2
  go_loopw [1, 5] (fun kv i wr => ∃ (j : Nat), j ≤ M.length ∧ i = .int .i64 j ∧ kv = .int .i64 (k0 + (gSum (fun _ => 6) (M.take j) : Int)) ∧ wr.ownsRow B 111 6 (.slice a M.length c) M.length ((gMk mkT (fun _ => 6) k0 (M.take j) ++ M.drop j).flatMap tmC) ∧ Mk (fun g => (Value.slice a M.length c).ownBlock = some g) w wr) (fun _ i _ => M.length - (intOf i).toNat)
  case atStart => exact ⟨0, by omega, rfl, by simp [gSum], by simpa [gMk] using ho, Mk.refl _ _⟩
  case round =>
    obtain ⟨j, hj, rfl, rfl, ho1, hm⟩ := hrel
    have HM := hidX hm
    clear hm ho
    by_cases hjl : j < M.length
    · obtain ⟨x, hxj⟩ : ∃ x, M[j]? = some x := ⟨M[j], by simp [hjl]⟩
      obtain ⟨hKn, hKpos, hKle⟩ := gStep (sz := fun _ => 6) hxj hk hk'
      have hMn := gMk_take (mk := mkT) (sz := fun _ => 6) (k := k0) hxj
      have hAl : (gMk mkT (fun _ => 6) k0 (M.take j)).length = j := by rw [gMk_len, List.length_take]; omega
      have hfl : ((gMk mkT (fun _ => 6) k0 (M.take j)).flatMap tmC).length = j * 6 := by rw [flat_lenG (m := 6) _ (fun _ _ => rfl), hAl]
      rw [drop_cons hxj, flat_midG] at ho1
      obtain ⟨m0, e0⟩ : ∃ K : Int, K = k0 + (gSum (fun _ => 6) (M.take j) : Int) := ⟨_, rfl⟩
      rw [← e0] at hKn hKpos hKle hMn
      have g0 : 0 < m0 ∧ m0 + ((6 : Nat) : Int) ≤ 100000000 := ⟨hKpos, hKle⟩
      rw [← e0]
      obtain ⟨m1, e1⟩ : ∃ x : Int, x = m0 + 1 := ⟨_, rfl⟩
      obtain ⟨hw1, g1⟩ := wrapS e1 g0
      obtain ⟨m2, e2⟩ : ∃ x : Int, x = m1 + 1 := ⟨_, rfl⟩
      obtain ⟨hw2, g2⟩ := wrapS e2 g1
      obtain ⟨m3, e3⟩ : ∃ x : Int, x = m2 + 1 := ⟨_, rfl⟩
      obtain ⟨hw3, g3⟩ := wrapS e3 g2
      obtain ⟨m4, e4⟩ : ∃ x : Int, x = m3 + 1 := ⟨_, rfl⟩
      obtain ⟨hw4, g4⟩ := wrapS e4 g3
      obtain ⟨m5, e5⟩ : ∃ x : Int, x = m4 + 1 := ⟨_, rfl⟩
      obtain ⟨hw5, g5⟩ := wrapS e5 g4
      obtain ⟨m6, e6⟩ : ∃ x : Int, x = m5 + 1 := ⟨_, rfl⟩
      obtain ⟨hw6, g6⟩ := wrapS e6 g5
      have b2 := bndS g2
      have b5 := bndS g5
      have hE : m6 = k0 + (gSum (fun _ => 6) (M.take (j + 1)) : Int) := by
        rw [hKn, e6, e5, e4, e3, e2, e1]
        omega
      have hML : ([.int .i64 m0, .int .i64 m1, .string (mText m2), .int .i64 m3, .int .i64 m4, .string (mText m5)] : List Value) = tmC (mkT m0 x) := by
        rw [e5, e4, e3, e2, e1]
        rfl
      obtain ⟨g, rfl, hbg, c0, f0⟩ := owns_cell (j := j * 6) (x := .int .i64 x.kind) ho1 (by rw [List.getElem?_append_right (by omega), hfl, show j * 6 - j * 6 = 0 by omega]; rfl)
      obtain ⟨_, he1, _, c1, f1⟩ := owns_cell (j := j * 6 + 1) (x := .int .i64 x.op) ho1 (by rw [List.getElem?_append_right (by omega), hfl, show j * 6 + 1 - j * 6 = 1 by omega]; rfl)
      cases he1
      obtain ⟨_, he2, _, c2, f2⟩ := owns_cell (j := j * 6 + 2) (x := .string x.var) ho1 (by rw [List.getElem?_append_right (by omega), hfl, show j * 6 + 2 - j * 6 = 2 by omega]; rfl)
      cases he2
      obtain ⟨_, he3, _, c3, f3⟩ := owns_cell (j := j * 6 + 3) (x := .int .i64 x.val.kind) ho1 (by rw [List.getElem?_append_right (by omega), hfl, show j * 6 + 3 - j * 6 = 3 by omega]; rfl)
      cases he3
      obtain ⟨_, he4, _, c4, f4⟩ := owns_cell (j := j * 6 + 4) (x := .int .i64 x.val.num) ho1 (by rw [List.getElem?_append_right (by omega), hfl, show j * 6 + 4 - j * 6 = 4 by omega]; rfl)
      cases he4
      obtain ⟨_, he5, _, c5, f5⟩ := owns_cell (j := j * 6 + 5) (x := .string x.val.sym) ho1 (by rw [List.getElem?_append_right (by omega), hfl, show j * 6 + 5 - j * 6 = 5 by omega]; rfl)
      cases he5
      have hgl : g < wr.heap.size := World.block_lt_of_cell? wr ⟨g, _, none⟩ c0
      have HO := hidX ho1
      have HE := hidX hE
      have HL := hidX hML
      have HN := hidX hMn
      have HF := hidX hfl
      clear ho1 hE hML hMn hfl hAl hKn hKpos hKle e0 e1 e2 e3 e4 e5 e6 g0 g1 g2 g3 g4 g5 g6
      go_wp2_with fail
      refine (markText_any m2 _ b2.1 b2.2).mono ?_
      rintro e w1 ⟨rfl, hb1⟩
      obtain ⟨hc1, hf1⟩ := bcell hb1
      have hgl1 : g < w1.heap.size := by
        have := hb1.size
        (try simp at this)
        omega
      go_wp2_with fail
      refine (markText_any m5 _ b5.1 b5.2).mono ?_
      rintro e w2 ⟨rfl, hb2⟩
      obtain ⟨hc2, hf2⟩ := bcell hb2
      have hgl2 : g < w2.heap.size := by
        have := hb2.size
        (try simp at this)
        omega
      go_wp2_with fail
      have m0' := fun (u : World) (p : Nat) (y : Value) => Mk.set (S := fun g' => (Value.slice (some ⟨g, 0, none⟩) M.length c).ownBlock = some g') (w := u) (p := ⟨g, p, none⟩) rfl y
      have s0 := (HO.out.stored (j * 6) (.int .i64 m0)).1
      have t0 := HM.out.trans (m0' _ (j * 6) (.int .i64 m0))
      have s1 := (s0.stored (j * 6 + 1) (.int .i64 m1)).1
      have t1 := t0.trans (m0' _ (j * 6 + 1) (.int .i64 m1))
      have s2 := owns_of_block s1 (w' := w1) (fun g' hg' => hb1.block g' (by cases hg'; simpa using hgl))
      have t2 := t1.trans (Mk.of_below hb1)
      have s3 := (s2.stored (j * 6 + 2) (.string (mText m2))).1
      have t3 := t2.trans (m0' _ (j * 6 + 2) (.string (mText m2)))
      have s4 := (s3.stored (j * 6 + 3) (.int .i64 m3)).1
      have t4 := t3.trans (m0' _ (j * 6 + 3) (.int .i64 m3))
      have s5 := (s4.stored (j * 6 + 4) (.int .i64 m4)).1
      have t5 := t4.trans (m0' _ (j * 6 + 4) (.int .i64 m4))
      have s6 := owns_of_block s5 (w' := w2) (fun g' hg' => hb2.block g' (by cases hg'; simpa using hgl1))
      have t6 := t5.trans (Mk.of_below hb2)
      have s7 := (s6.stored (j * 6 + 5) (.string (mText m5))).1
      have t7 := t6.trans (m0' _ (j * 6 + 5) (.string (mText m5)))
      have r1 := s7
      replace r1 := owns_cells r1 (set6G HF.out _ _ _ _ _ _ _ _ _ _ _ _)
      rw [HL.out, show ((gMk mkT (fun _ => 6) k0 (M.take j)).flatMap tmC ++ (tmC (mkT m0 x) ++ (M.drop (j + 1)).flatMap tmC)) = (gMk mkT (fun _ => 6) k0 (M.take (j + 1)) ++ M.drop (j + 1)).flatMap tmC from by rw [HN.out, List.append_assoc, List.singleton_append, flat_midG]] at r1
      have R1 := hidX r1
      have T1 := hidX t7
      clear r1 m0' s0 t0 s1 t1 s2 t2 s3 t3 s4 t4 s5 t5 s6 t6 s7 t7
      go_roundw
      case rel => exact ⟨j + 1, by omega, by go_num, by rw [HE.out], R1.out, T1.out⟩
      case measure => simp [intOf]; omega
    · go_wp2
      go_ret
      obtain rfl : j = M.length := by omega
      rw [List.drop_eq_nil_of_le (Nat.le_refl _), List.append_nil, List.take_of_length_le (Nat.le_refl _)] at ho1
      rw [List.take_of_length_le (Nat.le_refl _)]
      exact ⟨rfl, ho1, HM.out⟩
set_option maxRecDepth 100000 in
set_option maxHeartbeats 6400000 in
theorem heldTermS_mk (a : Option Addr) (c : Nat) (M : List Tm) (k0 : Int) (w : World) {q : Option Nat} (hv : TmsAt q w a (gMk mkT (fun _ => 6) k0 M)) (hl : M.length ≤ 1048576) (hk : 0 < k0) (hk' : k0 + (gSum (fun _ => 6) M : Int) ≤ 100000000) :
    Calls Tryz.prog 94 #[.slice a M.length c, .int .i64 k0] w fun e w' => e = .returned (.int .i64 (k0 + (gSum (fun _ => 6) M : Int))) ∧ Below w.heap.size w w' := by
  go_enter Tryz.func94, Tryz.ntmps94
  go_wp2
  go_loopw [1, 5] (fun kv i wr => ∃ (j : Nat), j ≤ M.length ∧ i = .int .i64 j ∧ kv = .int .i64 (k0 + (gSum (fun _ => 6) (M.take j) : Int)) ∧ Below w.heap.size w wr) (fun _ i _ => M.length - (intOf i).toNat)
  case atStart => exact ⟨0, by omega, rfl, by simp [gSum], Below.refl _ _⟩
  case round =>
    obtain ⟨j, hj, rfl, rfl, hb⟩ := hrel
    by_cases hjl : j < M.length
    · obtain ⟨x, hxj⟩ : ∃ x, M[j]? = some x := ⟨M[j], by simp [hjl]⟩
      obtain ⟨hKn, hKpos, hKle⟩ := gStep (sz := fun _ => 6) hxj hk hk'
      have hat := gMk_at (mk := mkT) (sz := fun _ => 6) (k := k0) hxj
      obtain ⟨m0, e0⟩ : ∃ K : Int, K = k0 + (gSum (fun _ => 6) (M.take j) : Int) := ⟨_, rfl⟩
      rw [← e0] at hKn hKpos hKle hat
      have g0 : 0 < m0 ∧ m0 + ((6 : Nat) : Int) ≤ 100000000 := ⟨hKpos, hKle⟩
      rw [← e0]
      obtain ⟨m1, e1⟩ : ∃ x : Int, x = m0 + 1 := ⟨_, rfl⟩
      obtain ⟨hw1, g1⟩ := wrapS e1 g0
      obtain ⟨m2, e2⟩ : ∃ x : Int, x = m1 + 1 := ⟨_, rfl⟩
      obtain ⟨hw2, g2⟩ := wrapS e2 g1
      obtain ⟨m3, e3⟩ : ∃ x : Int, x = m2 + 1 := ⟨_, rfl⟩
      obtain ⟨hw3, g3⟩ := wrapS e3 g2
      obtain ⟨m4, e4⟩ : ∃ x : Int, x = m3 + 1 := ⟨_, rfl⟩
      obtain ⟨hw4, g4⟩ := wrapS e4 g3
      obtain ⟨m5, e5⟩ : ∃ x : Int, x = m4 + 1 := ⟨_, rfl⟩
      obtain ⟨hw5, g5⟩ := wrapS e5 g4
      obtain ⟨m6, e6⟩ : ∃ x : Int, x = m5 + 1 := ⟨_, rfl⟩
      obtain ⟨hw6, g6⟩ := wrapS e6 g5
      have b2 := bndS g2
      have b5 := bndS g5
      have hE : m6 = k0 + (gSum (fun _ => 6) (M.take (j + 1)) : Int) := by
        rw [hKn, e6, e5, e4, e3, e2, e1]
        omega
      obtain ⟨b, o, rfl, _, d0, d1, d2, d3, d4, d5⟩ := (TmsAt.below hv hb).get hat
      have c0 : wr.cell? ⟨b, o + j * 6, none⟩ = some (.int .i64 m0) := d0
      have c1 : wr.cell? ⟨b, o + j * 6 + 1, none⟩ = some (.int .i64 m1) := by
        rw [e1]
        exact d1
      have c2 : wr.cell? ⟨b, o + j * 6 + 2, none⟩ = some (.string (mText m2)) := by
        rw [e2, e1]
        exact d2
      have c3 : wr.cell? ⟨b, o + j * 6 + 3, none⟩ = some (.int .i64 m3) := by
        rw [e3, e2, e1]
        exact d3
      have c4 : wr.cell? ⟨b, o + j * 6 + 4, none⟩ = some (.int .i64 m4) := by
        rw [e4, e3, e2, e1]
        exact d4
      have c5 : wr.cell? ⟨b, o + j * 6 + 5, none⟩ = some (.string (mText m5)) := by
        rw [e5, e4, e3, e2, e1]
        exact d5
      have HE := hidX hE
      have HB := hidX hb
      clear hE hat hKn hKpos hKle hb e0 e1 e2 e3 e4 e5 e6 g0 g1 g2 g3 g4 g5 g6 d0 d1 d2 d3 d4 d5
      go_wp2_with fail
      go_region_held3 (fun w' => w'.cell? ⟨b, o + j * 6 + 2, none⟩ = some (.string (mText m2))) ((first | with_reducible exact cell_below hb1 (by assumption) | exact c2))
        ((go_at_call 52; refine (markText_any m2 _ b2.1 b2.2).mono ?_; rintro e w1 ⟨rfl, hb1⟩))
      replace c3 := cell_below hb1 c3
      replace c4 := cell_below hb1 c4
      replace c5 := cell_below hb1 c5
      have HB1 := hidX (HB.out.drew.trans (hb1.mono HB.out.size))
      go_wp2_with fail
      go_region_held3 (fun w' => w'.cell? ⟨b, o + j * 6 + 5, none⟩ = some (.string (mText m5))) ((first | with_reducible exact cell_below hb2 (by assumption) | exact c5))
        ((go_at_call 52; refine (markText_any m5 _ b5.1 b5.2).mono ?_; rintro e w2 ⟨rfl, hb2⟩))
      have HB2 := hidX (HB1.out.drew.trans (hb2.mono HB1.out.size))
      go_wp2
      go_roundw
      case rel => exact ⟨j + 1, by omega, by go_num, by rw [HE.out], HB2.out⟩
      case measure => simp [intOf]; omega
    · go_wp2
      go_ret
      obtain rfl : j = M.length := by omega
      rw [List.take_of_length_le (Nat.le_refl _)]
      exact ⟨rfl, hb⟩
set_option maxRecDepth 100000 in
set_option maxHeartbeats 6400000 in
theorem markExprS_mk (a : Option Addr) (c : Nat) (M : List Ex) (B : Nat) (k0 : Int) (w : World) (ho : w.ownsRow B 139 8 (.slice a M.length c) M.length (M.flatMap exC)) (hl : M.length ≤ 1048576) (hk : 0 < k0) (hk' : k0 + (gSum (fun _ => 8) M : Int) ≤ 100000000) :
    Calls Tryz.prog 54 #[.slice a M.length c, .int .i64 k0] w fun e w' => e = .returned (.int .i64 (k0 + (gSum (fun _ => 8) M : Int))) ∧ w'.ownsRow B 139 8 (.slice a M.length c) M.length ((gMk mkE (fun _ => 8) k0 M).flatMap exC) ∧ Mk (fun g => (Value.slice a M.length c).ownBlock = some g) w w' := by
  go_enter Tryz.func54, Tryz.ntmps54
  go_wp2
  go_loopw [1, 5] (fun kv i wr => ∃ (j : Nat), j ≤ M.length ∧ i = .int .i64 j ∧ kv = .int .i64 (k0 + (gSum (fun _ => 8) (M.take j) : Int)) ∧ wr.ownsRow B 139 8 (.slice a M.length c) M.length ((gMk mkE (fun _ => 8) k0 (M.take j) ++ M.drop j).flatMap exC) ∧ Mk (fun g => (Value.slice a M.length c).ownBlock = some g) w wr) (fun _ i _ => M.length - (intOf i).toNat)
  case atStart => exact ⟨0, by omega, rfl, by simp [gSum], by simpa [gMk] using ho, Mk.refl _ _⟩
  case round =>
    obtain ⟨j, hj, rfl, rfl, ho1, hm⟩ := hrel
    have HM := hidX hm
    clear hm ho
    by_cases hjl : j < M.length
    · obtain ⟨x, hxj⟩ : ∃ x, M[j]? = some x := ⟨M[j], by simp [hjl]⟩
      obtain ⟨hKn, hKpos, hKle⟩ := gStep (sz := fun _ => 8) hxj hk hk'
      have hMn := gMk_take (mk := mkE) (sz := fun _ => 8) (k := k0) hxj
      have hAl : (gMk mkE (fun _ => 8) k0 (M.take j)).length = j := by rw [gMk_len, List.length_take]; omega
      have hfl : ((gMk mkE (fun _ => 8) k0 (M.take j)).flatMap exC).length = j * 8 := by rw [flat_lenG (m := 8) _ (fun _ _ => rfl), hAl]
      rw [drop_cons hxj, flat_midG] at ho1
      obtain ⟨m0, e0⟩ : ∃ K : Int, K = k0 + (gSum (fun _ => 8) (M.take j) : Int) := ⟨_, rfl⟩
      rw [← e0] at hKn hKpos hKle hMn
      have g0 : 0 < m0 ∧ m0 + ((8 : Nat) : Int) ≤ 100000000 := ⟨hKpos, hKle⟩
      rw [← e0]
      obtain ⟨m1, e1⟩ : ∃ x : Int, x = m0 + 1 := ⟨_, rfl⟩
      obtain ⟨hw1, g1⟩ := wrapS e1 g0
      obtain ⟨m2, e2⟩ : ∃ x : Int, x = m1 + 1 := ⟨_, rfl⟩
      obtain ⟨hw2, g2⟩ := wrapS e2 g1
      obtain ⟨m3, e3⟩ : ∃ x : Int, x = m2 + 1 := ⟨_, rfl⟩
      obtain ⟨hw3, g3⟩ := wrapS e3 g2
      obtain ⟨m4, e4⟩ : ∃ x : Int, x = m3 + 1 := ⟨_, rfl⟩
      obtain ⟨hw4, g4⟩ := wrapS e4 g3
      obtain ⟨m5, e5⟩ : ∃ x : Int, x = m4 + 1 := ⟨_, rfl⟩
      obtain ⟨hw5, g5⟩ := wrapS e5 g4
      obtain ⟨m6, e6⟩ : ∃ x : Int, x = m5 + 1 := ⟨_, rfl⟩
      obtain ⟨hw6, g6⟩ := wrapS e6 g5
      obtain ⟨m7, e7⟩ : ∃ x : Int, x = m6 + 1 := ⟨_, rfl⟩
      obtain ⟨hw7, g7⟩ := wrapS e7 g6
      obtain ⟨m8, e8⟩ : ∃ x : Int, x = m7 + 1 := ⟨_, rfl⟩
      obtain ⟨hw8, g8⟩ := wrapS e8 g7
      have b2 := bndS g2
      have b5 := bndS g5
      have hE : m8 = k0 + (gSum (fun _ => 8) (M.take (j + 1)) : Int) := by
        rw [hKn, e8, e7, e6, e5, e4, e3, e2, e1]
        omega
      have hML : ([.int .i64 m0, .int .u8 (byK m1), .string (mText m2), .int .i64 m3, .int .i64 m4, .string (mText m5), .int .i64 m6, .int .i64 m7] : List Value) = exC (mkE m0 x) := by
        rw [e7, e6, e5, e4, e3, e2, e1]
        rfl
      obtain ⟨g, rfl, hbg, c0, f0⟩ := owns_cell (j := j * 8) (x := .int .i64 x.kind) ho1 (by rw [List.getElem?_append_right (by omega), hfl, show j * 8 - j * 8 = 0 by omega]; rfl)
      obtain ⟨_, he1, _, c1, f1⟩ := owns_cell (j := j * 8 + 1) (x := .int .u8 x.op) ho1 (by rw [List.getElem?_append_right (by omega), hfl, show j * 8 + 1 - j * 8 = 1 by omega]; rfl)
      cases he1
      obtain ⟨_, he2, _, c2, f2⟩ := owns_cell (j := j * 8 + 2) (x := .string x.var) ho1 (by rw [List.getElem?_append_right (by omega), hfl, show j * 8 + 2 - j * 8 = 2 by omega]; rfl)
      cases he2
      obtain ⟨_, he3, _, c3, f3⟩ := owns_cell (j := j * 8 + 3) (x := .int .i64 x.val.kind) ho1 (by rw [List.getElem?_append_right (by omega), hfl, show j * 8 + 3 - j * 8 = 3 by omega]; rfl)
      cases he3
      obtain ⟨_, he4, _, c4, f4⟩ := owns_cell (j := j * 8 + 4) (x := .int .i64 x.val.num) ho1 (by rw [List.getElem?_append_right (by omega), hfl, show j * 8 + 4 - j * 8 = 4 by omega]; rfl)
      cases he4
      obtain ⟨_, he5, _, c5, f5⟩ := owns_cell (j := j * 8 + 5) (x := .string x.val.sym) ho1 (by rw [List.getElem?_append_right (by omega), hfl, show j * 8 + 5 - j * 8 = 5 by omega]; rfl)
      cases he5
      obtain ⟨_, he6, _, c6, f6⟩ := owns_cell (j := j * 8 + 6) (x := .int .i64 x.a) ho1 (by rw [List.getElem?_append_right (by omega), hfl, show j * 8 + 6 - j * 8 = 6 by omega]; rfl)
      cases he6
      obtain ⟨_, he7, _, c7, f7⟩ := owns_cell (j := j * 8 + 7) (x := .int .i64 x.b) ho1 (by rw [List.getElem?_append_right (by omega), hfl, show j * 8 + 7 - j * 8 = 7 by omega]; rfl)
      cases he7
      have hgl : g < wr.heap.size := World.block_lt_of_cell? wr ⟨g, _, none⟩ c0
      have HO := hidX ho1
      have HE := hidX hE
      have HL := hidX hML
      have HN := hidX hMn
      have HF := hidX hfl
      clear ho1 hE hML hMn hfl hAl hKn hKpos hKle e0 e1 e2 e3 e4 e5 e6 e7 e8 g0 g1 g2 g3 g4 g5 g6 g7 g8
      go_wp2_with fail
      refine (markText_any m2 _ b2.1 b2.2).mono ?_
      rintro e w1 ⟨rfl, hb1⟩
      obtain ⟨hc1, hf1⟩ := bcell hb1
      have hgl1 : g < w1.heap.size := by
        have := hb1.size
        (try simp at this)
        omega
      go_wp2_with fail
      refine (markText_any m5 _ b5.1 b5.2).mono ?_
      rintro e w2 ⟨rfl, hb2⟩
      obtain ⟨hc2, hf2⟩ := bcell hb2
      have hgl2 : g < w2.heap.size := by
        have := hb2.size
        (try simp at this)
        omega
      go_wp2_with fail
      have m0' := fun (u : World) (p : Nat) (y : Value) => Mk.set (S := fun g' => (Value.slice (some ⟨g, 0, none⟩) M.length c).ownBlock = some g') (w := u) (p := ⟨g, p, none⟩) rfl y
      have s0 := (HO.out.stored (j * 8) (.int .i64 m0)).1
      have t0 := HM.out.trans (m0' _ (j * 8) (.int .i64 m0))
      have s1 := (s0.stored (j * 8 + 1) (.int .u8 (byK m1))).1
      have t1 := t0.trans (m0' _ (j * 8 + 1) (.int .u8 (byK m1)))
      have s2 := owns_of_block s1 (w' := w1) (fun g' hg' => hb1.block g' (by cases hg'; simpa using hgl))
      have t2 := t1.trans (Mk.of_below hb1)
      have s3 := (s2.stored (j * 8 + 2) (.string (mText m2))).1
      have t3 := t2.trans (m0' _ (j * 8 + 2) (.string (mText m2)))
      have s4 := (s3.stored (j * 8 + 3) (.int .i64 m3)).1
      have t4 := t3.trans (m0' _ (j * 8 + 3) (.int .i64 m3))
      have s5 := (s4.stored (j * 8 + 4) (.int .i64 m4)).1
      have t5 := t4.trans (m0' _ (j * 8 + 4) (.int .i64 m4))
      have s6 := owns_of_block s5 (w' := w2) (fun g' hg' => hb2.block g' (by cases hg'; simpa using hgl1))
      have t6 := t5.trans (Mk.of_below hb2)
      have s7 := (s6.stored (j * 8 + 5) (.string (mText m5))).1
      have t7 := t6.trans (m0' _ (j * 8 + 5) (.string (mText m5)))
      have s8 := (s7.stored (j * 8 + 6) (.int .i64 m6)).1
      have t8 := t7.trans (m0' _ (j * 8 + 6) (.int .i64 m6))
      have s9 := (s8.stored (j * 8 + 7) (.int .i64 m7)).1
      have t9 := t8.trans (m0' _ (j * 8 + 7) (.int .i64 m7))
      have r1 := s9
      replace r1 := owns_cells r1 (set8G HF.out _ _ _ _ _ _ _ _ _ _ _ _ _ _ _ _)
      rw [HL.out, show ((gMk mkE (fun _ => 8) k0 (M.take j)).flatMap exC ++ (exC (mkE m0 x) ++ (M.drop (j + 1)).flatMap exC)) = (gMk mkE (fun _ => 8) k0 (M.take (j + 1)) ++ M.drop (j + 1)).flatMap exC from by rw [HN.out, List.append_assoc, List.singleton_append, flat_midG]] at r1
      have R1 := hidX r1
      have T1 := hidX t9
      clear r1 m0' s0 t0 s1 t1 s2 t2 s3 t3 s4 t4 s5 t5 s6 t6 s7 t7 s8 t8 s9 t9
      go_roundw
      case rel => exact ⟨j + 1, by omega, by go_num, by rw [HE.out], R1.out, T1.out⟩
      case measure => simp [intOf]; omega
    · go_wp2
      go_ret
      obtain rfl : j = M.length := by omega
      rw [List.drop_eq_nil_of_le (Nat.le_refl _), List.append_nil, List.take_of_length_le (Nat.le_refl _)] at ho1
      rw [List.take_of_length_le (Nat.le_refl _)]
      exact ⟨rfl, ho1, HM.out⟩
set_option maxRecDepth 100000 in
set_option maxHeartbeats 6400000 in
theorem heldExprS_mk (a : Option Addr) (c : Nat) (M : List Ex) (k0 : Int) (w : World) {q : Option Nat} (hv : ExsAt q w a (gMk mkE (fun _ => 8) k0 M)) (hl : M.length ≤ 1048576) (hk : 0 < k0) (hk' : k0 + (gSum (fun _ => 8) M : Int) ≤ 100000000) :
    Calls Tryz.prog 57 #[.slice a M.length c, .int .i64 k0] w fun e w' => e = .returned (.int .i64 (k0 + (gSum (fun _ => 8) M : Int))) ∧ Below w.heap.size w w' := by
  go_enter Tryz.func57, Tryz.ntmps57
  go_wp2
  go_loopw [1, 5] (fun kv i wr => ∃ (j : Nat), j ≤ M.length ∧ i = .int .i64 j ∧ kv = .int .i64 (k0 + (gSum (fun _ => 8) (M.take j) : Int)) ∧ Below w.heap.size w wr) (fun _ i _ => M.length - (intOf i).toNat)
  case atStart => exact ⟨0, by omega, rfl, by simp [gSum], Below.refl _ _⟩
  case round =>
    obtain ⟨j, hj, rfl, rfl, hb⟩ := hrel
    by_cases hjl : j < M.length
    · obtain ⟨x, hxj⟩ : ∃ x, M[j]? = some x := ⟨M[j], by simp [hjl]⟩
      obtain ⟨hKn, hKpos, hKle⟩ := gStep (sz := fun _ => 8) hxj hk hk'
      have hat := gMk_at (mk := mkE) (sz := fun _ => 8) (k := k0) hxj
      obtain ⟨m0, e0⟩ : ∃ K : Int, K = k0 + (gSum (fun _ => 8) (M.take j) : Int) := ⟨_, rfl⟩
      rw [← e0] at hKn hKpos hKle hat
      have g0 : 0 < m0 ∧ m0 + ((8 : Nat) : Int) ≤ 100000000 := ⟨hKpos, hKle⟩
      rw [← e0]
      obtain ⟨m1, e1⟩ : ∃ x : Int, x = m0 + 1 := ⟨_, rfl⟩
      obtain ⟨hw1, g1⟩ := wrapS e1 g0
      obtain ⟨m2, e2⟩ : ∃ x : Int, x = m1 + 1 := ⟨_, rfl⟩
      obtain ⟨hw2, g2⟩ := wrapS e2 g1
      obtain ⟨m3, e3⟩ : ∃ x : Int, x = m2 + 1 := ⟨_, rfl⟩
      obtain ⟨hw3, g3⟩ := wrapS e3 g2
      obtain ⟨m4, e4⟩ : ∃ x : Int, x = m3 + 1 := ⟨_, rfl⟩
      obtain ⟨hw4, g4⟩ := wrapS e4 g3
      obtain ⟨m5, e5⟩ : ∃ x : Int, x = m4 + 1 := ⟨_, rfl⟩
      obtain ⟨hw5, g5⟩ := wrapS e5 g4
      obtain ⟨m6, e6⟩ : ∃ x : Int, x = m5 + 1 := ⟨_, rfl⟩
      obtain ⟨hw6, g6⟩ := wrapS e6 g5
      obtain ⟨m7, e7⟩ : ∃ x : Int, x = m6 + 1 := ⟨_, rfl⟩
      obtain ⟨hw7, g7⟩ := wrapS e7 g6
      obtain ⟨m8, e8⟩ : ∃ x : Int, x = m7 + 1 := ⟨_, rfl⟩
      obtain ⟨hw8, g8⟩ := wrapS e8 g7
      have b2 := bndS g2
      have b5 := bndS g5
      have hE : m8 = k0 + (gSum (fun _ => 8) (M.take (j + 1)) : Int) := by
        rw [hKn, e8, e7, e6, e5, e4, e3, e2, e1]
        omega
      obtain ⟨b, o, rfl, _, d0, d1, d2, d3, d4, d5, d6, d7⟩ := (ExsAt.below hv hb).get hat
      have c0 : wr.cell? ⟨b, o + j * 8, none⟩ = some (.int .i64 m0) := d0
      have c1 : wr.cell? ⟨b, o + j * 8 + 1, none⟩ = some (.int .u8 (byK m1)) := by
        rw [e1]
        exact d1
      have c2 : wr.cell? ⟨b, o + j * 8 + 2, none⟩ = some (.string (mText m2)) := by
        rw [e2, e1]
        exact d2
      have c3 : wr.cell? ⟨b, o + j * 8 + 3, none⟩ = some (.int .i64 m3) := by
        rw [e3, e2, e1]
        exact d3
      have c4 : wr.cell? ⟨b, o + j * 8 + 4, none⟩ = some (.int .i64 m4) := by
        rw [e4, e3, e2, e1]
        exact d4
      have c5 : wr.cell? ⟨b, o + j * 8 + 5, none⟩ = some (.string (mText m5)) := by
        rw [e5, e4, e3, e2, e1]
        exact d5
      have c6 : wr.cell? ⟨b, o + j * 8 + 6, none⟩ = some (.int .i64 m6) := by
        rw [e6, e5, e4, e3, e2, e1]
        exact d6
      have c7 : wr.cell? ⟨b, o + j * 8 + 7, none⟩ = some (.int .i64 m7) := by
        rw [e7, e6, e5, e4, e3, e2, e1]
        exact d7
      have HE := hidX hE
      have HB := hidX hb
      clear hE hat hKn hKpos hKle hb e0 e1 e2 e3 e4 e5 e6 e7 e8 g0 g1 g2 g3 g4 g5 g6 g7 g8 d0 d1 d2 d3 d4 d5 d6 d7
      have hu1 : (byK m1 != m1 % 256) = false := by simp [byK]
      go_wp2_with fail
      go_region_held3 (fun w' => w'.cell? ⟨b, o + j * 8 + 2, none⟩ = some (.string (mText m2))) ((first | with_reducible exact cell_below hb1 (by assumption) | exact c2))
        ((go_at_call 52; refine (markText_any m2 _ b2.1 b2.2).mono ?_; rintro e w1 ⟨rfl, hb1⟩))
      replace c3 := cell_below hb1 c3
      replace c4 := cell_below hb1 c4
      replace c5 := cell_below hb1 c5
      replace c6 := cell_below hb1 c6
      replace c7 := cell_below hb1 c7
      have HB1 := hidX (HB.out.drew.trans (hb1.mono HB.out.size))
      go_wp2_with fail
      go_region_held3 (fun w' => w'.cell? ⟨b, o + j * 8 + 5, none⟩ = some (.string (mText m5))) ((first | with_reducible exact cell_below hb2 (by assumption) | exact c5))
        ((go_at_call 52; refine (markText_any m5 _ b5.1 b5.2).mono ?_; rintro e w2 ⟨rfl, hb2⟩))
      replace c6 := cell_below hb2 c6
      replace c7 := cell_below hb2 c7
      have HB2 := hidX (HB1.out.drew.trans (hb2.mono HB1.out.size))
      go_wp2
      go_roundw
      case rel => exact ⟨j + 1, by omega, by go_num, by rw [HE.out], HB2.out⟩
      case measure => simp [intOf]; omega
    · go_wp2
      go_ret
      obtain rfl : j = M.length := by omega
      rw [List.take_of_length_le (Nat.le_refl _)]
      exact ⟨rfl, hb⟩
end Go.Proofs.YtdhpoagjmiligaaGreatDoor
