/-
  OUR OWN TEXT. Values marked, and read again (out of Mk, Hd); bytes copied and marked.
-/
import Derived.Test.YtdhpoagjmiligaaGreatDoorMtm
import Derived.Test.YtdhpoagjmiligaaGreatDoorEq1m
import Derived.Test.YtdhpoagjmiligaaGreatDoorKan
import Derived.Test.YtdhpoagjmiligaaGreatDoorKap
namespace Go.Proofs.YtdhpoagjmiligaaGreatDoor
open Go.RowKit
attribute [local go_sem ↓] Go.wp_at_zero Go.wp_at_succ

theorem flat_len (vs : List V) : (vs.flatMap V.cells).length = vs.length * 3 := by
  induction vs with
  | nil => rfl
  | cons v r ih => simp [ih, V.cells]; omega
theorem flat_at (vs : List V) (j : Nat) (x : Value) (h : (vs.flatMap V.cells)[j]? = some x) : ∃ v, vs[j / 3]? = some v ∧ v.cells[j % 3]? = some x := by
  induction vs generalizing j with
  | nil => simp at h
  | cons v r ih =>
    rw [List.flatMap_cons] at h
    by_cases hj : j < 3
    · rw [List.getElem?_append_left (by simpa [V.cells] using hj)] at h
      refine ⟨v, ?_, ?_⟩
      · rw [show j / 3 = 0 by omega]; rfl
      · rwa [show j % 3 = j by omega]
    · rw [List.getElem?_append_right (by simp [V.cells]; omega)] at h
      obtain ⟨u, h1, h2⟩ := ih (j - v.cells.length) h
      simp only [V.cells, List.length_cons, List.length_nil] at h1 h2
      refine ⟨u, ?_, ?_⟩
      · rw [show j / 3 = (j - (0 + 1 + 1 + 1)) / 3 + 1 by omega]; exact h1
      · rwa [show j % 3 = (j - (0 + 1 + 1 + 1)) % 3 by omega]

theorem ValsAt.owns {w : World} {base : Nat} {a : Option Addr} {c : Nat} {vs : List V} (h : w.ownsRow base 101 3 (.slice a vs.length c) vs.length (vs.flatMap V.cells)) : ValsAt w a vs := by
  intro i v hv
  have hi : i < vs.length := (List.getElem?_eq_some_iff.1 hv).1
  have key : ∀ j x, j < 3 → v.cells[j]? = some x → (vs.flatMap V.cells)[i * 3 + j]? = some x := by
    intro j x hj hx
    have hlen : i * 3 + j < (vs.flatMap V.cells).length := by rw [flat_len]; omega
    obtain ⟨u, h1, h2⟩ := flat_at vs (i * 3 + j) _ (List.getElem?_eq_getElem hlen)
    rw [show (i * 3 + j) / 3 = i by omega, hv] at h1
    cases h1
    rw [show (i * 3 + j) % 3 = j by omega, hx] at h2
    rw [List.getElem?_eq_getElem hlen, h2]
  obtain ⟨g, rfl, _, h0, _⟩ := owns_cell h (key 0 _ (by omega) rfl)
  obtain ⟨g1, he1, _, h1, _⟩ := owns_cell h (key 1 _ (by omega) rfl)
  obtain ⟨g2, he2, _, h2, _⟩ := owns_cell h (key 2 _ (by omega) rfl)
  cases he1
  cases he2
  exact ⟨g, 0, rfl, by simpa using h0, by simpa using h1, by simpa using h2⟩

def mkV (k : Int) : V := (k, k + 1, mText (k + 2))
def mkVs (k : Int) (n : Nat) : List V := (List.range n).map fun (j : Nat) => mkV (k + 3 * (j : Int))
theorem mkVs_len (k : Int) (n : Nat) : (mkVs k n).length = n := by simp [mkVs]
theorem mkVs_succ (k : Int) (n : Nat) : mkVs k (n + 1) = mkVs k n ++ [mkV (k + 3 * (n : Int))] := by simp [mkVs, List.range_succ]
theorem mkVs_at (k : Int) (n i : Nat) (h : i < n) : (mkVs k n)[i]? = some (mkV (k + 3 * (i : Int))) := by simp [mkVs, h]

/-- w' is w but for blocks of S and new ones. -/
structure Mk (S : Nat → Prop) (w w' : World) : Prop where
  rest : Below 0 w w'
  block : ∀ g, g < w.heap.size → ¬ S g → w'.heap[g]? = w.heap[g]?

theorem Mk.refl (S : Nat → Prop) (w : World) : Mk S w w := ⟨Below.refl _ _, fun _ _ _ => rfl⟩
theorem Mk.trans {S : Nat → Prop} {a b c : World} (h : Mk S a b) (k : Mk S b c) : Mk S a c :=
  ⟨h.rest.trans k.rest, fun g hg hs => (k.block g (Nat.lt_of_lt_of_le hg h.rest.size) hs).trans (h.block g hg hs)⟩
theorem Mk.mono {S T : Nat → Prop} {a b : World} (h : Mk S a b) (hst : ∀ g, S g → T g) : Mk T a b := ⟨h.rest, fun g hg ht => h.block g hg (fun hs => ht (hst g hs))⟩
theorem Mk.of_below {S : Nat → Prop} {a b : World} (h : Below a.heap.size a b) : Mk S a b := ⟨h.mono (Nat.zero_le _), fun g hg _ => h.block g hg⟩
theorem Mk.set {S : Nat → Prop} {w : World} {p : Addr} (hp : S p.block) (u : Value) : Mk S w (w.setCell p u) :=
  ⟨(Below.refl _ _).setCell (Nat.zero_le _) _, fun _ _ hs => Below.heap_setCell _ _ _ _ (fun e => hs (e ▸ hp))⟩
theorem Mk.below {S : Nat → Prop} {w w' : World} {B : Nat} (h : Mk S w w') (hB : B ≤ w.heap.size) (hs : ∀ g, S g → B ≤ g) : Below B w w' :=
  ⟨h.rest.os, h.rest.tape, h.rest.output, h.rest.size, fun k hk => h.block k (by omega) (fun hS => by have := hs k hS; omega)⟩

theorem set3 (A B : List Value) (x y z x' y' z' : Value) : (((A ++ ([x, y, z] ++ B)).set A.length x').set (A.length + 1) y').set (A.length + 2) z' = A ++ ([x', y', z'] ++ B) := by
  simp

theorem set3' {n : Nat} {A B : List Value} (hA : A.length = n) (x y z x' y' z' : Value) : (((A ++ ([x, y, z] ++ B)).set n x').set (n + 1) y').set (n + 2) z' = A ++ ([x', y', z'] ++ B) := by
  subst hA
  exact set3 A B x y z x' y' z'

set_option maxHeartbeats 800000 in
theorem markValueS_any (a : Option Addr) (c : Nat) (vs : List V) (base : Nat) (k0 : Int) (w : World) (ho : w.ownsRow base 101 3 (.slice a vs.length c) vs.length (vs.flatMap V.cells)) (hl : vs.length ≤ 1048576) (hk : 0 < k0) (hk' : k0 + 3 * (vs.length : Int) ≤ 100000000) :
    Calls Tryz.prog 64 #[.slice a vs.length c, .int .i64 k0] w fun e w' =>
      e = .returned (.int .i64 (k0 + 3 * (vs.length : Int))) ∧ w'.ownsRow base 101 3 (.slice a vs.length c) vs.length ((mkVs k0 vs.length).flatMap V.cells) ∧ Mk (fun g => (Value.slice a vs.length c).ownBlock = some g) w w' := by
  go_enter Tryz.func64, Tryz.ntmps64
  go_wp2
  go_loopw [1, 5] (fun kv i wr => ∃ (j : Nat), j ≤ vs.length ∧ i = .int .i64 j ∧ kv = .int .i64 (k0 + 3 * (j : Int)) ∧ wr.ownsRow base 101 3 (.slice a vs.length c) vs.length ((mkVs k0 j ++ vs.drop j).flatMap V.cells) ∧ Mk (fun g => (Value.slice a vs.length c).ownBlock = some g) w wr) (fun _ i _ => vs.length - (intOf i).toNat)
  case atStart => exact ⟨0, by omega, rfl, by simp, by simpa [mkVs] using ho, Mk.refl _ _⟩
  case round =>
    obtain ⟨j, hj, rfl, rfl, ho1, hm⟩ := hrel
    have HO := hidX ho1
    have HM := hidX hm
    clear ho1 hm ho
    by_cases hjl : j < vs.length
    · obtain ⟨v, hvj⟩ : ∃ v, vs[j]? = some v := ⟨vs[j], by simp [hjl]⟩
      have hd : vs.drop j = v :: vs.drop (j + 1) := drop_cons hvj
      have hcells : (mkVs k0 j ++ vs.drop j).flatMap V.cells = (mkVs k0 j).flatMap V.cells ++ ([.int .i64 v.kind, .int .i64 v.num, .string v.sym] ++ (vs.drop (j + 1)).flatMap V.cells) := by
        rw [hd, List.flatMap_append, List.flatMap_cons]
        rfl
      have hAl : ((mkVs k0 j).flatMap V.cells).length = j * 3 := by rw [flat_len, mkVs_len]
      have ho2 := HO.out
      rw [hcells] at ho2
      obtain ⟨g, rfl, hbg, c0, f0⟩ := owns_cell (j := j * 3) (x := .int .i64 v.kind) ho2 (by rw [List.getElem?_append_right (by omega), hAl]; simp)
      obtain ⟨_, he1, _, c1, f1⟩ := owns_cell (j := j * 3 + 1) (x := .int .i64 v.num) ho2 (by rw [List.getElem?_append_right (by omega), hAl, show j * 3 + 1 - j * 3 = 1 by omega]; simp)
      obtain ⟨_, he2, _, c2, f2⟩ := owns_cell (j := j * 3 + 2) (x := .string v.sym) ho2 (by rw [List.getElem?_append_right (by omega), hAl, show j * 3 + 2 - j * 3 = 2 by omega]; simp)
      cases he1
      cases he2
      have hgl : g < wr.heap.size := World.block_lt_of_cell? wr ⟨g, _, none⟩ c0
      have hw1 : IntKind.i64.wrap (k0 + 3 * (j : Int) + 1) = k0 + 3 * (j : Int) + 1 := by rw [IntKind.wrap_i64]; omega
      have hw2 : IntKind.i64.wrap (k0 + 3 * (j : Int) + 1 + 1) = k0 + 3 * (j : Int) + 2 := by rw [IntKind.wrap_i64]; omega
      have hw3 : IntKind.i64.wrap (k0 + 3 * (j : Int) + 2 + 1) = k0 + 3 * ((j : Int) + 1) := by rw [IntKind.wrap_i64]; omega
      have H2 := hidX ho2
      clear ho2 hcells hd
      go_wp2_with (go_at_call 52; refine (markText_any (k0 + 3 * (j : Int) + 2) _ (by omega) (by omega)).mono ?_; rintro e w1 ⟨rfl, hb1⟩; obtain ⟨hc1, hf1⟩ := bcell hb1)
      have s1 := (((H2.out.stored (j * 3) (.int .i64 (k0 + 3 * (j : Int)))).1).stored (j * 3 + 1) (.int .i64 (k0 + 3 * (j : Int) + 1))).1
      have s2 := owns_of_block s1 (w' := w1) (fun g' hg' => hb1.block g' (by cases hg'; simpa using hgl))
      have s3 := (s2.stored (j * 3 + 2) (.string (mText (k0 + 3 * (j : Int) + 2)))).1
      rw [set3' hAl] at s3
      have hfin : (mkVs k0 j).flatMap V.cells ++ ([.int .i64 (k0 + 3 * (j : Int)), .int .i64 (k0 + 3 * (j : Int) + 1), .string (mText (k0 + 3 * (j : Int) + 2))] ++ (vs.drop (j + 1)).flatMap V.cells) = (mkVs k0 (j + 1) ++ vs.drop (j + 1)).flatMap V.cells := by
        rw [mkVs_succ, List.flatMap_append, List.flatMap_append]
        simp [V.cells, mkV, V.kind, V.num, V.sym]
      rw [hfin] at s3
      have m0 := fun (u : World) (o : Nat) (x : Value) => Mk.set (S := fun g' => (Value.slice (some ⟨g, 0, none⟩) vs.length c).ownBlock = some g') (w := u) (p := ⟨g, o, none⟩) rfl x
      have m1 := (HM.out.trans (m0 wr (j * 3) (.int .i64 (k0 + 3 * (j : Int))))).trans (m0 _ (j * 3 + 1) (.int .i64 (k0 + 3 * (j : Int) + 1)))
      have m2 := (m1.trans (Mk.of_below hb1)).trans (m0 _ (j * 3 + 2) (.string (mText (k0 + 3 * (j : Int) + 2))))
      have hcast : ((j + 1 : Nat) : Int) = (j : Int) + 1 := by omega
      clear m1 m0
      go_roundw
      case rel => exact ⟨j + 1, by omega, by go_num, by rw [hcast], s3, m2⟩
      case measure => simp [intOf]; omega
    · go_wp2
      go_ret
      obtain rfl : j = vs.length := by omega
      have := HO.out
      rw [List.drop_eq_nil_of_le (Nat.le_refl _), List.append_nil] at this
      exact ⟨rfl, this, HM.out⟩
set_option maxHeartbeats 800000 in
theorem heldValueS_any (a : Option Addr) (c n : Nat) (k0 : Int) (w : World) (hv : ValsAt w a (mkVs k0 n)) (hl : n ≤ 1048576) (hk : 0 < k0) (hk' : k0 + 3 * (n : Int) ≤ 100000000) :
    Calls Tryz.prog 65 #[.slice a n c, .int .i64 k0] w fun e w' =>
      e = .returned (.int .i64 (k0 + 3 * (n : Int))) ∧ Below w.heap.size w w' := by
  go_enter Tryz.func65, Tryz.ntmps65
  go_wp2
  go_loopw [1, 5] (fun kv i wr => ∃ (j : Nat), j ≤ n ∧ i = .int .i64 j ∧ kv = .int .i64 (k0 + 3 * (j : Int)) ∧ Below w.heap.size w wr) (fun _ i _ => n - (intOf i).toNat)
  case atStart => exact ⟨0, by omega, rfl, by simp, Below.refl _ _⟩
  case round =>
    obtain ⟨j, hj, rfl, rfl, hb⟩ := hrel
    by_cases hjl : j < n
    · obtain ⟨b, o, rfl, d0, d1, d2⟩ := hv.below hb j _ (mkVs_at k0 n j hjl)
      have c0 : wr.cell? ⟨b, o + j * 3, none⟩ = some (.int .i64 (k0 + 3 * (j : Int))) := d0
      have c1 : wr.cell? ⟨b, o + j * 3 + 1, none⟩ = some (.int .i64 (k0 + 3 * (j : Int) + 1)) := d1
      have c2 : wr.cell? ⟨b, o + j * 3 + 2, none⟩ = some (.string (mText (k0 + 3 * (j : Int) + 2))) := d2
      clear d0 d1 d2
      have hw1 : IntKind.i64.wrap (k0 + 3 * (j : Int) + 1) = k0 + 3 * (j : Int) + 1 := by rw [IntKind.wrap_i64]; omega
      have hw2 : IntKind.i64.wrap (k0 + 3 * (j : Int) + 1 + 1) = k0 + 3 * (j : Int) + 2 := by rw [IntKind.wrap_i64]; omega
      have hw3 : IntKind.i64.wrap (k0 + 3 * (j : Int) + 2 + 1) = k0 + 3 * ((j : Int) + 1) := by rw [IntKind.wrap_i64]; omega
      have hcast : ((j + 1 : Nat) : Int) = (j : Int) + 1 := by omega
      go_wp2_with fail
      go_region_held3 (fun w' => w'.cell? ⟨b, o + j * 3 + 2, none⟩ = some (.string (mText (k0 + 3 * (j : Int) + 2)))) ((first | with_reducible exact cell_below hb1 (by assumption) | exact c2))
        ((go_at_call 52; refine (markText_any (k0 + 3 * (j : Int) + 2) _ (by omega) (by omega)).mono ?_; rintro e w1 ⟨rfl, hb1⟩))
      go_wp2
      go_roundw
      case rel => exact ⟨j + 1, by omega, by go_num, by rw [hcast], hb.drew.trans (hb1.mono hb.size)⟩
      case measure => simp [intOf]; omega
    · go_wp2
      go_ret
      obtain rfl : j = n := by omega
      exact ⟨rfl, hb⟩
theorem infoU8 : (Tryz.prog.info? 5).map (fun i => (i.zero, i.size, i.bytes)) = some (some (.int .u8 0), 1, 1) := by kernel_rfl
/-- 'make([]byte, n)'. -/
theorem run_make_bytes (n : Nat) (hb : n ≤ 1099511627776) (w : World) :
    (Instr.makeSlice 22 (.int .i64 (n : Int)) (.int .i64 (n : Int))).run Tryz.prog w = .ok (.slice (some ⟨w.heap.size, 0, none⟩) n n) (w.alloc (.cells (madeCells #[.int .u8 0] n) 5)) := by
  obtain ⟨i, hi, hz0, hz1, hz2⟩ := info_parts infoU8
  have hr := run_make (P := Tryz.prog) w 22 5 i _ Tryz.underlying22 hi hz0 .i64 .i64 n n (by omega) (Int.le_refl _) (by rw [hz2]; omega) (by omega)
  simp only [Int.toNat_natCast, hz1, Value.cells, Nat.mul_one] at hr
  exact hr
theorem made_bytes (w : World) (n : Nat) (hn : n ≤ maxLen) : (w.alloc (.cells (madeCells #[.int .u8 0] n) 5)).ownsRow w.heap.size 5 1 (.slice (some ⟨w.heap.size, 0, none⟩) n n) n (List.replicate n (.int .u8 0)) := by
  have hl : (madeCells #[.int .u8 0] n).toList = List.replicate n (.int .u8 0) := by
    unfold madeCells
    apply List.ext_getElem?
    intro i
    by_cases hi : i < n
    · simp [hi, Nat.mod_one]
    · simp [hi]
  refine ⟨by simp, .inr ⟨w.heap.size, n, _, rfl, Nat.le_refl _, heap_alloc_new _ _, Nat.le_refl _, hn, ?_, ?_⟩⟩
  · rw [← Array.length_toList, hl]
    simp
  · rw [hl]
    simp
set_option maxHeartbeats 1600000 in
theorem toByteS_any (a : Option Addr) (c : Nat) (l : Bs) (w : World) (hv : BysAt w a l) (hl : l.length ≤ 1048576) :
    Calls Tryz.prog 6 #[.slice a l.length c] w fun e w' => e = .returned (.slice (some ⟨w.heap.size, 0, none⟩) l.length l.length) ∧ w'.ownsRow w.heap.size 5 1 (.slice (some ⟨w.heap.size, 0, none⟩) l.length l.length) l.length (byV l) ∧ Below w.heap.size w w' := by
  have hmk := run_make_bytes l.length (by omega)
  have HS := hidX (made_bytes w l.length (by unfold maxLen; omega))
  go_enter Tryz.func6, Tryz.ntmps6
  go_wp2
  clear hmk
  go_loopw [4] (fun i wr => ∃ (k : Nat), k ≤ l.length ∧ i = .int .i64 k ∧ wr.ownsRow w.heap.size 5 1 (.slice (some ⟨w.heap.size, 0, none⟩) l.length l.length) l.length (byV (l.take k) ++ List.replicate (l.length - k) (.int .u8 0)) ∧ Below w.heap.size w wr) (fun i _ => l.length - (intOf i).toNat)
  case atStart => exact ⟨0, by omega, rfl, by simpa [byV] using HS.out, (Below.refl _ _).alloc (Nat.le_refl _) _⟩
  case round =>
    obtain ⟨k, hk, rfl, ho, hb⟩ := hrel
    have HO := hidX ho
    have HB := hidX hb
    by_cases hkl : k < l.length
    · obtain ⟨x, hxk⟩ : ∃ x, l[k]? = some x := ⟨l[k], by simp [hkl]⟩
      obtain ⟨b, o, rfl, _, c0⟩ := (hv.below hb) k x hxk
      obtain ⟨m, hm⟩ : ∃ m, l.length - k = m + 1 := ⟨l.length - (k + 1), by omega⟩
      have hbl : (byV (l.take k)).length = k := by rw [byV_len, List.length_take]; omega
      obtain ⟨g, hg, _, d0, f0⟩ := owns_cell (j := k) (x := .int .u8 0) ho (by rw [hm, List.getElem?_append_right (by omega), hbl]; simp)
      injection hg with hg
      injection hg with hg
      subst hg
      have i0 : (0 : Int) ≤ (k : Int) := by omega
      have i1 : (k : Int) < (l.length : Int) := by omega
      have s3 := (ho.stored k (.int .u8 (x.toNat : Int))).1
      have hset : (byV (l.take k) ++ List.replicate (l.length - k) (Value.int .u8 0)).set k (.int .u8 (x.toNat : Int)) = byV (l.take (k + 1)) ++ List.replicate (l.length - (k + 1)) (.int .u8 0) := by
        rw [hm, show l.length - (k + 1) = m by omega, List.replicate_succ, List.set_append_right _ _ (by omega), hbl, take_succ' l k x hxk]
        simp [byV]
      rw [hset] at s3
      have S3 := hidX s3
      clear s3 hset ho hb hm hxk
      go_wp2
      go_roundw
      case rel => exact ⟨k + 1, by omega, by go_num, S3.out, HB.out.setCell (Nat.le_refl _) _⟩
      case measure => simp [intOf]; omega
    · have i1 : ¬ (k : Int) < (l.length : Int) := by omega
      clear ho hb
      go_wp2
      go_ret
      obtain rfl : k = l.length := by omega
      have := HO.out
      rw [Nat.sub_self, List.take_of_length_le (Nat.le_refl _), List.replicate_zero, List.append_nil] at this
      exact ⟨rfl, this, HB.out⟩
set_option maxHeartbeats 1600000 in
theorem markByteS_mk (a : Option Addr) (c : Nat) (xs : List Value) (n base : Nat) (w : World) (ho : w.ownsRow base 5 1 (.slice a n c) n xs) (hxl : xs.length = n) (hl : n ≤ 1000000000000) :
    Calls Tryz.prog 10 #[.slice a n c, .int .i64 1] w fun e w' => e = .returned (.int .i64 (1 + (n : Int))) ∧ w'.ownsRow base 5 1 (.slice a n c) n (mkBy 1 n) ∧ MkO (Value.slice a n c).ownBlock w w' := by
  go_enter Tryz.func10, Tryz.ntmps10
  go_wp2
  go_loopw [1, 5] (fun kv i wr => ∃ (j : Nat), j ≤ n ∧ i = .int .i64 (j : Int) ∧ kv = .int .i64 (1 + (j : Int)) ∧ wr.ownsRow base 5 1 (.slice a n c) n (mkBy 1 j ++ xs.drop j) ∧ MkO (Value.slice a n c).ownBlock w wr) (fun _ i _ => n - (intOf i).toNat)
  case atStart => exact ⟨0, by omega, rfl, by simp, by simpa [mkBy] using ho, MkO.refl _ _⟩
  case round =>
    obtain ⟨j, hj, rfl, rfl, ho1, hm⟩ := hrel
    have HO := hidX ho1
    have HM := hidX hm
    clear ho1 hm ho
    by_cases hjl : j < n
    · obtain ⟨v, hvj⟩ : ∃ v, xs[j]? = some v := ⟨xs[j]'(by omega), by simp⟩
      have hd : xs.drop j = v :: xs.drop (j + 1) := drop_cons hvj
      have ho2 := HO.out
      rw [hd] at ho2
      obtain ⟨g, rfl, hbg, c0, f0⟩ := owns_cell (j := j) (x := v) ho2 (by rw [List.getElem?_append_right (by rw [mkBy_len]; omega), mkBy_len]; simp)
      have H2 := hidX ho2
      have hw1 : IntKind.i64.wrap (1 + (j : Int) + 1) = 1 + ((j : Int) + 1) := by rw [IntKind.wrap_i64]; omega
      have i0 : (0 : Int) ≤ (j : Int) := by omega
      have i1 : (j : Int) < (n : Int) := by omega
      clear ho2 hd hvj
      go_wp2
      have s3 := (H2.out.stored j (.int .u8 ((1 + (j : Int)) % 256))).1
      have hset : (mkBy 1 j ++ v :: xs.drop (j + 1)).set j (Value.int .u8 ((1 + (j : Int)) % 256)) = mkBy 1 (j + 1) ++ xs.drop (j + 1) := by
        rw [List.set_append_right _ _ (by rw [mkBy_len]; omega), mkBy_len, mkBy_succ]
        simp
      rw [hset] at s3
      have hcast : ((j + 1 : Nat) : Int) = (j : Int) + 1 := by omega
      go_roundw
      case rel => exact ⟨j + 1, by omega, by go_num, by rw [hcast], s3, HM.out.trans (MkO.set _)⟩
      case measure => simp [intOf]; omega
    · have i1 : ¬ (j : Int) < (n : Int) := by omega
      go_wp2
      go_ret
      obtain rfl : j = n := by omega
      have := HO.out
      rw [List.drop_eq_nil_of_le (by omega), List.append_nil] at this
      exact ⟨rfl, this, HM.out⟩

end Go.Proofs.YtdhpoagjmiligaaGreatDoor
