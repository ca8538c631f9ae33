/-
  OUR OWN TEXT. Mt, Mark0, Mk, one behind the other.
-/
import Derived.Test.YtgamdkokmkagaaaJd
import Derived.Laws.BytesArg
import Derived.Test.YtgamdkokmkagaaaJq
import Derived.Test.YtgamdkokmkagaaaJs
namespace Go.Proofs.Ytgamdkokmkagaaa
open Go.RowKit

/-- One digit's text, as the conversion tells it. -/
def dg (q : Int) : ByteArray := strOfNums [48 + q % 10]
theorem dg_size (q : Int) : (dg q).size = 1 := by
  simp [dg, strOfNums]
  rfl
def dgs : Nat → Int → ByteArray → ByteArray
  | 0, _, t => t
  | f + 1, q, t => if 0 < q then dgs f (q / 10) (dg q ++ t) else t
theorem dgs_stop (f : Nat) (q : Int) (t : ByteArray) (h : ¬ 0 < q) : dgs f q t = t := by
  cases f with
  | zero => rfl
  | succ f => simp [dgs, h]
def mText (k : Int) : ByteArray := ⟨#[109]⟩ ++ dgs 20 k ⟨#[]⟩

theorem run_digit (q : Int) (w : World) : (convert 22 9 (.slice (some ⟨w.heap.size, 0, none⟩) 1 1)).run Try.prog (w.alloc (.cells #[.int .u8 (48 + q % 10)] 5)) = .ok (.string (dg q)) (w.alloc (.cells #[.int .u8 (48 + q % 10)] 5)) :=
  run_convert_bytes_arg (P := Try.prog) _ 22 5 Try.underlying22 Try.underlying5 w.heap.size 0 1 1 [48 + q % 10] rfl (fun i hi => by
    obtain rfl : i = 0 := by omega
    simp [go_sem]) 9 Try.underlying9

set_option maxRecDepth 100000 in
set_option maxHeartbeats 400000 in
theorem markText_any (k : Int) (w : World) (hk : 0 < k) (hk' : k ≤ 100000000) :
    Calls Try.prog 77 #[.int .i64 k] w fun e w' => e = .returned (.string (mText k)) ∧ Below w.heap.size w w' := by
  go_enter Try.func77, Try.ntmps77
  go_wp2
  go_loopw [0, 3] (fun i s wr => ∃ (q : Int) (t : ByteArray) (f : Nat), 0 ≤ q ∧ q ≤ k ∧ q < 10 ^ f ∧ f ≤ 20 ∧ i = .int .i64 q ∧ s = .string t ∧ t.size + f = 20 ∧ dgs 20 k ⟨#[]⟩ = dgs f q t ∧ Below w.heap.size w wr) (fun i _ _ => (intOf i).toNat)
  case atStart => exact ⟨k, _, 20, by omega, by omega, by omega, by omega, rfl, rfl, rfl, rfl, Below.refl _ _⟩
  case round =>
    obtain ⟨q, t, f, hq0, hq1, hqf, hf, rfl, rfl, ht, hd, hb⟩ := hrel
    have HD : Hid (dgs 20 k ⟨#[]⟩ = dgs f q t) := hd
    have HF : Hid (q < 10 ^ f) := hqf
    have HT : Hid (t.size + f = 20) := ht
    have hts : t.size ≤ 20 := by omega
    clear hd hqf ht
    by_cases hlt : 0 < q
    · have hcv := run_digit q wr
      have hds := dg_size q
      go_wp2
      go_roundw
      case rel =>
        cases f with
        | zero =>
          have := HF.out
          simp at this
          omega
        | succ f =>
          have h1 := HF.out
          have h2 := HT.out
          refine ⟨q / 10, _, f, by omega, by omega, ?_, by omega, rfl, rfl, ?_, ?_, hb.alloc hb.size _⟩
          · rw [Int.pow_succ] at h1
            omega
          · rw [ByteArray.size_append']
            omega
          · rw [HD.out, dgs, if_pos hlt]
      case measure => simp [intOf]; omega
    · go_wp2
      go_ret
      refine ⟨?_, hb⟩
      unfold mText
      rw [HD.out, dgs_stop _ _ _ (by omega)]
      rfl
end Go.Proofs.Ytgamdkokmkagaaa



namespace Go.Proofs.Ytgamdkokmkagaaa
open Go.RowKit
attribute [local go_sem ↓] Go.wp_at_zero Go.wp_at_succ

def mkV (k : Int) : V := (k, k + 1, mText (k + 2))
def mkVs (k : Int) (n : Nat) : List V := (List.range n).map fun (j : Nat) => mkV (k + 3 * (j : Int))
theorem mkVs_len (k : Int) (n : Nat) : (mkVs k n).length = n := by simp [mkVs]
theorem mkVs_succ (k : Int) (n : Nat) : mkVs k (n + 1) = mkVs k n ++ [mkV (k + 3 * (n : Int))] := by simp [mkVs, List.range_succ]
theorem mkVs_at (k : Int) (n i : Nat) (h : i < n) : (mkVs k n)[i]? = some (mkV (k + 3 * (i : Int))) := by simp [mkVs, h]

def mkF (k : Int) (f : F) : F := ⟨k, mText (k + 1), mkVs (k + 2) f.slots.length⟩
def fEnd (k : Int) (f : F) : Int := k + 2 + 3 * (f.slots.length : Int)
def mkFs : Int → List F → List F
  | _, [] => []
  | k, f :: r => mkF k f :: mkFs (fEnd k f) r
def kEnd : Int → List F → Int
  | k, [] => k
  | k, f :: r => kEnd (fEnd k f) r
theorem kEnd_snoc (f : F) : ∀ (l : List F) (k : Int), kEnd k (l ++ [f]) = fEnd (kEnd k l) f
  | [], _ => rfl
  | g :: r, k => kEnd_snoc f r (fEnd k g)
theorem mkFs_snoc (f : F) : ∀ (l : List F) (k : Int), mkFs k (l ++ [f]) = mkFs k l ++ [mkF (kEnd k l) f]
  | [], _ => rfl
  | g :: r, k => by
    show mkF k g :: mkFs (fEnd k g) (r ++ [f]) = mkF k g :: (mkFs (fEnd k g) r ++ [mkF (kEnd (fEnd k g) r) f])
    rw [mkFs_snoc f r (fEnd k g)]
theorem mkFs_len : ∀ (l : List F) (k : Int), (mkFs k l).length = l.length
  | [], _ => rfl
  | g :: r, k => by
    show (mkFs (fEnd k g) r).length + 1 = r.length + 1
    rw [mkFs_len r (fEnd k g)]
theorem kEnd_ge : ∀ (l : List F) (k : Int), k ≤ kEnd k l
  | [], _ => Int.le_refl _
  | g :: r, k => by
    have := kEnd_ge r (fEnd k g)
    show k ≤ kEnd (fEnd k g) r
    unfold fEnd at this ⊢
    omega
theorem kEnd_append (m : List F) : ∀ (l : List F) (k : Int), kEnd k (l ++ m) = kEnd (kEnd k l) m
  | [], _ => rfl
  | g :: r, k => kEnd_append m r (fEnd k g)

/-- w' is w but for blocks of S and new ones. -/
structure Mk (S : Nat → Prop) (w w' : World) : Prop where
  rest : Below 0 w w'
  block : ∀ g, g < w.heap.size → ¬ S g → w'.heap[g]? = w.heap[g]?

theorem Mk.refl (S : Nat → Prop) (w : World) : Mk S w w := ⟨Below.refl _ _, fun _ _ _ => rfl⟩
theorem Mk.trans {S : Nat → Prop} {a b c : World} (h : Mk S a b) (k : Mk S b c) : Mk S a c :=
  ⟨h.rest.trans k.rest, fun g hg hs => (k.block g (Nat.lt_of_lt_of_le hg h.rest.size) hs).trans (h.block g hg hs)⟩
theorem Mk.mono {S T : Nat → Prop} {a b : World} (h : Mk S a b) (hst : ∀ g, S g → T g) : Mk T a b := ⟨h.rest, fun g hg ht => h.block g hg (fun hs => ht (hst g hs))⟩
theorem Mk.of_below {S : Nat → Prop} {a b : World} (h : Below a.heap.size a b) : Mk S a b := ⟨h.mono (Nat.zero_le _), fun g hg _ => h.block g hg⟩
theorem Mk.set {S : Nat → Prop} {w : World} {p : Addr} (hp : S p.block) (u : Value) : Mk S w (w.setCell p u) :=
  ⟨(Below.refl _ _).setCell (Nat.zero_le _) _, fun _ _ hs => Below.heap_setCell _ _ _ _ (fun e => hs (e ▸ hp))⟩
theorem Mk.below {S : Nat → Prop} {w w' : World} {B : Nat} (h : Mk S w w') (hB : B ≤ w.heap.size) (hs : ∀ g, S g → B ≤ g) : Below B w w' :=
  ⟨h.rest.os, h.rest.tape, h.rest.output, h.rest.size, fun k hk => h.block k (by omega) (fun hS => by have := hs k hS; omega)⟩

theorem set3 (A B : List Value) (x y z x' y' z' : Value) : (((A ++ ([x, y, z] ++ B)).set A.length x').set (A.length + 1) y').set (A.length + 2) z' = A ++ ([x', y', z'] ++ B) := by
  simp

theorem set3' {n : Nat} {A B : List Value} (hA : A.length = n) (x y z x' y' z' : Value) : (((A ++ ([x, y, z] ++ B)).set n x').set (n + 1) y').set (n + 2) z' = A ++ ([x', y', z'] ++ B) := by
  subst hA
  exact set3 A B x y z x' y' z'

set_option maxHeartbeats 800000 in
theorem markValueS_any (a : Option Addr) (c : Nat) (vs : List V) (base : Nat) (k0 : Int) (w : World) (ho : w.ownsRow base 125 3 (.slice a vs.length c) vs.length (vs.flatMap V.cells)) (hl : vs.length ≤ 1048576) (hk : 0 < k0) (hk' : k0 + 3 * (vs.length : Int) ≤ 100000000) :
    Calls Try.prog 29 #[.slice a vs.length c, .int .i64 k0] w fun e w' =>
      e = .returned (.int .i64 (k0 + 3 * (vs.length : Int))) ∧ w'.ownsRow base 125 3 (.slice a vs.length c) vs.length ((mkVs k0 vs.length).flatMap V.cells) ∧ Mk (fun g => (Value.slice a vs.length c).ownBlock = some g) w w' := by
  go_enter Try.func29, Try.ntmps29
  go_wp2
  go_loopw [1, 5] (fun kv i wr => ∃ (j : Nat), j ≤ vs.length ∧ i = .int .i64 j ∧ kv = .int .i64 (k0 + 3 * (j : Int)) ∧ wr.ownsRow base 125 3 (.slice a vs.length c) vs.length ((mkVs k0 j ++ vs.drop j).flatMap V.cells) ∧ Mk (fun g => (Value.slice a vs.length c).ownBlock = some g) w wr) (fun _ i _ => vs.length - (intOf i).toNat)
  case atStart => exact ⟨0, by omega, rfl, by simp, by simpa [mkVs] using ho, Mk.refl _ _⟩
  case round =>
    obtain ⟨j, hj, rfl, rfl, ho1, hm⟩ := hrel
    have HO := hidden' ho1
    have HM := hidden' hm
    clear ho1 hm ho
    by_cases hjl : j < vs.length
    · obtain ⟨v, hvj⟩ : ∃ v, vs[j]? = some v := ⟨vs[j], by simp [hjl]⟩
      have hd : vs.drop j = v :: vs.drop (j + 1) := drop_cons hvj
      have hcells : (mkVs k0 j ++ vs.drop j).flatMap V.cells = (mkVs k0 j).flatMap V.cells ++ ([.int .i64 v.kind, .int .i64 v.num, .string v.sym] ++ (vs.drop (j + 1)).flatMap V.cells) := by
        rw [hd, List.flatMap_append, List.flatMap_cons]
        rfl
      have hAl : ((mkVs k0 j).flatMap V.cells).length = j * 3 := by rw [flat_len, mkVs_len]
      have ho2 := HO.out
      rw [hcells] at ho2
      obtain ⟨g, rfl, hbg, c0, f0⟩ := owns_cell (j := j * 3) (x := .int .i64 v.kind) ho2 (by rw [List.getElem?_append_right (by omega), hAl]; simp)
      obtain ⟨_, he1, _, c1, f1⟩ := owns_cell (j := j * 3 + 1) (x := .int .i64 v.num) ho2 (by rw [List.getElem?_append_right (by omega), hAl, show j * 3 + 1 - j * 3 = 1 by omega]; simp)
      obtain ⟨_, he2, _, c2, f2⟩ := owns_cell (j := j * 3 + 2) (x := .string v.sym) ho2 (by rw [List.getElem?_append_right (by omega), hAl, show j * 3 + 2 - j * 3 = 2 by omega]; simp)
      cases he1
      cases he2
      have hgl : g < wr.heap.size := World.block_lt_of_cell? wr ⟨g, _, none⟩ c0
      have hw1 : IntKind.i64.wrap (k0 + 3 * (j : Int) + 1) = k0 + 3 * (j : Int) + 1 := by rw [IntKind.wrap_i64]; omega
      have hw2 : IntKind.i64.wrap (k0 + 3 * (j : Int) + 1 + 1) = k0 + 3 * (j : Int) + 2 := by rw [IntKind.wrap_i64]; omega
      have hw3 : IntKind.i64.wrap (k0 + 3 * (j : Int) + 2 + 1) = k0 + 3 * ((j : Int) + 1) := by rw [IntKind.wrap_i64]; omega
      have H2 := hidden' ho2
      clear ho2 hcells hd
      go_wp2_with (go_at_call 77; refine (markText_any (k0 + 3 * (j : Int) + 2) _ (by omega) (by omega)).mono ?_; rintro e w1 ⟨rfl, hb1⟩; obtain ⟨hc1, hf1⟩ := bcell hb1)
      have s1 := (((H2.out.stored (j * 3) (.int .i64 (k0 + 3 * (j : Int)))).1).stored (j * 3 + 1) (.int .i64 (k0 + 3 * (j : Int) + 1))).1
      have s2 := owns_of_block s1 (w' := w1) (fun g' hg' => hb1.block g' (by cases hg'; simpa using hgl))
      have s3 := (s2.stored (j * 3 + 2) (.string (mText (k0 + 3 * (j : Int) + 2)))).1
      rw [set3' hAl] at s3
      have hfin : (mkVs k0 j).flatMap V.cells ++ ([.int .i64 (k0 + 3 * (j : Int)), .int .i64 (k0 + 3 * (j : Int) + 1), .string (mText (k0 + 3 * (j : Int) + 2))] ++ (vs.drop (j + 1)).flatMap V.cells) = (mkVs k0 (j + 1) ++ vs.drop (j + 1)).flatMap V.cells := by
        rw [mkVs_succ, List.flatMap_append, List.flatMap_append]
        simp [V.cells, mkV, V.kind, V.num, V.sym]
      rw [hfin] at s3
      have m0 := fun (u : World) (o : Nat) (x : Value) => Mk.set (S := fun g' => (Value.slice (some ⟨g, 0, none⟩) vs.length c).ownBlock = some g') (w := u) (p := ⟨g, o, none⟩) rfl x
      have m1 := (HM.out.trans (m0 wr (j * 3) (.int .i64 (k0 + 3 * (j : Int))))).trans (m0 _ (j * 3 + 1) (.int .i64 (k0 + 3 * (j : Int) + 1)))
      have m2 := (m1.trans (Mk.of_below hb1)).trans (m0 _ (j * 3 + 2) (.string (mText (k0 + 3 * (j : Int) + 2))))
      have hcast : ((j + 1 : Nat) : Int) = (j : Int) + 1 := by omega
      clear m1 m0
      go_roundw
      case rel => exact ⟨j + 1, by omega, by go_num, by rw [hcast], s3, m2⟩
      case measure => simp [intOf]; omega
    · go_wp2
      go_ret
      obtain rfl : j = vs.length := by omega
      have := HO.out
      rw [List.drop_eq_nil_of_le (Nat.le_refl _), List.append_nil] at this
      exact ⟨rfl, this, HM.out⟩
end Go.Proofs.Ytgamdkokmkagaaa
