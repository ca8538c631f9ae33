/-
  OUR OWN TEXT. Mo1, Nm2, one behind the other.
-/
import Derived.Test.YtgamdkokmkagaaaGreatKb
import Derived.Test.YtgamdkokmkagaaaGreatKg
import Derived.Test.YtgamdkokmkagaaaGreatQb
import Derived.Deep.RegionHeld3
import Derived.Deep.DrawnRows
import Derived.Test.YtgamdkokmkagaaaGreatQe
namespace Go.Proofs.YtgamdkokmkagaaaGreat
open Go.RowKit
attribute [local go_sem ↓] Go.wp_at_zero Go.wp_at_succ

def mkT (k : Int) : Tt := ⟨k, k + 1, k + 2, (k + 3, k + 4, mText (k + 5))⟩
def mkTs (k : Int) (n : Nat) : List Tt := (List.range n).map fun (j : Nat) => mkT (k + 6 * (j : Int))
theorem mkTs_len (k : Int) (n : Nat) : (mkTs k n).length = n := by simp [mkTs]
theorem mkTs_succ (k : Int) (n : Nat) : mkTs k (n + 1) = mkTs k n ++ [mkT (k + 6 * (n : Int))] := by simp [mkTs, List.range_succ]
theorem mkTs_at (k : Int) (n i : Nat) (h : i < n) : (mkTs k n)[i]? = some (mkT (k + 6 * (i : Int))) := by simp [mkTs, h]

theorem set6 {n : Nat} {A B : List Value} (hA : A.length = n) (x0 x1 x2 x3 x4 x5 y0 y1 y2 y3 y4 y5 : Value) : ((((((A ++ ([x0, x1, x2, x3, x4, x5] ++ B)).set n y0).set (n + 1) y1).set (n + 2) y2).set (n + 3) y3).set (n + 4) y4).set (n + 5) y5 = A ++ ([y0, y1, y2, y3, y4, y5] ++ B) := by
  subst hA
  simp

set_option maxHeartbeats 1600000 in
theorem markAlphaTestS_any (a : Option Addr) (c : Nat) (vs : List Tt) (base : Nat) (k0 : Int) (w : World) (ho : w.ownsRow base 90 6 (.slice a vs.length c) vs.length (vs.flatMap ttCells)) (hl : vs.length ≤ 1048576) (hk : 0 < k0) (hk' : k0 + 6 * (vs.length : Int) ≤ 100000000) :
    Calls Tryz.prog 51 #[.slice a vs.length c, .int .i64 k0] w fun e w' =>
      e = .returned (.int .i64 (k0 + 6 * (vs.length : Int))) ∧ w'.ownsRow base 90 6 (.slice a vs.length c) vs.length ((mkTs k0 vs.length).flatMap ttCells) ∧ MkO (Value.slice a vs.length c).ownBlock w w' := by
  go_enter Tryz.func51, Tryz.ntmps51
  go_wp2
  go_loopw [1, 5] (fun kv i wr => ∃ (j : Nat), j ≤ vs.length ∧ i = .int .i64 j ∧ kv = .int .i64 (k0 + 6 * (j : Int)) ∧ wr.ownsRow base 90 6 (.slice a vs.length c) vs.length ((mkTs k0 j ++ vs.drop j).flatMap ttCells) ∧ MkO (Value.slice a vs.length c).ownBlock w wr) (fun _ i _ => vs.length - (intOf i).toNat)
  case atStart => exact ⟨0, by omega, rfl, by simp, by simpa [mkTs] using ho, MkO.refl _ _⟩
  case round =>
    obtain ⟨j, hj, rfl, rfl, ho1, hm⟩ := hrel
    have HO := hidO ho1
    have HM := hidO hm
    clear ho1 hm ho
    by_cases hjl : j < vs.length
    · obtain ⟨v, hvj⟩ : ∃ v, vs[j]? = some v := ⟨vs[j], by simp [hjl]⟩
      have hd : vs.drop j = v :: vs.drop (j + 1) := drop_cons hvj
      have hcells : (mkTs k0 j ++ vs.drop j).flatMap ttCells = (mkTs k0 j).flatMap ttCells ++ ([.int .i64 v.slot, .int .i64 v.op, .int .i64 v.other, .int .i64 v.val.kind, .int .i64 v.val.num, .string v.val.sym] ++ (vs.drop (j + 1)).flatMap ttCells) := by
        rw [hd, List.flatMap_append, List.flatMap_cons]
        rfl
      have hAl : ((mkTs k0 j).flatMap ttCells).length = j * 6 := by rw [ttFlat_len, mkTs_len]
      have ho2 := HO.out
      rw [hcells] at ho2
      obtain ⟨g, rfl, hbg, c0, f0⟩ := owns_cell (j := j * 6) (x := .int .i64 v.slot) ho2 (by rw [List.getElem?_append_right (by omega), hAl]; simp)
      obtain ⟨_, he1, _, c1, f1⟩ := owns_cell (j := j * 6 + 1) (x := .int .i64 v.op) ho2 (by rw [List.getElem?_append_right (by omega), hAl, show j * 6 + 1 - j * 6 = 1 by omega]; simp)
      obtain ⟨_, he2, _, c2, f2⟩ := owns_cell (j := j * 6 + 2) (x := .int .i64 v.other) ho2 (by rw [List.getElem?_append_right (by omega), hAl, show j * 6 + 2 - j * 6 = 2 by omega]; simp)
      obtain ⟨_, he3, _, c3, f3⟩ := owns_cell (j := j * 6 + 3) (x := .int .i64 v.val.kind) ho2 (by rw [List.getElem?_append_right (by omega), hAl, show j * 6 + 3 - j * 6 = 3 by omega]; simp)
      obtain ⟨_, he4, _, c4, f4⟩ := owns_cell (j := j * 6 + 4) (x := .int .i64 v.val.num) ho2 (by rw [List.getElem?_append_right (by omega), hAl, show j * 6 + 4 - j * 6 = 4 by omega]; simp)
      obtain ⟨_, he5, _, c5, f5⟩ := owns_cell (j := j * 6 + 5) (x := .string v.val.sym) ho2 (by rw [List.getElem?_append_right (by omega), hAl, show j * 6 + 5 - j * 6 = 5 by omega]; simp)
      cases he1
      cases he2
      cases he3
      cases he4
      cases he5
      have hgl : g < wr.heap.size := World.block_lt_of_cell? wr ⟨g, _, none⟩ c0
      have hw1 : IntKind.i64.wrap (k0 + 6 * (j : Int) + 1) = k0 + 6 * (j : Int) + 1 := by rw [IntKind.wrap_i64]; omega
      have hw2 : IntKind.i64.wrap (k0 + 6 * (j : Int) + 1 + 1) = k0 + 6 * (j : Int) + 2 := by rw [IntKind.wrap_i64]; omega
      have hw3 : IntKind.i64.wrap (k0 + 6 * (j : Int) + 2 + 1) = k0 + 6 * (j : Int) + 3 := by rw [IntKind.wrap_i64]; omega
      have hw4 : IntKind.i64.wrap (k0 + 6 * (j : Int) + 3 + 1) = k0 + 6 * (j : Int) + 4 := by rw [IntKind.wrap_i64]; omega
      have hw5 : IntKind.i64.wrap (k0 + 6 * (j : Int) + 4 + 1) = k0 + 6 * (j : Int) + 5 := by rw [IntKind.wrap_i64]; omega
      have hw6 : IntKind.i64.wrap (k0 + 6 * (j : Int) + 5 + 1) = k0 + 6 * ((j : Int) + 1) := by rw [IntKind.wrap_i64]; omega
      have H2 := hidO ho2
      clear ho2 hcells hd
      go_wp2_with (go_at_call 24; refine (markText_any (k0 + 6 * (j : Int) + 5) _ (by omega) (by omega)).mono ?_; rintro e w1 ⟨rfl, hb1⟩; obtain ⟨hc1, hf1⟩ := bcell hb1)
      have s1 := ((((((((((H2.out).stored (j * 6) (.int .i64 (k0 + 6 * (j : Int)))).1).stored (j * 6 + 1) (.int .i64 (k0 + 6 * (j : Int) + 1))).1).stored (j * 6 + 2) (.int .i64 (k0 + 6 * (j : Int) + 2))).1).stored (j * 6 + 3) (.int .i64 (k0 + 6 * (j : Int) + 3))).1).stored (j * 6 + 4) (.int .i64 (k0 + 6 * (j : Int) + 4))).1
      have s2 := owns_of_block s1 (w' := w1) (fun g' hg' => hb1.block g' (by cases hg'; simpa using hgl))
      have s3 := (s2.stored (j * 6 + 5) (.string (mText (k0 + 6 * (j : Int) + 5)))).1
      rw [set6 hAl] at s3
      have hfin : (mkTs k0 j).flatMap ttCells ++ ([.int .i64 (k0 + 6 * (j : Int)), .int .i64 (k0 + 6 * (j : Int) + 1), .int .i64 (k0 + 6 * (j : Int) + 2), .int .i64 (k0 + 6 * (j : Int) + 3), .int .i64 (k0 + 6 * (j : Int) + 4), .string (mText (k0 + 6 * (j : Int) + 5))] ++ (vs.drop (j + 1)).flatMap ttCells) = (mkTs k0 (j + 1) ++ vs.drop (j + 1)).flatMap ttCells := by
        rw [mkTs_succ, List.flatMap_append, List.flatMap_append]
        simp [ttCells, mkT, V.kind, V.num, V.sym]
      rw [hfin] at s3
      have m0 := fun (u : World) (o : Nat) (x : Value) => MkO.set (w := u) (g := g) (o := o) x
      have m1 := (((((HM.out).trans (m0 _ (j * 6) (.int .i64 (k0 + 6 * (j : Int))))).trans (m0 _ (j * 6 + 1) (.int .i64 (k0 + 6 * (j : Int) + 1)))).trans (m0 _ (j * 6 + 2) (.int .i64 (k0 + 6 * (j : Int) + 2)))).trans (m0 _ (j * 6 + 3) (.int .i64 (k0 + 6 * (j : Int) + 3)))).trans (m0 _ (j * 6 + 4) (.int .i64 (k0 + 6 * (j : Int) + 4)))
      have m2 := (m1.trans (MkO.of_below hb1)).trans (m0 _ (j * 6 + 5) (.string (mText (k0 + 6 * (j : Int) + 5))))
      have hcast : ((j + 1 : Nat) : Int) = (j : Int) + 1 := by omega
      clear m1 m0
      go_roundw
      case rel => exact ⟨j + 1, by omega, by go_num, by rw [hcast], s3, m2⟩
      case measure => simp [intOf]; omega
    · go_wp2
      go_ret
      obtain rfl : j = vs.length := by omega
      have := HO.out
      rw [List.drop_eq_nil_of_le (Nat.le_refl _), List.append_nil] at this
      exact ⟨rfl, this, HM.out⟩

set_option maxHeartbeats 1600000 in
theorem heldAlphaTestS_any (a : Option Addr) (c n : Nat) (k0 : Int) (w : World) {q : Option Nat} (hv : TtsAt q w a (mkTs k0 n)) (hl : n ≤ 1048576) (hk : 0 < k0) (hk' : k0 + 6 * (n : Int) ≤ 100000000) :
    Calls Tryz.prog 52 #[.slice a n c, .int .i64 k0] w fun e w' =>
      e = .returned (.int .i64 (k0 + 6 * (n : Int))) ∧ Below w.heap.size w w' := by
  go_enter Tryz.func52, Tryz.ntmps52
  go_wp2
  go_loopw [1, 5] (fun kv i wr => ∃ (j : Nat), j ≤ n ∧ i = .int .i64 j ∧ kv = .int .i64 (k0 + 6 * (j : Int)) ∧ Below w.heap.size w wr) (fun _ i _ => n - (intOf i).toNat)
  case atStart => exact ⟨0, by omega, rfl, by simp, Below.refl _ _⟩
  case round =>
    obtain ⟨j, hj, rfl, rfl, hb⟩ := hrel
    by_cases hjl : j < n
    · obtain ⟨b, o, ea, _, d0, d1, d2, d3, d4, d5⟩ := (hv.below hb).get (mkTs_at k0 n j hjl)
      subst ea
      have c0 : wr.cell? ⟨b, o + j * 6, none⟩ = some (.int .i64 (k0 + 6 * (j : Int))) := d0
      have c1 : wr.cell? ⟨b, o + j * 6 + 1, none⟩ = some (.int .i64 (k0 + 6 * (j : Int) + 1)) := d1
      have c2 : wr.cell? ⟨b, o + j * 6 + 2, none⟩ = some (.int .i64 (k0 + 6 * (j : Int) + 2)) := d2
      have c3 : wr.cell? ⟨b, o + j * 6 + 3, none⟩ = some (.int .i64 (k0 + 6 * (j : Int) + 3)) := d3
      have c4 : wr.cell? ⟨b, o + j * 6 + 4, none⟩ = some (.int .i64 (k0 + 6 * (j : Int) + 4)) := d4
      have c5 : wr.cell? ⟨b, o + j * 6 + 5, none⟩ = some (.string (mText (k0 + 6 * (j : Int) + 5))) := d5
      clear d0 d1 d2 d3 d4 d5
      have hw1 : IntKind.i64.wrap (k0 + 6 * (j : Int) + 1) = k0 + 6 * (j : Int) + 1 := by rw [IntKind.wrap_i64]; omega
      have hw2 : IntKind.i64.wrap (k0 + 6 * (j : Int) + 1 + 1) = k0 + 6 * (j : Int) + 2 := by rw [IntKind.wrap_i64]; omega
      have hw3 : IntKind.i64.wrap (k0 + 6 * (j : Int) + 2 + 1) = k0 + 6 * (j : Int) + 3 := by rw [IntKind.wrap_i64]; omega
      have hw4 : IntKind.i64.wrap (k0 + 6 * (j : Int) + 3 + 1) = k0 + 6 * (j : Int) + 4 := by rw [IntKind.wrap_i64]; omega
      have hw5 : IntKind.i64.wrap (k0 + 6 * (j : Int) + 4 + 1) = k0 + 6 * (j : Int) + 5 := by rw [IntKind.wrap_i64]; omega
      have hw6 : IntKind.i64.wrap (k0 + 6 * (j : Int) + 5 + 1) = k0 + 6 * ((j : Int) + 1) := by rw [IntKind.wrap_i64]; omega
      have hcast : ((j + 1 : Nat) : Int) = (j : Int) + 1 := by omega
      go_wp2_with fail
      go_region_held3 (fun w' => w'.cell? ⟨b, o + j * 6 + 5, none⟩ = some (.string (mText (k0 + 6 * (j : Int) + 5)))) ((first | with_reducible exact cell_below hb1 (by assumption) | exact c5))
        ((go_at_call 24; refine (markText_any (k0 + 6 * (j : Int) + 5) _ (by omega) (by omega)).mono ?_; rintro e w1 ⟨rfl, hb1⟩))
      go_wp2
      go_roundw
      case rel => exact ⟨j + 1, by omega, by go_num, by rw [hcast], hb.drew.trans (hb1.mono hb.size)⟩
      case measure => simp [intOf]; omega
    · go_wp2
      go_ret
      obtain rfl : j = n := by omega
      exact ⟨rfl, hb⟩
end Go.Proofs.YtgamdkokmkagaaaGreat

namespace Go.Proofs.YtgamdkokmkagaaaGreat
open Go.RowKit
attribute [local go_sem ↓] Go.wp_at_zero Go.wp_at_succ

def mkIss : Int → List (List Int) → List (List Int)
  | _, [] => []
  | k, xs :: r => mkIs k xs.length :: mkIss (k + (xs.length : Int)) r
def iEnd : Int → List (List Int) → Int
  | k, [] => k
  | k, xs :: r => iEnd (k + (xs.length : Int)) r
theorem iEnd_snoc (xs : List Int) : ∀ (l : List (List Int)) (k : Int), iEnd k (l ++ [xs]) = iEnd k l + (xs.length : Int)
  | [], _ => rfl
  | _ :: r, _ => iEnd_snoc xs r _
theorem mkIss_snoc (xs : List Int) : ∀ (l : List (List Int)) (k : Int), mkIss k (l ++ [xs]) = mkIss k l ++ [mkIs (iEnd k l) xs.length]
  | [], _ => rfl
  | y :: r, k => by
    show mkIs k y.length :: mkIss (k + (y.length : Int)) (r ++ [xs]) = mkIs k y.length :: (mkIss (k + (y.length : Int)) r ++ [mkIs (iEnd (k + (y.length : Int)) r) xs.length])
    rw [mkIss_snoc xs r]
theorem mkIss_len : ∀ (l : List (List Int)) (k : Int), (mkIss k l).length = l.length
  | [], _ => rfl
  | _ :: r, k => by
    show (mkIss _ r).length + 1 = r.length + 1
    rw [mkIss_len r]
theorem iEnd_ge : ∀ (l : List (List Int)) (k : Int), k ≤ iEnd k l
  | [], _ => Int.le_refl _
  | y :: r, k => by
    have := iEnd_ge r (k + (y.length : Int))
    show k ≤ iEnd (k + (y.length : Int)) r
    omega
theorem iEnd_append (m : List (List Int)) : ∀ (l : List (List Int)) (k : Int), iEnd k (l ++ m) = iEnd (iEnd k l) m
  | [], _ => rfl
  | _ :: r, _ => iEnd_append m r _

/-- w' is w but for blocks of S and new ones. -/
structure MkS (S : Nat → Prop) (w w' : World) : Prop where
  rest : Below 0 w w'
  block : ∀ g, g < w.heap.size → ¬ S g → w'.heap[g]? = w.heap[g]?
theorem MkS.refl (S : Nat → Prop) (w : World) : MkS S w w := ⟨Below.refl _ _, fun _ _ _ => rfl⟩
theorem MkS.trans {S : Nat → Prop} {a b c : World} (h : MkS S a b) (k : MkS S b c) : MkS S a c :=
  ⟨h.rest.trans k.rest, fun g hg hs => (k.block g (Nat.lt_of_lt_of_le hg h.rest.size) hs).trans (h.block g hg hs)⟩
theorem MkS.of_one {S : Nat → Prop} {ob : Option Nat} {a b : World} (h : MkO ob a b) (hs : ∀ g, ob = some g → S g) : MkS S a b := ⟨h.rest, fun g hg hn => h.block g hg (fun e => hn (hs g e))⟩
theorem MkS.below {S : Nat → Prop} {w w' : World} {B : Nat} (h : MkS S w w') (hB : B ≤ w.heap.size) (hs : ∀ g, S g → B ≤ g) : Below B w w' :=
  ⟨h.rest.os, h.rest.tape, h.rest.output, h.rest.size, fun k hk => h.block k (by omega) (fun hS => by have := hs k hS; omega)⟩

/-- One of the lists is written anew. -/
theorem OLL.mark {w w' : World} {base : Nat} {v : Value} {n : Nat} {xss : List (List Int)} {vs : List Value} {i : Nat} {xs ys : List Int} {a : Option Addr} {c : Nat} (h : OLL w base v n xss vs) (hx : xss[i]? = some xs) (hv : vs[i]? = some (.slice a xs.length c)) (hy : ys.length = xs.length)
    (ho : w'.ownsRow base 3 1 (.slice a xs.length c) xs.length (icells ys)) (hm : MkO (Value.slice a xs.length c).ownBlock w w') : OLL w' base v n (xss.set i ys) vs := by
  have hi : i < vs.length := (List.getElem?_eq_some_iff.1 hv).1
  refine ⟨by rw [h.num, List.length_set], by rw [h.len, List.length_set], owns_of_block h.own (fun g hg => hm.block g (h.own.lt g hg).2 (fun e => h.apart _ (List.mem_of_getElem? hv) g hg e)), ?_, h.apart, h.pair⟩
  intro j zs z hz hw
  by_cases hji : j = i
  · subst hji
    rw [List.getElem?_set_self (by rw [← h.len]; exact hi)] at hz
    injection hz with hz
    subst hz
    rw [hv] at hw
    injection hw with hw
    subst hw
    rw [hy]
    exact ⟨⟨a, c, rfl⟩, ho⟩
  · rw [List.getElem?_set_ne (fun e => hji e.symm)] at hz
    obtain ⟨h1, h2⟩ := h.each j zs z hz hw
    refine ⟨h1, owns_of_block h2 (fun g hg => hm.block g (h2.lt g hg).2 (fun e => ?_))⟩
    have hj : j < vs.length := (List.getElem?_eq_some_iff.1 hw).1
    have e1 : vs[j] = z := (List.getElem?_eq_some_iff.1 hw).2
    have e2 : vs[i] = .slice a xs.length c := (List.getElem?_eq_some_iff.1 hv).2
    rcases Nat.lt_or_gt_of_ne hji with hlt | hgt
    · have := List.pairwise_iff_getElem.1 h.pair j i hj hi hlt
      rw [e1, e2] at this
      exact this g hg e
    · have := List.pairwise_iff_getElem.1 h.pair i j hi hj hgt
      rw [e1, e2] at this
      exact this g e hg

set_option maxHeartbeats 1600000 in
theorem markIntSS_own (a : Option Addr) (c : Nat) (xss : List (List Int)) (vs : List Value) (base : Nat) (k0 : Int) (w : World) (ho : OLL w base (.slice a xss.length c) xss.length xss vs) (hl : xss.length ≤ 1048576) (hs : ∀ xs ∈ xss, xs.length ≤ 1048576) (hk : 0 < k0) (hk' : iEnd k0 xss ≤ 100000000) :
    Calls Tryz.prog 29 #[.slice a xss.length c, .int .i64 k0] w fun e w' =>
      e = .returned (.int .i64 (iEnd k0 xss)) ∧ OLL w' base (.slice a xss.length c) xss.length (mkIss k0 xss) vs ∧ MkS (InLL (.slice a xss.length c) vs) w w' := by
  go_enter Tryz.func29, Tryz.ntmps29
  go_wp2
  go_loopw [1, 5] (fun kv i wr => ∃ (j : Nat), j ≤ xss.length ∧ i = .int .i64 j ∧ kv = .int .i64 (iEnd k0 (xss.take j)) ∧ OLL wr base (.slice a xss.length c) xss.length (mkIss k0 (xss.take j) ++ xss.drop j) vs ∧ MkS (InLL (.slice a xss.length c) vs) w wr) (fun _ i _ => xss.length - (intOf i).toNat)
  case atStart => exact ⟨0, by omega, rfl, rfl, by simpa [mkIss] using ho, MkS.refl _ _⟩
  case round =>
    obtain ⟨j, hj, rfl, rfl, ho1, hm⟩ := hrel
    have HO := hidO ho1
    have HM := hidO hm
    clear ho1 hm ho
    by_cases hjl : j < xss.length
    · obtain ⟨xs, hxj⟩ : ∃ xs, xss[j]? = some xs := ⟨xss[j], by simp [hjl]⟩
      have hd : xss.drop j = xs :: xss.drop (j + 1) := drop_cons hxj
      have hpl : (mkIss k0 (xss.take j)).length = j := by rw [mkIss_len]; simp; omega
      have hat : (mkIss k0 (xss.take j) ++ xss.drop j)[j]? = some xs := by rw [List.getElem?_append_right (by omega), hpl, hd]; simp
      obtain ⟨v, hvj⟩ : ∃ v, vs[j]? = some v := ⟨vs[j]'(by rw [HO.out.len, List.length_append, hpl, List.length_drop]; omega), List.getElem?_eq_getElem _⟩
      obtain ⟨⟨a1, c1, rfl⟩, ow⟩ := HO.out.each j xs v hat hvj
      obtain ⟨g, rfl, _, d0, _⟩ := owns_cell HO.out.own hvj
      have ht : xss.take (j + 1) = xss.take j ++ [xs] := take_succ' xss j xs hxj
      have hend : iEnd k0 (xss.take (j + 1)) = iEnd k0 (xss.take j) + (xs.length : Int) := by rw [ht, iEnd_snoc]
      have hge := iEnd_ge (xss.take j) k0
      have hle : iEnd k0 (xss.take (j + 1)) ≤ iEnd k0 xss := by
        have := iEnd_append (xss.drop (j + 1)) (xss.take (j + 1)) k0
        rw [List.take_append_drop] at this
        rw [this]
        exact iEnd_ge _ _
      have HOW := hidO ow
      have HV := hidO hvj
      have HAT := hidO hat
      have HD := hidO hd
      have HEN := hidO hend
      have HTK := hidO ht
      have hxl := hs xs (List.mem_of_getElem? hxj)
      have hk2 : iEnd k0 (xss.take j) + (xs.length : Int) ≤ 100000000 := by omega
      have hk1 : 0 < iEnd k0 (xss.take j) := by omega
      clear ow hvj hat hd ht hend hle
      go_wp2_with (go_at_call 50; refine (markIntS_own a1 c1 xs base _ _ HOW.out hxl hk1 hk2).mono ?_; rintro e w1 ⟨rfl, ow1, hm1⟩)
      have hOL := HO.out.mark HAT.out HV.out (mkIs_len _ _) ow1 hm1
      have hset : (mkIss k0 (xss.take j) ++ xss.drop j).set j (mkIs (iEnd k0 (xss.take j)) xs.length) = mkIss k0 (xss.take (j + 1)) ++ xss.drop (j + 1) := by
        rw [HD.out, List.set_append_right _ _ (by omega), hpl, HTK.out, mkIss_snoc]
        simp
      rw [hset] at hOL
      have hM2 := HM.out.trans (MkS.of_one hm1 (fun g hg => .inr ⟨_, List.mem_of_getElem? HV.out, hg⟩))
      have HOL := hidO hOL
      clear hOL hset
      go_roundw
      case rel => exact ⟨j + 1, by omega, by go_num, by rw [HEN.out], HOL.out, hM2⟩
      case measure => simp [intOf]; omega
    · go_wp2
      go_ret
      obtain rfl : j = xss.length := by omega
      have := HO.out
      rw [List.drop_eq_nil_of_le (Nat.le_refl _), List.append_nil, List.take_of_length_le (Nat.le_refl _)] at this
      exact ⟨by rw [List.take_of_length_le (Nat.le_refl _)]; rfl, this, HM.out⟩

theorem mkIss_at : ∀ (l : List (List Int)) (k : Int) (i : Nat) (xs : List Int), l[i]? = some xs → (mkIss k l)[i]? = some (mkIs (iEnd k (l.take i)) xs.length)
  | [], _, i, _, h => by simp at h
  | y :: r, k, 0, xs, h => by
    simp at h
    subst h
    rfl
  | y :: r, k, i + 1, xs, h => by
    have := mkIss_at r (k + (y.length : Int)) i xs (by simpa using h)
    show (mkIss (k + (y.length : Int)) r)[i]? = _
    rw [this]
    rfl

set_option maxHeartbeats 1600000 in
theorem heldIntSS_any (a : Option Addr) (c : Nat) (xss : List (List Int)) (k0 : Int) (w : World) {q : Option Nat} (hv : IlsAt q w a (mkIss k0 xss)) (hl : xss.length ≤ 1048576) (hs : ∀ xs ∈ xss, xs.length ≤ 1048576) (hk : 0 < k0) (hk' : iEnd k0 xss ≤ 100000000) :
    Calls Tryz.prog 31 #[.slice a xss.length c, .int .i64 k0] w fun e w' =>
      e = .returned (.int .i64 (iEnd k0 xss)) ∧ Below w.heap.size w w' := by
  go_enter Tryz.func31, Tryz.ntmps31
  go_wp2
  go_loopw [1, 5] (fun kv i wr => ∃ (j : Nat), j ≤ xss.length ∧ i = .int .i64 j ∧ kv = .int .i64 (iEnd k0 (xss.take j)) ∧ Below w.heap.size w wr) (fun _ i _ => xss.length - (intOf i).toNat)
  case atStart => exact ⟨0, by omega, rfl, rfl, Below.refl _ _⟩
  case round =>
    obtain ⟨j, hj, rfl, rfl, hb⟩ := hrel
    by_cases hjl : j < xss.length
    · obtain ⟨xs, hxj⟩ : ∃ xs, xss[j]? = some xs := ⟨xss[j], by simp [hjl]⟩
      obtain ⟨b, o, a1, c1, ea, hq, d0, hi⟩ := (hv.below hb).get (mkIss_at xss k0 j xs hxj)
      subst ea
      rw [mkIs_len] at d0
      have ht : xss.take (j + 1) = xss.take j ++ [xs] := take_succ' xss j xs hxj
      have hend : iEnd k0 (xss.take (j + 1)) = iEnd k0 (xss.take j) + (xs.length : Int) := by rw [ht, iEnd_snoc]
      have hge := iEnd_ge (xss.take j) k0
      have hle : iEnd k0 (xss.take (j + 1)) ≤ iEnd k0 xss := by
        have := iEnd_append (xss.drop (j + 1)) (xss.take (j + 1)) k0
        rw [List.take_append_drop] at this
        rw [this]
        exact iEnd_ge _ _
      have HEN := hidO hend
      have HI := hidO hi
      have hxl := hs xs (List.mem_of_getElem? hxj)
      have hk2 : iEnd k0 (xss.take j) + (xs.length : Int) ≤ 100000000 := by omega
      have hk1 : 0 < iEnd k0 (xss.take j) := by omega
      have hpos : ¬ iEnd k0 (xss.take j) + (xs.length : Int) < 0 := by omega
      clear ht hend hle hi
      go_wp2_with (go_at_call 53; refine (heldIntS_any a1 c1 xs.length _ _ HI.out hxl hk1 hk2).mono ?_; rintro e w1 ⟨rfl, hb1⟩)
      go_roundw
      case rel => exact ⟨j + 1, by omega, by go_num, by rw [HEN.out], hb.trans (hb1.mono hb.size)⟩
      case measure => simp [intOf]; omega
    · go_wp2
      go_ret
      obtain rfl : j = xss.length := by omega
      exact ⟨by rw [List.take_of_length_le (Nat.le_refl _)]; rfl, hb⟩
end Go.Proofs.YtgamdkokmkagaaaGreat
