/-
  OUR OWN TEXT. Tr5, Tr6, Sg, Tr7, one behind the other.
-/
import Derived.Test.YtgamdkokmkagaaaGreatKb
import Derived.Test.YtgamdkokmkagaaaGreatQa
namespace Go.Proofs.YtgamdkokmkagaaaGreat
open Go.RowKit
attribute [local go_sem ↓] Go.wp_at_zero Go.wp_at_succ

set_option maxHeartbeats 1600000 in
theorem markPatternS_tr (S : Nat → Prop) (a : Option Addr) (ns : List Nat) (c : Nat) (k0 : Int) (w : World) (ho : Nest S w a ns 3 2 6) (hl : ns.length ≤ 1048576) (hs : ∀ n ∈ ns, n ≤ 1048576) (hk : 0 < k0) (hk' : nEnd 2 6 k0 ns ≤ 100000000) :
    Calls Tryz.prog 25 #[.slice a ns.length c, .int .i64 k0] w fun e w' => e = .returned (.int .i64 (nEnd 2 6 k0 ns)) ∧ Tr S w w' := by
  go_enter Tryz.func25, Tryz.ntmps25
  go_wp2
  go_loopw [1, 5] (fun kv i wr => ∃ (j : Nat), j ≤ ns.length ∧ i = .int .i64 j ∧ kv = .int .i64 (nEnd 2 6 k0 (ns.take j)) ∧ Tr S w wr) (fun _ i _ => ns.length - (intOf i).toNat)
  case atStart => exact ⟨0, by omega, rfl, rfl, Tr.refl _ _⟩
  case round =>
    obtain ⟨j, hj, rfl, rfl, hm⟩ := hrel
    by_cases hjl : j < ns.length
    · obtain ⟨n, hnj⟩ : ∃ n, ns[j]? = some n := ⟨ns[j], by simp [hjl]⟩
      obtain ⟨b, o, a', c', ea, hc, hsl, hfl⟩ := (ho.tr hm) j n hnj
      subst ea
      obtain ⟨hS0, f0, v0, c0, t0⟩ := hc 0 (by omega) (by omega)
      obtain ⟨hS1, f1, v1, c1, t1⟩ := hc 1 (by omega) (by omega)
      simp only [Nat.add_zero] at f0 c0
      have ht : ns.take (j + 1) = ns.take j ++ [n] := take_succ' ns j n hnj
      have hend : nEnd 2 6 k0 (ns.take (j + 1)) = nEnd 2 6 k0 (ns.take j) + 2 + 6 * (n : Int) := by rw [ht, nEnd_snoc]
      have hge := nEnd_ge 2 6 (by omega) (by omega) (ns.take j) k0
      have hle : nEnd 2 6 k0 (ns.take (j + 1)) ≤ nEnd 2 6 k0 ns := by
        have := nEnd_append 2 6 (ns.drop (j + 1)) (ns.take (j + 1)) k0
        rw [List.take_append_drop] at this
        rw [this]
        exact nEnd_ge 2 6 (by omega) (by omega) _ _
      have hn1 := hs n (List.mem_of_getElem? hnj)
      obtain ⟨K, eK⟩ : ∃ x : Int, x = nEnd 2 6 k0 (ns.take j) := ⟨_, rfl⟩
      rw [← eK] at hend hge ⊢
      obtain ⟨m1, e1⟩ : ∃ x : Int, x = K + 1 := ⟨_, rfl⟩
      obtain ⟨m2, e2⟩ : ∃ x : Int, x = K + 2 := ⟨_, rfl⟩
      have hw1 : IntKind.i64.wrap (K + 1) = m1 := by rw [e1, IntKind.wrap_i64]; omega
      have hw2 : IntKind.i64.wrap (m1 + 1) = m2 := by rw [e1, e2, IntKind.wrap_i64] <;> omega
      have bl : 0 < m2 ∧ m2 + 6 * (n : Int) ≤ 100000000 := by omega
      have hEn : m2 + 6 * (n : Int) = nEnd 2 6 k0 (ns.take (j + 1)) := by omega
      have b1 : 0 < m1 ∧ m1 ≤ 100000000 := by omega
      have HE := hidT hEn
      have HM := hidT hm
      have HF := hidT hfl
      have hgl : b < wr.heap.size := World.block_lt_of_cell? wr ⟨b, _, none⟩ c0
      clear hm hc hfl hEn hend ht hle eK e1 e2
      go_wp2_with fail
      refine (markText_any m1 _ b1.1 b1.2).mono ?_
      rintro e w1 ⟨rfl, hb1⟩
      obtain ⟨hc1, hf1⟩ := bcell hb1
      have hgl1 : b < w1.heap.size := by
        have := hb1.size
        (try simp at this)
        omega
      go_wp2_with fail
      have NW := hidT (ho.tr HM.out)
      have x0 := Tr.refl S wr
      have x1 := x0.trans (nest_cell (NW.out.tr x0) hnj 0 (by omega) (by omega) (.bool (K % 3 == 0)) rfl)
      have x2 := x1.trans (Tr.of_below hb1)
      have x3 := x2.trans (nest_cell (NW.out.tr x2) hnj 1 (by omega) (by omega) (.string (mText m1)) rfl)
      have X := hidT x3
      clear x0 x1 x2 x3
      refine (markTermS_tr S a' n c' m2 _ (HF.out.tr X.out) hn1 bl.1 bl.2).mono ?_
      rintro e wz ⟨rfl, hz⟩
      go_wp2_with fail
      go_roundw
      case rel => exact ⟨j + 1, by omega, by go_num, by rw [HE.out], (HM.out.trans X.out).trans hz⟩
      case measure => simp [intOf]; omega
    · go_wp2
      go_ret
      obtain rfl : j = ns.length := by omega
      exact ⟨by rw [List.take_of_length_le (Nat.le_refl _)]; rfl, hm⟩

set_option maxHeartbeats 1600000 in
theorem markActionS_tr (S : Nat → Prop) (a : Option Addr) (ns : List Nat) (c : Nat) (k0 : Int) (w : World) (ho : Nest S w a ns 4 3 1) (hl : ns.length ≤ 1048576) (hs : ∀ n ∈ ns, n ≤ 1048576) (hk : 0 < k0) (hk' : nEnd 3 1 k0 ns ≤ 100000000) :
    Calls Tryz.prog 27 #[.slice a ns.length c, .int .i64 k0] w fun e w' => e = .returned (.int .i64 (nEnd 3 1 k0 ns)) ∧ Tr S w w' := by
  go_enter Tryz.func27, Tryz.ntmps27
  go_wp2
  go_loopw [1, 5] (fun kv i wr => ∃ (j : Nat), j ≤ ns.length ∧ i = .int .i64 j ∧ kv = .int .i64 (nEnd 3 1 k0 (ns.take j)) ∧ Tr S w wr) (fun _ i _ => ns.length - (intOf i).toNat)
  case atStart => exact ⟨0, by omega, rfl, rfl, Tr.refl _ _⟩
  case round =>
    obtain ⟨j, hj, rfl, rfl, hm⟩ := hrel
    by_cases hjl : j < ns.length
    · obtain ⟨n, hnj⟩ : ∃ n, ns[j]? = some n := ⟨ns[j], by simp [hjl]⟩
      obtain ⟨b, o, a', c', ea, hc, hsl, hfl⟩ := (ho.tr hm) j n hnj
      subst ea
      obtain ⟨hS0, f0, v0, c0, t0⟩ := hc 0 (by omega) (by omega)
      obtain ⟨hS1, f1, v1, c1, t1⟩ := hc 1 (by omega) (by omega)
      obtain ⟨hS2, f2, v2, c2, t2⟩ := hc 2 (by omega) (by omega)
      simp only [Nat.add_zero] at f0 c0
      have ht : ns.take (j + 1) = ns.take j ++ [n] := take_succ' ns j n hnj
      have hend : nEnd 3 1 k0 (ns.take (j + 1)) = nEnd 3 1 k0 (ns.take j) + 3 + 1 * (n : Int) := by rw [ht, nEnd_snoc]
      have hge := nEnd_ge 3 1 (by omega) (by omega) (ns.take j) k0
      have hle : nEnd 3 1 k0 (ns.take (j + 1)) ≤ nEnd 3 1 k0 ns := by
        have := nEnd_append 3 1 (ns.drop (j + 1)) (ns.take (j + 1)) k0
        rw [List.take_append_drop] at this
        rw [this]
        exact nEnd_ge 3 1 (by omega) (by omega) _ _
      have hn1 := hs n (List.mem_of_getElem? hnj)
      obtain ⟨K, eK⟩ : ∃ x : Int, x = nEnd 3 1 k0 (ns.take j) := ⟨_, rfl⟩
      rw [← eK] at hend hge ⊢
      obtain ⟨m1, e1⟩ : ∃ x : Int, x = K + 1 := ⟨_, rfl⟩
      obtain ⟨m2, e2⟩ : ∃ x : Int, x = K + 2 := ⟨_, rfl⟩
      obtain ⟨m3, e3⟩ : ∃ x : Int, x = K + 3 := ⟨_, rfl⟩
      have hw1 : IntKind.i64.wrap (K + 1) = m1 := by rw [e1, IntKind.wrap_i64]; omega
      have hw2 : IntKind.i64.wrap (m1 + 1) = m2 := by rw [e1, e2, IntKind.wrap_i64] <;> omega
      have hw3 : IntKind.i64.wrap (m2 + 1) = m3 := by rw [e2, e3, IntKind.wrap_i64] <;> omega
      have bl : 0 < m3 ∧ m3 + (n : Int) ≤ 100000000 := by omega
      have hEn : m3 + (n : Int) = nEnd 3 1 k0 (ns.take (j + 1)) := by omega
      have b2 : 0 < m2 ∧ m2 ≤ 100000000 := by omega
      have HE := hidT hEn
      have HM := hidT hm
      have HF := hidT hfl
      have hgl : b < wr.heap.size := World.block_lt_of_cell? wr ⟨b, _, none⟩ c0
      clear hm hc hfl hEn hend ht hle eK e1 e2 e3
      go_wp2_with fail
      refine (markText_any m2 _ b2.1 b2.2).mono ?_
      rintro e w1 ⟨rfl, hb1⟩
      obtain ⟨hc1, hf1⟩ := bcell hb1
      have hgl1 : b < w1.heap.size := by
        have := hb1.size
        (try simp at this)
        omega
      go_wp2_with fail
      have NW := hidT (ho.tr HM.out)
      have x0 := Tr.refl S wr
      have x1 := x0.trans (nest_cell (NW.out.tr x0) hnj 0 (by omega) (by omega) (.int .i64 K) rfl)
      have x2 := x1.trans (nest_cell (NW.out.tr x1) hnj 1 (by omega) (by omega) (.int .i64 m1) rfl)
      have x3 := x2.trans (Tr.of_below hb1)
      have x4 := x3.trans (nest_cell (NW.out.tr x3) hnj 2 (by omega) (by omega) (.string (mText m2)) rfl)
      have X := hidT x4
      clear x0 x1 x2 x3 x4
      refine (markIntS_tr S a' n c' m3 _ (HF.out.tr X.out) hn1 bl.1 bl.2).mono ?_
      rintro e wz ⟨rfl, hz⟩
      go_wp2_with fail
      go_roundw
      case rel => exact ⟨j + 1, by omega, by go_num, by rw [HE.out], (HM.out.trans X.out).trans hz⟩
      case measure => simp [intOf]; omega
    · go_wp2
      go_ret
      obtain rfl : j = ns.length := by omega
      exact ⟨by rw [List.take_of_length_le (Nat.le_refl _)]; rfl, hm⟩

end Go.Proofs.YtgamdkokmkagaaaGreat

namespace Go.Proofs.YtgamdkokmkagaaaGreat
open Go.RowKit
attribute [local go_sem ↓] Go.wp_at_zero Go.wp_at_succ

/-- What marks ask of a rule: how many terms its patterns have, how many exprs there are, how many arguments its actions have. -/
abbrev RS := List Nat × Nat × List Nat
def rW (x : RS) : Nat := 2 + nW 2 6 x.1 + 8 * x.2.1 + nW 3 1 x.2.2
def RSle (x : RS) : Prop := x.1.length ≤ 1048576 ∧ (∀ n ∈ x.1, n ≤ 1048576) ∧ x.2.1 ≤ 1048576 ∧ x.2.2.length ≤ 1048576 ∧ ∀ n ∈ x.2.2, n ≤ 1048576
def rsW (rs : List RS) : Nat := (rs.map rW).sum
/-- Rules that came in, as rows that marks may write. -/
def RNest (S : Nat → Prop) (w : World) (a : Option Addr) (rs : List RS) : Prop :=
  ∀ j x, rs[j]? = some x → ∃ b o a1 c1 a2 c2 a3 c3, a = some ⟨b, o, none⟩ ∧ Cel S w b (o + j * 5) ∧ Cel S w b (o + j * 5 + 1) ∧ w.cell? ⟨b, o + j * 5 + 2, none⟩ = some (.slice a1 x.1.length c1) ∧ w.cell? ⟨b, o + j * 5 + 3, none⟩ = some (.slice a2 x.2.1 c2) ∧ w.cell? ⟨b, o + j * 5 + 4, none⟩ = some (.slice a3 x.2.2.length c3) ∧ Nest S w a1 x.1 3 2 6 ∧ Flat S w a2 x.2.1 8 ∧ Nest S w a3 x.2.2 4 3 1
theorem RNest.tr {S S' : Nat → Prop} {w w' : World} {a : Option Addr} {rs : List RS} (h : RNest S w a rs) (ht : Tr S' w w') : RNest S w' a rs := fun j x hj => by
  obtain ⟨b, o, a1, c1, a2, c2, a3, c3, e, h0, h1, h2, h3, h4, h5, h6, h7⟩ := h j x hj
  exact ⟨b, o, a1, c1, a2, c2, a3, c3, e, h0.tr ht, h1.tr ht, ht.keep _ _ h2 rfl, ht.keep _ _ h3 rfl, ht.keep _ _ h4 rfl, h5.tr ht, h6.tr ht, h7.tr ht⟩
theorem rsW_take {rs : List RS} {j : Nat} {x : RS} (h : rs[j]? = some x) : rsW (rs.take (j + 1)) = rsW (rs.take j) + rW x := sum_take_succ rW rs j x h
theorem rsW_le (rs : List RS) (j : Nat) : rsW (rs.take j) ≤ rsW rs := by
  have h : rsW (rs.take j) + rsW (rs.drop j) = rsW rs := by
    unfold rsW
    rw [← List.sum_append, ← List.map_append, List.take_append_drop]
  omega

set_option maxHeartbeats 1600000 in
theorem markRuleS_tr (S : Nat → Prop) (a : Option Addr) (rs : List RS) (c : Nat) (k0 : Int) (w : World) (ho : RNest S w a rs) (hl : rs.length ≤ 1048576) (hs : ∀ x ∈ rs, RSle x) (hk : 0 < k0) (hk' : k0 + (rsW rs : Int) ≤ 100000000) :
    Calls Tryz.prog 10 #[.slice a rs.length c, .int .i64 k0] w fun e w' => e = .returned (.int .i64 (k0 + (rsW rs : Int))) ∧ Tr S w w' := by
  go_enter Tryz.func10, Tryz.ntmps10
  go_wp2
  go_loopw [1, 5] (fun kv i wr => ∃ (j : Nat), j ≤ rs.length ∧ i = .int .i64 j ∧ kv = .int .i64 (k0 + (rsW (rs.take j) : Int)) ∧ Tr S w wr) (fun _ i _ => rs.length - (intOf i).toNat)
  case atStart => exact ⟨0, by omega, rfl, by simp [rsW], Tr.refl _ _⟩
  case round =>
    obtain ⟨j, hj, rfl, rfl, hm⟩ := hrel
    by_cases hjl : j < rs.length
    · obtain ⟨x, hxj⟩ : ∃ x, rs[j]? = some x := ⟨rs[j], by simp [hjl]⟩
      obtain ⟨b, o, a1, c1, a2, c2, a3, c3, ea, hc0, hc1, s2, s3, s4, n1, n2, n3⟩ := (ho.tr hm) j x hxj
      subst ea
      obtain ⟨hS0, f0, v0, d0, t0⟩ := hc0
      obtain ⟨hS1, f1, v1, d1, t1⟩ := hc1
      have hend := rsW_take hxj
      have hle := rsW_le rs (j + 1)
      have hx := hs x (List.mem_of_getElem? hxj)
      have hrw : rW x = 2 + nW 2 6 x.1 + 8 * x.2.1 + nW 3 1 x.2.2 := rfl
      obtain ⟨l1, M1', l2, l3, M3'⟩ := hx
      have M1 := hidT M1'
      have M3 := hidT M3'
      clear M1' M3'
      obtain ⟨K, eK⟩ : ∃ z : Int, z = k0 + (rsW (rs.take j) : Int) := ⟨_, rfl⟩
      rw [← eK]
      obtain ⟨m1, e1⟩ : ∃ z : Int, z = K + 1 := ⟨_, rfl⟩
      obtain ⟨m2, e2⟩ : ∃ z : Int, z = m1 + 1 := ⟨_, rfl⟩
      have hw1 : IntKind.i64.wrap (K + 1) = m1 := by rw [e1, IntKind.wrap_i64]; omega
      have hw2 : IntKind.i64.wrap (m1 + 1) = m2 := by rw [e2, e1, IntKind.wrap_i64] <;> omega
      have b0 : 0 < K ∧ K ≤ 100000000 := by omega
      have E1 : Hid (nEnd 2 6 m2 x.1 = m2 + (nW 2 6 x.1 : Int)) := nEnd_nW 2 6 x.1 m2
      obtain ⟨q1, f1'⟩ : ∃ z : Int, z = m2 + (nW 2 6 x.1 : Int) := ⟨_, rfl⟩
      obtain ⟨q2, f2'⟩ : ∃ z : Int, z = q1 + 8 * (x.2.1 : Int) := ⟨_, rfl⟩
      have E3 : Hid (nEnd 3 1 q2 x.2.2 = q2 + (nW 3 1 x.2.2 : Int)) := nEnd_nW 3 1 x.2.2 q2
      have P1 := hidT (fun w' (h : Nest S w' a1 x.1 3 2 6) => markPatternS_tr S a1 x.1 c1 m2 w' h (by omega) M1.out (by omega) (by rw [E1.out]; omega))
      have P2 := hidT (fun w' (h : Flat S w' a2 x.2.1 8) => markExprS_tr S a2 x.2.1 c2 q1 w' h (by omega) (by omega) (by omega))
      have P3 := hidT (fun w' (h : Nest S w' a3 x.2.2 4 3 1) => markActionS_tr S a3 x.2.2 c3 q2 w' h (by omega) M3.out (by omega) (by rw [E3.out]; omega))
      have hEn : q2 + (nW 3 1 x.2.2 : Int) = k0 + (rsW (rs.take (j + 1)) : Int) := by omega
      have HE := hidT hEn
      have HM := hidT hm
      have N1 := hidT n1
      have N2 := hidT n2
      have N3 := hidT n3
      have Q1 := hidT f1'
      have Q2 := hidT f2'
      have hgl : b < wr.heap.size := World.block_lt_of_cell? wr ⟨b, _, none⟩ d0
      clear hm n1 n2 n3 hEn hend hle eK e1 e2 f1' f2' hrw
      go_wp2_with fail
      refine (markText_any K _ b0.1 b0.2).mono ?_
      rintro e w1 ⟨rfl, hb1⟩
      obtain ⟨hc1, hf1⟩ := bcell hb1
      have hgl1 : b < w1.heap.size := by
        have := hb1.size
        (try simp at this)
        omega
      go_wp2_with fail
      have x1 := Tr.of_below (S := S) hb1
      obtain ⟨_, _, u0, z0, y0⟩ := Cel.tr (S' := S) (⟨hS0, f0, v0, d0, t0⟩ : Cel S wr b (o + j * 5)) x1
      have x2 := x1.trans (Tr.set (p := ⟨b, o + j * 5, none⟩) hS0 z0 y0 (u := .string (mText K)) rfl)
      obtain ⟨_, _, u1, z1, y1⟩ := Cel.tr (S' := S) (⟨hS1, f1, v1, d1, t1⟩ : Cel S wr b (o + j * 5 + 1)) x2
      have x3 := x2.trans (Tr.set (p := ⟨b, o + j * 5 + 1, none⟩) hS1 z1 y1 (u := .int .i64 m1) rfl)
      have X := hidT x3
      clear x1 x2 x3
      refine (P1.out _ (N1.out.tr X.out)).mono ?_
      rintro e w2 ⟨rfl, h2⟩
      rw [show nEnd 2 6 m2 x.1 = q1 from by rw [E1.out, Q1.out]]
      have s3' := (X.out.trans h2).keep _ _ s3 rfl
      have s4' := (X.out.trans h2).keep _ _ s4 rfl
      go_wp2_with fail
      refine (P2.out _ (N2.out.tr (X.out.trans h2))).mono ?_
      rintro e w3 ⟨rfl, h3⟩
      rw [← Q2.out]
      have s4'' := h3.keep _ _ s4' rfl
      go_wp2_with fail
      refine (P3.out _ (N3.out.tr ((X.out.trans h2).trans h3))).mono ?_
      rintro e w4 ⟨rfl, h4⟩
      rw [show nEnd 3 1 q2 x.2.2 = k0 + (rsW (rs.take (j + 1)) : Int) from by rw [E3.out, HE.out]]
      go_wp2_with fail
      go_roundw
      case rel => exact ⟨j + 1, by omega, by go_num, rfl, (((HM.out.trans X.out).trans h2).trans h3).trans h4⟩
      case measure => simp [intOf]; omega
    · go_wp2
      go_ret
      obtain rfl : j = rs.length := by omega
      exact ⟨by rw [List.take_of_length_le (Nat.le_refl _)]; rfl, hm⟩

end Go.Proofs.YtgamdkokmkagaaaGreat

namespace Go.Proofs.YtgamdkokmkagaaaGreat
open Go.RowKit

/-- Blocks from B on, below H. -/
def Seg (B H : Nat) (g : Nat) : Prop := B ≤ g ∧ g < H
theorem free_of {w : World} {b i : Nat} {c : Array Value} {t : TypeId} (h : w.heap[b]? = some (.cells c t (0, 0))) : w.frozen? ⟨b, i, none⟩ = false := by simp [World.frozen?, h]
theorem IntsAt.flat {B H : Nat} {w : World} {a : Option Addr} {xs : List Int} (h : IntsAt (some B) w a xs) (hH : w.heap.size ≤ H) : Flat (Seg B H) w a xs.length 1 := by
  intro j hj
  obtain ⟨x, hx⟩ : ∃ x, xs[j]? = some x := ⟨xs[j], by simp [hj]⟩
  obtain ⟨b, o, e, hq, d0⟩ := h.get hx
  obtain ⟨hB0, cs, hb⟩ := hq B rfl
  have hB : Seg B H b := ⟨hB0, Nat.lt_of_lt_of_le (World.block_lt_of_cell? w ⟨b, _, none⟩ d0) hH⟩
  refine ⟨b, o, e, fun q hq => ?_⟩
  obtain rfl : q = 0 := by omega
  exact ⟨hB, free_of hb, _, by simpa using d0, rfl⟩
theorem hidR {p : Prop} (h : p) : Hid p := h
end Go.Proofs.YtgamdkokmkagaaaGreat

namespace Go.Proofs.YtgamdkokmkagaaaGreat
open Go.RowKit

theorem seg_of {B H : Nat} {w : World} {b i : Nat} {t : TypeId} {v : Value} (hq : Qb (some B) w t b) (hc : w.cell? ⟨b, i, none⟩ = some v) (hH : w.heap.size ≤ H) : Seg B H b ∧ ∀ k, w.frozen? ⟨b, k, none⟩ = false := by
  obtain ⟨hB0, cs, hb⟩ := hq B rfl
  exact ⟨⟨hB0, Nat.lt_of_lt_of_le (World.block_lt_of_cell? w ⟨b, _, none⟩ hc) hH⟩, fun k => free_of hb⟩
theorem TmsAt.flat {B H : Nat} {w : World} {a : Option Addr} {xs : List Tm} (h : TmsAt (some B) w a xs) (hH : w.heap.size ≤ H) : Flat (Seg B H) w a xs.length 6 := by
  intro j hj
  obtain ⟨x, hx⟩ : ∃ x, xs[j]? = some x := ⟨xs[j], by simp [hj]⟩
  obtain ⟨b, o, e, hq, d0, d1, d2, d3, d4, d5⟩ := h.get hx
  obtain ⟨hs, hf⟩ := seg_of hq d0 hH
  refine ⟨b, o, e, fun q hq => ?_⟩
  have : q = 0 ∨ q = 1 ∨ q = 2 ∨ q = 3 ∨ q = 4 ∨ q = 5 := by omega
  rcases this with rfl | rfl | rfl | rfl | rfl | rfl
  · exact ⟨hs, hf _, _, d0, rfl⟩
  · exact ⟨hs, hf _, _, d1, rfl⟩
  · exact ⟨hs, hf _, _, d2, rfl⟩
  · exact ⟨hs, hf _, _, d3, rfl⟩
  · exact ⟨hs, hf _, _, d4, rfl⟩
  · exact ⟨hs, hf _, _, d5, rfl⟩
theorem ExsAt.flat {B H : Nat} {w : World} {a : Option Addr} {xs : List Ex} (h : ExsAt (some B) w a xs) (hH : w.heap.size ≤ H) : Flat (Seg B H) w a xs.length 8 := by
  intro j hj
  obtain ⟨x, hx⟩ : ∃ x, xs[j]? = some x := ⟨xs[j], by simp [hj]⟩
  obtain ⟨b, o, e, hq, d0, d1, d2, d3, d4, d5, d6, d7⟩ := h.get hx
  obtain ⟨hs, hf⟩ := seg_of hq d0 hH
  refine ⟨b, o, e, fun q hq => ?_⟩
  have : q = 0 ∨ q = 1 ∨ q = 2 ∨ q = 3 ∨ q = 4 ∨ q = 5 ∨ q = 6 ∨ q = 7 := by omega
  rcases this with rfl | rfl | rfl | rfl | rfl | rfl | rfl | rfl
  · exact ⟨hs, hf _, _, d0, rfl⟩
  · exact ⟨hs, hf _, _, d1, rfl⟩
  · exact ⟨hs, hf _, _, d2, rfl⟩
  · exact ⟨hs, hf _, _, d3, rfl⟩
  · exact ⟨hs, hf _, _, d4, rfl⟩
  · exact ⟨hs, hf _, _, d5, rfl⟩
  · exact ⟨hs, hf _, _, d6, rfl⟩
  · exact ⟨hs, hf _, _, d7, rfl⟩
theorem PtsAt.nest {B H : Nat} {w : World} {a : Option Addr} {xs : List Pt} (h : PtsAt (some B) w a xs) (hH : w.heap.size ≤ H) : Nest (Seg B H) w a (xs.map fun p => p.terms.length) 3 2 6 := by
  intro j n hj
  rw [List.getElem?_map, Option.map_eq_some_iff] at hj
  obtain ⟨x, hx, rfl⟩ := hj
  obtain ⟨b, o, a1, c1, e, hq, d0, d1, d2, ht⟩ := h.get hx
  obtain ⟨hs, hf⟩ := seg_of hq d0 hH
  refine ⟨b, o, a1, c1, e, fun q hq hp => ?_, d2, TmsAt.flat ht hH⟩
  have : q = 0 ∨ q = 1 := by omega
  rcases this with rfl | rfl
  · exact ⟨hs, hf _, _, d0, rfl⟩
  · exact ⟨hs, hf _, _, d1, rfl⟩
theorem AcsAt.nest {B H : Nat} {w : World} {a : Option Addr} {xs : List Ac} (h : AcsAt (some B) w a xs) (hH : w.heap.size ≤ H) : Nest (Seg B H) w a (xs.map fun p => p.args.length) 4 3 1 := by
  intro j n hj
  rw [List.getElem?_map, Option.map_eq_some_iff] at hj
  obtain ⟨x, hx, rfl⟩ := hj
  obtain ⟨b, o, a1, c1, e, hq, d0, d1, d2, d3, ht⟩ := h.get hx
  obtain ⟨hs, hf⟩ := seg_of hq d0 hH
  refine ⟨b, o, a1, c1, e, fun q hq hp => ?_, d3, IntsAt.flat ht hH⟩
  have : q = 0 ∨ q = 1 ∨ q = 2 := by omega
  rcases this with rfl | rfl | rfl
  · exact ⟨hs, hf _, _, d0, rfl⟩
  · exact ⟨hs, hf _, _, d1, rfl⟩
  · exact ⟨hs, hf _, _, d2, rfl⟩
def rsOf (r : Ru) : RS := (r.pats.map fun p => p.terms.length, r.exprs.length, r.acts.map fun p => p.args.length)
theorem RusAt.nest {B H : Nat} {w : World} {a : Option Addr} {xs : List Ru} (h : RusAt (some B) w a xs) (hH : w.heap.size ≤ H) : RNest (Seg B H) w a (xs.map rsOf) := by
  intro j n hj
  rw [List.getElem?_map, Option.map_eq_some_iff] at hj
  obtain ⟨x, hx, rfl⟩ := hj
  obtain ⟨b, o, a1, c1, a2, c2, a3, c3, e, hq, d0, d1, d2, d3, d4, hp, he, ha, _⟩ := h.get hx
  obtain ⟨hs, hf⟩ := seg_of hq d0 hH
  exact ⟨b, o, a1, c1, a2, c2, a3, c3, e, ⟨hs, hf _, _, d0, rfl⟩, ⟨hs, hf _, _, d1, rfl⟩, by rw [d2]; simp [rsOf], d3, by rw [d4]; simp [rsOf], PtsAt.nest hp hH, ExsAt.flat he hH, AcsAt.nest ha hH⟩

theorem nW_pats : ∀ (l : List Pt), nW 2 6 (l.map fun p => p.terms.length) ≤ 8 * szL Pt.sz l
  | [] => Nat.zero_le _
  | p :: r => by
    have h := nW_pats r
    have h2 : p.terms.length ≤ p.sz := by unfold Pt.sz szL; omega
    simp only [nW, szL, List.map_cons, List.sum_cons, List.length_cons] at *
    omega
theorem nW_acts : ∀ (l : List Ac), nW 3 1 (l.map fun p => p.args.length) ≤ 8 * szL Ac.sz l
  | [] => Nat.zero_le _
  | p :: r => by
    have h := nW_acts r
    have h2 : p.args.length ≤ p.sz := by unfold Ac.sz; omega
    simp only [nW, szL, List.map_cons, List.sum_cons, List.length_cons] at *
    omega
theorem rW_le (r : Ru) : rW (rsOf r) ≤ 2 + 8 * r.sz := by
  have h1 := nW_pats r.pats
  have h2 := nW_acts r.acts
  have h3 : r.exprs.length ≤ szL Ex.sz r.exprs := by unfold szL; omega
  unfold rW rsOf Ru.sz
  simp only
  omega
theorem rsW_sz : ∀ (l : List Ru), rsW (l.map rsOf) ≤ 8 * szL Ru.sz l
  | [] => Nat.zero_le _
  | r :: s => by
    have h := rsW_sz s
    have h2 := rW_le r
    simp only [rsW, szL, List.map_cons, List.sum_cons, List.length_cons] at *
    omega
theorem rs_le {l : List Ru} (h : ListLe Ru.le 1048576 l) {x : RS} (hx : x ∈ l.map rsOf) : RSle x := by
  obtain ⟨r, hr, rfl⟩ := List.mem_map.1 hx
  obtain ⟨_, hp, he, ha⟩ := h.2 r hr
  refine ⟨by simpa [rsOf] using hp.1, fun n hn => ?_, he.1, by simpa [rsOf] using ha.1, fun n hn => ?_⟩
  · obtain ⟨p, hp', rfl⟩ := List.mem_map.1 hn
    exact (hp.2 p hp').2.1
  · obtain ⟨p, hp', rfl⟩ := List.mem_map.1 hn
    exact (ha.2 p hp').2
end Go.Proofs.YtgamdkokmkagaaaGreat
